/- sign and closes of the reference. No condition. -/
import Derived.Test.YtjpmgloofcgfnaaDoorG1
import Derived.Deep.QuietTactic
import Derived.BigQuiet
namespace Go.Proofs.YtjpmgloofcgfnaaDoor
open Go.RowKit
set_option linter.unusedVariables false
set_option linter.unusedSimpArgs false

def sg2 : List ByteArray := [⟨#[60, 60]⟩, ⟨#[62, 62]⟩, ⟨#[38, 94]⟩, ⟨#[38, 38]⟩, ⟨#[124, 124]⟩, ⟨#[61, 61]⟩, ⟨#[33, 61]⟩, ⟨#[60, 61]⟩, ⟨#[62, 61]⟩, ⟨#[58, 61]⟩, ⟨#[60, 45]⟩]
def sg1 : List ByteArray := [⟨#[43]⟩, ⟨#[45]⟩, ⟨#[42]⟩, ⟨#[47]⟩, ⟨#[37]⟩, ⟨#[38]⟩, ⟨#[124]⟩, ⟨#[94]⟩, ⟨#[33]⟩, ⟨#[60]⟩, ⟨#[62]⟩, ⟨#[61]⟩, ⟨#[40]⟩, ⟨#[41]⟩, ⟨#[91]⟩, ⟨#[93]⟩, ⟨#[123]⟩, ⟨#[125]⟩, ⟨#[44]⟩, ⟨#[46]⟩, ⟨#[58]⟩, ⟨#[59]⟩]
theorem signs_two : signsL = sg2 ++ sg1 := rfl
theorem inB_iff {L : List ByteArray} {x : ByteArray} : inB L x = true ↔ x ∈ L := by
  constructor
  · intro h
    rcases Classical.em (x ∈ L) with h2 | h2
    · exact h2
    · rw [inB_no h2] at h; cases h
  · exact inB_yes
theorem find_len (l : List UInt8) (n : Nat) : ∀ (S : List ByteArray), (∀ g ∈ S, g.size = n) → S.find? (fun g => Lib.hasPrefix l g.data.toList) = if n ≤ l.length ∧ inB S (⟨(l.take n).toArray⟩ : ByteArray) = true then some ⟨(l.take n).toArray⟩ else none := by
  intro S
  induction S with
  | nil =>
    intro _
    rw [if_neg (fun h => by have := inB_iff.1 h.2; simp at this)]
    rfl
  | cons g S ih =>
    intro hS
    have hg := hS g (by simp)
    have hgl : g.data.toList.length = n := by rw [len_size]; exact hg
    rw [List.find?_cons]
    by_cases hp : Lib.hasPrefix l g.data.toList = true
    · rw [hp]
      have h1 : g.data.toList <+: l := List.isPrefixOf_iff_prefix.1 hp
      have h2 := List.prefix_iff_eq_take.1 h1
      rw [hgl] at h2
      have h3 : (⟨(l.take n).toArray⟩ : ByteArray) = g := by rw [← h2]
      have h4 := h1.length_le
      rw [if_pos ⟨by omega, inB_yes (by rw [h3]; simp)⟩, h3]
    · have hp2 : Lib.hasPrefix l g.data.toList = false := by simpa using hp
      rw [hp2]
      simp only
      rw [ih (fun x hx => hS x (by simp [hx]))]
      by_cases hl : n ≤ l.length
      · have h5 : (⟨(l.take n).toArray⟩ : ByteArray) ≠ g := fun e => by
          apply hp
          have h6 := congrArg (fun b : ByteArray => b.data.toList) e
          simp only at h6
          exact List.isPrefixOf_iff_prefix.2 (by rw [← h6]; exact List.take_prefix _ _)
        have h7 : (inB (g :: S) (⟨(l.take n).toArray⟩ : ByteArray) = true) = (inB S (⟨(l.take n).toArray⟩ : ByteArray) = true) := propext (by rw [inB_iff, inB_iff]; simp [h5])
        simp only [h7]
      · rw [if_neg (fun h => hl h.1), if_neg (fun h => hl h.1)]
theorem tab_sg2 (w : World) : tab (w.alloc (.cells #[.string ⟨#[60, 60]⟩, .string ⟨#[62, 62]⟩, .string ⟨#[38, 94]⟩, .string ⟨#[38, 38]⟩, .string ⟨#[124, 124]⟩, .string ⟨#[61, 61]⟩, .string ⟨#[33, 61]⟩, .string ⟨#[60, 61]⟩, .string ⟨#[62, 61]⟩, .string ⟨#[58, 61]⟩, .string ⟨#[60, 45]⟩] 9)) A0 9 (some ⟨w.heap.size, 0, none⟩) 11 11 1 (fun i => [.string (fnS sg2 i)]) := tab_lit w sg2 9
theorem tab_sg1 (w : World) : tab (w.alloc (.cells #[.string ⟨#[43]⟩, .string ⟨#[45]⟩, .string ⟨#[42]⟩, .string ⟨#[47]⟩, .string ⟨#[37]⟩, .string ⟨#[38]⟩, .string ⟨#[124]⟩, .string ⟨#[94]⟩, .string ⟨#[33]⟩, .string ⟨#[60]⟩, .string ⟨#[62]⟩, .string ⟨#[61]⟩, .string ⟨#[40]⟩, .string ⟨#[41]⟩, .string ⟨#[91]⟩, .string ⟨#[93]⟩, .string ⟨#[123]⟩, .string ⟨#[125]⟩, .string ⟨#[44]⟩, .string ⟨#[46]⟩, .string ⟨#[58]⟩, .string ⟨#[59]⟩] 9)) A0 9 (some ⟨w.heap.size, 0, none⟩) 22 22 1 (fun i => [.string (fnS sg1 i)]) := tab_lit w sg1 9
theorem sg2_size : ∀ g ∈ sg2, g.size = 2 := by decide
theorem sg1_size : ∀ g ∈ sg1, g.size = 1 := by decide
theorem sub_is (s : ByteArray) (p n : Nat) : (⟨((s.data.toList.drop p).take n).toArray⟩ : ByteArray) = s.extract p (p + n) := by
  apply ByteArray.ext
  apply Array.toList_inj.1
  rw [sub_list]
theorem signV_is {s : ByteArray} {p : Nat} (hp : p < s.size) : signV (s.extract p s.size).data.toList = if p + 2 ≤ s.size ∧ inB sg2 (s.extract p (p + 2)) = true then s.extract p (p + 2) else if inB sg1 (s.extract p (p + 1)) = true then s.extract p (p + 1) else ⟨#[]⟩ := by
  rw [rest_list]
  unfold signV
  rw [signs_two, List.find?_append, find_len _ 2 sg2 sg2_size, find_len _ 1 sg1 sg1_size, sub_is, sub_is, List.length_drop, len_size]
  have e1 : (2 ≤ s.size - p) = (p + 2 ≤ s.size) := propext ⟨fun _ => by omega, fun _ => by omega⟩
  have e2 : (1 ≤ s.size - p) = True := propext ⟨fun _ => trivial, fun _ => by omega⟩
  simp only [e1, e2, true_and]
  split
  · rfl
  · split <;> rfl
set_option maxHeartbeats 3200000 in
set_option maxRecDepth 100000 in
theorem c_rSign (s : ByteArray) (p : Nat) (w : World) (hp : p < s.size) (hs : s.size ≤ 65536) : Calls Tryd.prog 42 #[.string s, .int .i64 p] w fun e w' => e = .returned (.string (signV (s.extract p s.size).data.toList)) ∧ Kp w w' := by
  rw [signV_is hp]
  have i1 : (0 : Int) ≤ p := by omega
  have i2 : (p : Int) ≤ (p : Int) + 2 := by omega
  have i3 : ((p : Int) + 2).toNat = p + 2 := by omega
  have i4 : (p : Int) ≤ (p : Int) + 1 := by omega
  have i5 : ((p : Int) + 1).toNat = p + 1 := by omega
  have i6 : (p : Int) + 1 ≤ s.size := by omega
  by_cases h2 : p + 2 ≤ s.size
  · have j1 : (p : Int) + 2 ≤ s.size := by omega
    have q1 : decide ((p : Int) + 2 ≤ (s.size : Int)) = true := decide_eq_true j1
    cases hm : inB sg2 (s.extract p (p + 2)) with
    | true =>
      rw [if_pos ⟨h2, rfl⟩]
      have HB := Lib.hid hm
      have HT := Lib.hid tab_sg2
      clear hm
      go_enter Tryd.func42, Tryd.ntmps42
      go_wp2_with (first | (go_at_call 35; (with_reducible show Calls _ _ #[.slice _ 11 11, _] _ _); refine (c_in _ A0 (some ⟨w.heap.size, 0, none⟩) 11 11 sg2 (s.extract p (p + 2)) rfl (HT.out _) (by decide)).mono ?_; rintro e w2 ⟨rfl, hk⟩; rw [HB.out]))
      go_ret
      exact ⟨rfl, ((Kp.refl w).alloc _).trans hk⟩
    | false =>
      rw [if_neg (fun h => by cases h.2)]
      have HB := Lib.hid hm
      have HT := Lib.hid tab_sg2
      have HT1 := Lib.hid tab_sg1
      clear hm
      cases h1 : inB sg1 (s.extract p (p + 1)) with
      | true =>
        rw [if_pos rfl]
        have HB1 := Lib.hid h1
        clear h1
        go_enter Tryd.func42, Tryd.ntmps42
        go_wp2_with (first | (go_at_call 35; (with_reducible show Calls _ _ #[.slice _ 11 11, _] _ _); refine (c_in _ A0 (some ⟨w.heap.size, 0, none⟩) 11 11 sg2 (s.extract p (p + 2)) rfl (HT.out _) (by decide)).mono ?_; rintro e w2 ⟨rfl, hk⟩; rw [HB.out]; have K2 := Lib.hid (((Kp.refl w).alloc _).trans hk); clear hk) | (go_at_call 35; (with_reducible show Calls _ _ #[.slice _ 22 22, _] _ _); refine (c_in _ A0 (some ⟨w2.heap.size, 0, none⟩) 22 22 sg1 (s.extract p (p + 1)) rfl (HT1.out _) (by decide)).mono ?_; rintro e w3 ⟨rfl, hk⟩; rw [HB1.out]))
        go_ret
        exact ⟨rfl, (K2.out.alloc _).trans hk⟩
      | false =>
        rw [if_neg (by decide)]
        have HB1 := Lib.hid h1
        clear h1
        go_enter Tryd.func42, Tryd.ntmps42
        go_wp2_with (first | (go_at_call 35; (with_reducible show Calls _ _ #[.slice _ 11 11, _] _ _); refine (c_in _ A0 (some ⟨w.heap.size, 0, none⟩) 11 11 sg2 (s.extract p (p + 2)) rfl (HT.out _) (by decide)).mono ?_; rintro e w2 ⟨rfl, hk⟩; rw [HB.out]; have K2 := Lib.hid (((Kp.refl w).alloc _).trans hk); clear hk) | (go_at_call 35; (with_reducible show Calls _ _ #[.slice _ 22 22, _] _ _); refine (c_in _ A0 (some ⟨w2.heap.size, 0, none⟩) 22 22 sg1 (s.extract p (p + 1)) rfl (HT1.out _) (by decide)).mono ?_; rintro e w3 ⟨rfl, hk⟩; rw [HB1.out]))
        go_ret
        exact ⟨rfl, (K2.out.alloc _).trans hk⟩
  · have q1 : decide ((p : Int) + 2 ≤ (s.size : Int)) = false := decide_eq_false (by omega)
    rw [if_neg (fun h => h2 h.1)]
    have HT1 := Lib.hid tab_sg1
    cases h1 : inB sg1 (s.extract p (p + 1)) with
    | true =>
      rw [if_pos rfl]
      have HB1 := Lib.hid h1
      clear h1
      go_enter Tryd.func42, Tryd.ntmps42
      go_wp2_with (first | (go_at_call 35; refine (c_in _ A0 (some ⟨w.heap.size, 0, none⟩) 22 22 sg1 (s.extract p (p + 1)) rfl (HT1.out _) (by decide)).mono ?_; rintro e w3 ⟨rfl, hk⟩; rw [HB1.out]))
      go_ret
      exact ⟨rfl, ((Kp.refl w).alloc _).trans hk⟩
    | false =>
      rw [if_neg (by decide)]
      have HB1 := Lib.hid h1
      clear h1
      go_enter Tryd.func42, Tryd.ntmps42
      go_wp2_with (first | (go_at_call 35; refine (c_in _ A0 (some ⟨w.heap.size, 0, none⟩) 22 22 sg1 (s.extract p (p + 1)) rfl (HT1.out _) (by decide)).mono ?_; rintro e w3 ⟨rfl, hk⟩; rw [HB1.out]))
      go_ret
      exact ⟨rfl, ((Kp.refl w).alloc _).trans hk⟩
/-- Does a statement end behind it, by the reference? -/
noncomputable def closB (t : Tk) : Bool := decide (t.k = 1 ∨ t.k = 2) || inB lawL t.text
set_option maxHeartbeats 3200000 in
set_option maxRecDepth 100000 in
theorem c_closes (t : Tk) (w : World) : Calls Tryd.prog 27 #[t.val] w fun e w' => e = .returned (.bool (closB t)) ∧ Kp w w' := by
  obtain ⟨k, tx, n, pos⟩ := t
  have HT := Lib.hid (fun w => tab_lit w lawL 9)
  by_cases h1 : k = 1
  · subst h1
    go_enter Tryd.func27, Tryd.ntmps27
    go_wp2_with fail
    go_ret
    exact ⟨by unfold closB; simp, (by repeat (first | exact Kp.refl w | refine Kp.alloc ?_ _))⟩
  · by_cases h2 : k = 2
    · subst h2
      go_enter Tryd.func27, Tryd.ntmps27
      go_wp2_with fail
      go_ret
      exact ⟨by unfold closB; simp, (by repeat (first | exact Kp.refl w | refine Kp.alloc ?_ _))⟩
    · have q1 : (k == 1) = false := beq_eq_false_iff_ne.2 h1
      have q2 : (k == 2) = false := beq_eq_false_iff_ne.2 h2
      have HC := Lib.hid (show closB ⟨k, tx, n, pos⟩ = inB lawL tx by unfold closB; simp [h1, h2])
      clear h1 h2
      rw [HC.out]
      go_enter Tryd.func27, Tryd.ntmps27
      go_wp2_with (first | (go_at_call 35; refine (c_in _ A0 (some ⟨w.heap.size + 1, 0, none⟩) 8 8 lawL tx rfl (by have := HT.out (w.alloc (.cells #[.int .i64 k, .string tx, .int .u64 n, .int .i64 pos] 33)); rw [World.size_alloc] at this; exact this) (by decide)).mono ?_; rintro e w3 ⟨rfl, hk⟩))
      go_ret
      exact ⟨rfl, (((Kp.refl w).alloc _).alloc _).trans hk⟩
end Go.Proofs.YtjpmgloofcgfnaaDoor
