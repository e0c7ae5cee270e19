/- read, whole; the first byte that belongs to no character: badByte. Condition: the library's variables hold what they must. -/
import Derived.Test.YtjpmgloofcgfnaaDoorB6
namespace Go.Proofs.YtjpmgloofcgfnaaDoor
open Go.RowKit
set_option linter.unusedVariables false
set_option linter.unusedSimpArgs false

theorem c_read (rb : Nat) (s : ByteArray) (done : Int) (L : List Tk) (v : Value) (pos : Nat) (c : Int) (w : World) (h : RS w rb s done L v) (hL : L.length ≤ 1000000) (hp : pos ≤ s.size) (hs : s.size ≤ 65536) (he : ErrAt w) (hg : SignsAt w) (hm : MaxAt w) :
    Calls Tryd.prog 23 #[.pointer (some ⟨rb, 0, none⟩), .int .i64 pos, .int .i32 c] w (ReadP rb s (readV s done L pos c) w) := by
  by_cases h10 : c = 10
  · subst h10; exact read_nl rb s done L v pos w h hL hp hs
  by_cases hb : c = 9 ∨ c = 13 ∨ c = 32
  · exact read_blank rb s done L v pos c w h hp hs hb
  have hc : ¬ (c = 10 ∨ c = 9 ∨ c = 13 ∨ c = 32) := by omega
  cases hr : Lib.hasPrefix (s.data.toList.drop pos) [47, 47] with
  | true => exact read_remark rb s done L v pos c w h hp hs hc hr hm
  | false =>
    obtain ⟨k, tx, n, q, er, hf⟩ : ∃ k tx n q er, firstV (s.extract pos s.size) c = ((⟨k, tx, n, q⟩ : Tk), er) := ⟨_, _, _, _, _, rfl⟩
    by_cases her : er = 0
    · by_cases hf6 : 16384 ≤ L.length
      · exact read_full rb s done L v pos c w h hp hs hc hr he hg k tx n q er hf her hf6 (by omega)
      · exact read_tok rb s done L v pos c w h hp hs hc hr he hg k tx n q er hf her (by omega)
    · exact read_err rb s done L v pos c w h hp hs hc hr he hg k tx n q er hf her
theorem readV_len {s : ByteArray} {done d : Int} {L L' : List Tk} {pos : Nat} {c : Int} (hL : L.length ≤ 16384) (h : readV s done L pos c = .ok (d, L')) : L'.length ≤ 16384 := by
  unfold readV at h
  split at h
  · split at h
    · rename_i L2 he
      injection h with h
      injection h with _ h
      subst h
      unfold endV at he
      split at he
      · injection he with he; subst he; exact hL
      · split at he
        · split at he
          · cases he
          · injection he with he; subst he; simp; omega
        · injection he with he; subst he; exact hL
    · cases h
  · split at h
    · injection h with h; injection h with _ h; subst h; exact hL
    · split at h
      · injection h with h; injection h with _ h; subst h; exact hL
      · split at h
        · cases h
        · split at h
          · cases h
          · injection h with h; injection h with _ h; subst h; simp; omega
/-- The place of the first byte that belongs to no character, from a place on; b: so many at most are to come. -/
def brkFrom (s : ByteArray) : Nat → Nat → Option Nat
  | 0, _ => none
  | b + 1, pos => if pos < s.size then (if (Utf8.decode s pos).1 = 65533 ∧ Lib.hasPrefix (s.data.toList.drop pos) [239, 191, 189] = false then some pos else brkFrom s b (pos + (Utf8.decode s pos).2)) else none
def badV (s : ByteArray) : Option Nat := brkFrom s s.size 0
def badI : Option Nat → Int
  | some p => p
  | none => -1
theorem brk_step {s : ByteArray} {b pos : Nat} {r : Option Nat} {c : Int} (hp : pos < s.size) (hb : s.size ≤ pos + b) (hc : brkFrom s b pos = r) (hcc : c = (Utf8.decode s pos).1) (ho : ¬ (c = 65533 ∧ Lib.hasPrefix (s.data.toList.drop pos) [239, 191, 189] = false)) :
    ∃ b', brkFrom s b' (pos + (Utf8.decode s pos).2) = r ∧ s.size ≤ pos + (Utf8.decode s pos).2 + b' := by
  have := width_pos s pos hp
  cases b with
  | zero => omega
  | succ b =>
    refine ⟨b, ?_, by omega⟩
    subst hcc
    rwa [brkFrom, if_pos hp, if_neg (fun h => ho ⟨by omega, h.2⟩)] at hc
theorem brk_stop {s : ByteArray} {b pos : Nat} {r : Option Nat} {c : Int} (hp : pos < s.size) (hb : s.size ≤ pos + b) (hc : brkFrom s b pos = r) (hcc : c = (Utf8.decode s pos).1) (h1 : c = 65533) (h2 : Lib.hasPrefix (s.data.toList.drop pos) [239, 191, 189] = false) : r = some pos := by
  cases b with
  | zero => omega
  | succ b =>
    subst hcc
    rw [brkFrom, if_pos hp, if_pos ⟨by omega, h2⟩] at hc
    exact hc.symm
theorem brk_end {s : ByteArray} {b pos : Nat} {r : Option Nat} (hp : ¬ pos < s.size) (hc : brkFrom s b pos = r) : r = none := by
  cases b with
  | zero => exact hc.symm
  | succ b => rw [brkFrom, if_neg hp] at hc; exact hc.symm
set_option maxHeartbeats 3200000 in
set_option maxRecDepth 100000 in
theorem c_bad (s : ByteArray) (w : World) (hs : s.size ≤ 140737488351232) : Calls Tryd.prog 22 #[.string s] w fun e w' => e = .returned (.int .i64 (badI (badV s))) ∧ Kp w w' := by
  unfold badV
  generalize hv : brkFrom s s.size 0 = r
  have HV := Lib.hid hv
  clear hv
  go_enter Tryd.func22, Tryd.ntmps22
  go_wp2_with fail
  go_loopw [3, 4] (fun _ _ w' => ∃ (pos b : Nat), w' = w.iter s pos ∧ Hid (brkFrom s b pos = r) ∧ s.size ≤ pos + b) (fun _ _ w' => s.size - w'.iterPos w.heap.size)
  case atStart => exact ⟨0, s.size, rfl, HV, by omega⟩
  case round =>
    obtain ⟨pos, b, rfl, HC, hb⟩ := hrel
    by_cases hp : pos < s.size
    · have hwd := width_pos s pos hp
      obtain ⟨c, hcc⟩ : ∃ c : Int, c = (Utf8.decode s pos).1 := ⟨_, rfl⟩
      have hnx : ∀ ty, (Instr.next (.pointer (some ⟨w.heap.size, 0, none⟩)) true ty).run Tryd.prog (w.iter s pos) = .ok (.tuple #[.bool true, .int .i64 pos, .int .i32 c]) (w.iter s (pos + (Utf8.decode s pos).2)) := fun ty => by
        rw [hcc]; exact run_next_any w s pos ty hp
      have HCC := Lib.hid hcc
      have HRL := Lib.hid (rest_list s pos)
      have i1 : (0 : Int) ≤ pos := by omega
      have i2 : (pos : Int) ≤ s.size := by omega
      clear hcc
      by_cases h1 : c = 65533
      · subst h1
        cases h2 : Lib.hasPrefix (s.data.toList.drop pos) [239, 191, 189] with
        | true =>
          have HP := Lib.hid h2
          clear h2
          go_wp2_with (first | (go_at_call 36; refine (c_HasPrefix _ _ _).mono ?_; rintro e w' ⟨rfl, rfl⟩; rw [HRL.out, show (⟨#[239, 191, 189]⟩ : ByteArray).data.toList = [239, 191, 189] from rfl, HP.out]))
          go_roundw
          case rel => obtain ⟨b', a1, a2⟩ := brk_step hp hb HC.out HCC.out (fun x => by rw [HP.out] at x; exact absurd x.2 (by decide)); exact ⟨_, b', rfl, Lib.hid a1, a2⟩
          case measure => simp; omega
        | false =>
          have HP := Lib.hid h2
          have HR := Lib.hid (brk_stop hp hb HC.out HCC.out rfl h2)
          clear h2
          go_wp2_with (first | (go_at_call 36; refine (c_HasPrefix _ _ _).mono ?_; rintro e w' ⟨rfl, rfl⟩; rw [HRL.out, show (⟨#[239, 191, 189]⟩ : ByteArray).data.toList = [239, 191, 189] from rfl, HP.out]))
          go_ret
          exact ⟨by rw [HR.out]; rfl, (Kp.refl w).iter _ _⟩
      · have q1 : (c == 65533) = false := beq_eq_false_iff_ne.2 h1
        have HN := Lib.hid h1
        clear h1
        go_wp2_with fail
        go_roundw
        case rel => obtain ⟨b', a1, a2⟩ := brk_step hp hb HC.out HCC.out (fun x => HN.out x.1); exact ⟨_, b', rfl, Lib.hid a1, a2⟩
        case measure => simp; omega
    · have hnx : ∀ ty, (Instr.next (.pointer (some ⟨w.heap.size, 0, none⟩)) true ty).run Tryd.prog (w.iter s pos) = _ := fun ty => run_next_end w s pos ty hp
      have HR := Lib.hid (brk_end hp HC.out)
      go_wp2_with fail
      go_ret
      exact ⟨by rw [HR.out]; rfl, (Kp.refl w).iter _ _⟩
end Go.Proofs.YtjpmgloofcgfnaaDoor
