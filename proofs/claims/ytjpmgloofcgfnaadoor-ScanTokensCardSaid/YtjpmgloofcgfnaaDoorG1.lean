/- Broken, stretch, sign and closes of the reference. No condition. -/
import Derived.Test.YtjpmgloofcgfnaaDoorD5
import Derived.Test.YtjpmgloofcgfnaaDoorD2
import Derived.Test.YtjpmgloofcgfnaaDoorC2
namespace Go.Proofs.YtjpmgloofcgfnaaDoor
open Go.RowKit
set_option linter.unusedVariables false
set_option linter.unusedSimpArgs false

theorem pre3 {s : ByteArray} {pos : Nat} (h : Lib.hasPrefix (s.data.toList.drop pos) [239, 191, 189] = true) : pos + 3 ≤ s.size ∧ s.extract pos (pos + 3) = ⟨#[239, 191, 189]⟩ := by
  have h1 : [239, 191, 189] <+: s.data.toList.drop pos := List.isPrefixOf_iff_prefix.1 h
  have hl := h1.length_le
  rw [List.length_drop, len_size] at hl
  simp only [List.length_cons, List.length_nil] at hl
  refine ⟨by omega, ByteArray.ext (Array.toList_inj.1 ?_)⟩
  rw [sub_list]
  exact (List.prefix_iff_eq_take.1 h1).symm
theorem npre3 {s : ByteArray} {pos : Nat} (hp : pos + 3 ≤ s.size) (h : Lib.hasPrefix (s.data.toList.drop pos) [239, 191, 189] = false) : s.extract pos (pos + 3) ≠ ⟨[239, 191, 189].toArray⟩ := by
  intro e
  have h1 := congrArg (fun b => b.data.toList) e
  simp only [sub_list] at h1
  have h2 : [239, 191, 189] <+: s.data.toList.drop pos := by
    have h3 := List.take_prefix 3 (s.data.toList.drop pos)
    rw [h1] at h3
    exact h3
  have h4 : Lib.hasPrefix (s.data.toList.drop pos) [239, 191, 189] = true := List.isPrefixOf_iff_prefix.2 h2
  rw [h] at h4
  cases h4
def badN (s : ByteArray) : Option Nat → Int
  | some p => p
  | none => s.size
set_option maxHeartbeats 3200000 in
set_option maxRecDepth 100000 in
theorem c_Broken (s : ByteArray) (w : World) (hs : s.size ≤ 65536) : Calls Tryd.prog 25 #[.string s] w fun e w' => e = .returned (.int .i64 (badN s (badV s))) ∧ Kp w w' := by
  unfold badV
  generalize hv : brkFrom s s.size 0 = r
  have HV := Lib.hid hv
  clear hv
  go_enter Tryd.func25, Tryd.ntmps25
  go_wp2_with fail
  go_loopw [3, 4] (fun _ _ w' => ∃ (pos b : Nat), w' = w.iter s pos ∧ Hid (brkFrom s b pos = r) ∧ s.size ≤ pos + b) (fun _ _ w' => s.size - w'.iterPos w.heap.size)
  case atStart => exact ⟨0, s.size, rfl, HV, by omega⟩
  case round =>
    obtain ⟨pos, b, rfl, HC, hb⟩ := hrel
    by_cases hp : pos < s.size
    · have hwd := width_pos s pos hp
      obtain ⟨c, hcc⟩ : ∃ c : Int, c = (Utf8.decode s pos).1 := ⟨_, rfl⟩
      have hnx : ∀ ty, (Instr.next (.pointer (some ⟨w.heap.size, 0, none⟩)) true ty).run Tryd.prog (w.iter s pos) = .ok (.tuple #[.bool true, .int .i64 pos, .int .i32 c]) (w.iter s (pos + (Utf8.decode s pos).2)) := fun ty => by
        rw [hcc]; exact run_next_any w s pos ty hp
      have HCC := Lib.hid hcc
      have i1 : (0 : Int) ≤ pos := by omega
      have i2 : (pos : Int) ≤ s.size := by omega
      have i3 : ((pos : Int) + 3).toNat = pos + 3 := by omega
      have i4 : (pos : Int) ≤ (pos : Int) + 3 := by omega
      have i5 : (0 : Int) ≤ (pos : Int) + 3 := by omega
      clear hcc
      by_cases h1 : c = 65533
      · subst h1
        cases h2 : Lib.hasPrefix (s.data.toList.drop pos) [239, 191, 189] with
        | true =>
          obtain ⟨h3, h4⟩ := pre3 h2
          have i6 : (pos : Int) + 3 ≤ s.size := by omega
          have q1 : decide ((s.size : Int) < (pos : Int) + 3) = false := decide_eq_false (by omega)
          have HP := Lib.hid h2
          clear h2
          go_wp2_with fail
          go_roundw
          case rel => obtain ⟨b', a1, a2⟩ := brk_step hp hb HC.out HCC.out (fun x => by rw [HP.out] at x; exact absurd x.2 (by decide)); exact ⟨_, b', rfl, Lib.hid a1, a2⟩
          case measure => simp; omega
        | false =>
          have HR := Lib.hid (brk_stop hp hb HC.out HCC.out rfl h2)
          by_cases h3 : pos + 3 ≤ s.size
          · have x1 : ((s.extract pos (pos + 3)).toList == [239, 191, 189]) = false := ne_list (npre3 h3 h2)
            have x2 : ((s.extract pos (pos + 3)).toList != [239, 191, 189]) = true := by unfold bne; rw [x1]; rfl
            have i6 : (pos : Int) + 3 ≤ s.size := by omega
            have q1 : decide ((s.size : Int) < (pos : Int) + 3) = false := decide_eq_false (by omega)
            clear h2
            go_wp2_with fail
            go_ret
            exact ⟨by rw [HR.out]; rfl, (Kp.refl w).iter _ _⟩
          · have q1 : decide ((s.size : Int) < (pos : Int) + 3) = true := decide_eq_true (by omega)
            clear h2
            go_wp2_with fail
            go_ret
            exact ⟨by rw [HR.out]; rfl, (Kp.refl w).iter _ _⟩
      · have q1 : (c == 65533) = false := beq_eq_false_iff_ne.2 h1
        have HN := Lib.hid h1
        clear h1
        go_wp2_with fail
        go_roundw
        case rel => obtain ⟨b', a1, a2⟩ := brk_step hp hb HC.out HCC.out (fun x => HN.out x.1); exact ⟨_, b', rfl, Lib.hid a1, a2⟩
        case measure => simp; omega
    · have hnx : ∀ ty, (Instr.next (.pointer (some ⟨w.heap.size, 0, none⟩)) true ty).run Tryd.prog (w.iter s pos) = _ := fun ty => run_next_end w s pos ty hp
      have HR := Lib.hid (brk_end hp HC.out)
      go_wp2_with fail
      go_ret
      exact ⟨by rw [HR.out]; rfl, (Kp.refl w).iter _ _⟩
set_option maxHeartbeats 1600000 in
theorem c_stretch (s : ByteArray) (p : Nat) (w : World) (hp0 : p ≤ s.size) (hs : s.size ≤ 65536) : Calls Tryd.prog 41 #[.string s, .int .i64 p] w fun e w' => e = .returned (.int .i64 ((p + spanE (s.extract p s.size) : Nat) : Int)) ∧ Kp w w' := by
  unfold spanE
  obtain ⟨z, hz⟩ : ∃ z, s.extract p s.size = z := ⟨_, rfl⟩
  have hzs : z.size = s.size - p := by rw [← hz]; exact size_more s p
  rw [hz]
  generalize hv : spanAt z z.size 0 = v
  have HV := Lib.hid hv
  have i7 : (0 : Int) ≤ p := by omega
  have i8 : (p : Int) ≤ s.size := by omega
  clear hv
  go_enter Tryd.func41, Tryd.ntmps41
  go_wp2_with fail
  go_loopw [5, 6] (fun _ _ w' => ∃ (pos b : Nat), w' = w.iter z pos ∧ Hid (spanAt z b pos = v) ∧ z.size ≤ pos + b) (fun _ _ w' => z.size - w'.iterPos w.heap.size)
  case atStart => exact ⟨0, z.size, rfl, HV, by omega⟩
  case round =>
    obtain ⟨pos, b, rfl, HC, hb⟩ := hrel
    by_cases hp : pos < z.size
    · have hwd := width_pos z pos hp
      obtain ⟨c, hcc⟩ : ∃ c : Int, c = (Utf8.decode z pos).1 := ⟨_, rfl⟩
      have hnx : ∀ ty, (Instr.next (.pointer (some ⟨w.heap.size, 0, none⟩)) true ty).run Tryd.prog (w.iter z pos) = .ok (.tuple #[.bool true, .int .i64 pos, .int .i32 c]) (w.iter z (pos + (Utf8.decode z pos).2)) := fun ty => by
        rw [hcc]; exact run_next_any w z pos ty hp
      have HCC := Lib.hid hcc
      have i9 : IntKind.i64.wrap ((p : Int) + pos) = (p : Int) + pos := by rw [IntKind.wrap_i64]; omega
      clear hcc
      rcases wordC_cases c with ⟨ho, h | ⟨h, hd⟩⟩ | ⟨ho, h, hd⟩
      · have HO := Lib.hid ho
        have HLT := Lib.hid h
        clear ho h
        go_wp2_with (first | (go_at_call 47; (with_reducible refine (c_Letter _ _).mono ?_); rintro e w' ⟨rfl, rfl⟩; rw [HLT.out]))
        go_roundw
        case rel => obtain ⟨b', a1, a2⟩ := span_step hp hb HC.out HCC.out HO.out; exact ⟨_, b', rfl, Lib.hid a1, a2⟩
        case measure => simp; omega
      · have HO := Lib.hid ho
        have HLT := Lib.hid h
        have hd2 := of_decide_eq_true hd
        have q1 : decide (c < 48) = false := decide_eq_false (by omega)
        have q2 : decide (57 < c) = false := decide_eq_false (by omega)
        clear ho h hd
        go_wp2_with (first | (go_at_call 47; (with_reducible refine (c_Letter _ _).mono ?_); rintro e w' ⟨rfl, rfl⟩; rw [HLT.out]))
        go_roundw
        case rel => obtain ⟨b', a1, a2⟩ := span_step hp hb HC.out HCC.out HO.out; exact ⟨_, b', rfl, Lib.hid a1, a2⟩
        case measure => simp; omega
      · have HO := Lib.hid ho
        have HLT := Lib.hid h
        have hd2 := of_decide_eq_false hd
        have HVV := Lib.hid (span_stop hp hb HC.out HCC.out ho)
        have HPV := Lib.hid (show (((p + pos : Nat) : Int)) = (p : Int) + pos by omega)
        clear ho h hd
        by_cases h48 : c < 48
        · have q1 : decide (c < 48) = true := decide_eq_true h48
          go_wp2_with (first | (go_at_call 47; (with_reducible refine (c_Letter _ _).mono ?_); rintro e w' ⟨rfl, rfl⟩; rw [HLT.out]))
          go_ret
          exact ⟨by rw [HVV.out, HPV.out]; rfl, (Kp.refl w).iter _ _⟩
        · have q1 : decide (c < 48) = false := decide_eq_false h48
          have q2 : decide (57 < c) = true := decide_eq_true (by omega)
          go_wp2_with (first | (go_at_call 47; (with_reducible refine (c_Letter _ _).mono ?_); rintro e w' ⟨rfl, rfl⟩; rw [HLT.out]))
          go_ret
          exact ⟨by rw [HVV.out, HPV.out]; rfl, (Kp.refl w).iter _ _⟩
    · have hnx : ∀ ty, (Instr.next (.pointer (some ⟨w.heap.size, 0, none⟩)) true ty).run Tryd.prog (w.iter z pos) = _ := fun ty => run_next_end w z pos ty hp
      have HVV := Lib.hid (span_end hp HC.out)
      go_wp2_with fail
      go_ret
      exact ⟨by rw [HVV.out]; show Ending.returned (.int .i64 (s.size : Int)) = _; exact ret_i64 (by omega), (Kp.refl w).iter _ _⟩
end Go.Proofs.YtjpmgloofcgfnaaDoor
