/- The walk of ScanStands: whatever the text. Condition: the library's variables hold what they must. -/
import Derived.Test.YtjpmgloofcgfnaaDoorD2
import Derived.Test.YtjpmgloofcgfnaaDoorC6
import Derived.Deep.QuietTactic
import Derived.BigQuiet
namespace Go.Proofs.YtjpmgloofcgfnaaDoor
open Go.RowKit
set_option linter.unusedVariables false
set_option linter.unusedSimpArgs false

set_option maxHeartbeats 1600000 in
set_option maxRecDepth 100000 in
theorem stands_err (s : ByteArray) (x : Int × Int) (w : World) (he : ErrAt w) (hg : SignsAt w) (hm : MaxAt w) (h : toksV s = .error x) : Calls Tryd.prog 5 #[.string s] w fun e w' => e = .returned (.bool true) ∧ Kp w w' := by
  have HE := Lib.hid he
  have HG := Lib.hid hg
  have HM := Lib.hid hm
  have e1 : (x.2 == 0) = false := beq_eq_false_iff_ne.2 (toks_err h)
  have e2 : (x.2 != 0) = true := by simp [toks_err h]
  obtain ⟨xi, xe⟩ := x
  have CT := Lib.hid (c_tokE s xi xe w h he hg hm)
  simp only at e1 e2
  clear h he hg hm
  go_enter Tryd.func5, Tryd.ntmps5
  go_wp2_with (first | (go_at_call 10; refine (CT.out).mono ?_; rintro e w2 ⟨rfl, hk2⟩; have K2 := Lib.hid hk2; clear hk2) | (go_at_call 12; (with_reducible refine (c_answers _ (HE.out.keep K2.out) (HG.out.keep K2.out) (HM.out.keep K2.out)).mono ?_); rintro e w3 ⟨rfl, hk3⟩; have K3 := Lib.hid (K2.out.trans hk3); clear hk3; have HE3 := Lib.hid (HE.out.keep K3.out); have HG3 := Lib.hid (HG.out.keep K3.out); have HM3 := Lib.hid (HM.out.keep K3.out)) | (go_at_call 12; (with_reducible refine (c_answers _ HE3.out HG3.out HM3.out).mono ?_); rintro e w4 ⟨rfl, hk4⟩; have K4 := Lib.hid (K3.out.trans hk4); clear hk4))
  go_ret
  exact ⟨rfl, K4.out⟩
theorem endAt_take {L : List Tk} {m : Nat} {t : Tk} (h : L[m]? = some t) : endAt (L.take (m + 1)) = t.pos + t.text.size := by
  have h2 : L.take (m + 1) = L.take m ++ [t] := by
    rw [List.take_add_one, h]; rfl
  rw [h2, endAt_push]
theorem e_empty (s : ByteArray) (a b : Nat) (w : World) (hs : s.size ≤ 140737488351232) (h : emB false (seg s a b) = true) : Calls Tryd.prog 20 #[.string (s.extract a b)] w fun e w' => e = .returned (.bool true) ∧ w' = w :=
  (c_empty (s.extract a b) w (by rw [ByteArray.size_extract]; omega)).mono fun e w' ⟨h1, h2⟩ => ⟨by rw [h1, seg_ext, h], h2.symm⟩
set_option maxHeartbeats 1600000 in
set_option maxRecDepth 1000000 in
theorem stands_ok (s : ByteArray) (L : List Tk) (w : World) (he : ErrAt w) (hg : SignsAt w) (hm : MaxAt w) (h : toksV s = .ok L) : Calls Tryd.prog 5 #[.string s] w fun e w' => e = .returned (.bool true) ∧ Kp w w' := by
  have HE := Lib.hid he
  have HG := Lib.hid hg
  have HM := Lib.hid hm
  obtain ⟨N, hN⟩ : ∃ N, L.length = N := ⟨_, rfl⟩
  have CT := Lib.hid (c_tokO s L N hN w h he hg hm)
  have HST := Lib.hid (toks_stand h)
  have hsz := (toks_run h).1
  have HN := Lib.hid hN
  have i0 : (s.size : Int) ≤ 65536 := by omega
  clear h he hg hm hN
  go_enter Tryd.func5, Tryd.ntmps5
  go_wp2_with (first | (go_at_call 10; refine (CT.out).mono ?_; rintro e w2 ⟨ad, c, rfl, hmx2, hk2, HO⟩; have K2 := Lib.hid hk2; clear hk2) | (go_at_call 12; (with_reducible refine (c_answers _ (HE.out.keep K2.out) (HG.out.keep K2.out) (HM.out.keep K2.out)).mono ?_); rintro e w3 ⟨rfl, hk3⟩; have K3 := Lib.hid hk3; clear hk3))
  go_loopw [6, 7] (fun en i wr => ∃ m : Nat, m ≤ N ∧ i = .int .i64 m ∧ en = .int .i64 (endAt (L.take m)) ∧ Kp w3 wr) (fun _ i _ => N - (intOf i).toNat)
  case atStart => exact ⟨0, by omega, rfl, rfl, Kp.refl _⟩
  case round =>
    obtain ⟨m, hm, rfl, rfl, hkr⟩ := hrel
    by_cases hlt : m < N
    · obtain ⟨t, ht⟩ : ∃ t, L[m]? = some t := ⟨L[m]'(by have := HN.out; omega), by simp [HN.out, hlt]⟩
      obtain ⟨g, rfl, a0⟩ := HO.out _ _ (tok_at ht (q := 0) rfl)
      have a0 := hkr.cellv (K3.out.cellv a0)
      have a1 := hkr.cellv (K3.out.cellv (cell_at HO.out (tok_at ht (q := 1) rfl)))
      have a2 := hkr.cellv (K3.out.cellv (cell_at HO.out (tok_at ht (q := 2) rfl)))
      have a3 := hkr.cellv (K3.out.cellv (cell_at HO.out (tok_at ht (q := 3) rfl)))
      rw [Nat.add_zero] at a0
      obtain ⟨a, p, ea, ep, hap, hps, hx, hem, h0⟩ := HST.out.1 m t ht
      have HEN := Lib.hid (endAt_take ht)
      rw [ea]
      clear ht ea
      obtain ⟨tk, tx, tn, tp⟩ := t
      simp only at ep hps hx h0 a0 a1 a2 a3
      subst ep
      have hgl := lt_of_cell a0
      have i1 : (0 : Int) ≤ (m : Int) := by omega
      have i2 : (m : Int) < (N : Int) := by omega
      have CE := Lib.hid (fun w => e_empty s a p w (by omega) hem)
      clear hem
      have i3 : (a : Int) ≤ p := by omega
      have i4 : (p : Int) ≤ s.size := by omega
      have i5 : IntKind.i64.wrap ((s.size : Int) - p) = (s.size : Int) - p := by rw [IntKind.wrap_i64]; omega
      have i6 : (tx.size : Int) ≤ (s.size : Int) - p := by omega
      have i7 : IntKind.i64.wrap ((p : Int) + tx.size) = (p : Int) + tx.size := by rw [IntKind.wrap_i64]; omega
      have q1 : decide (p < a) = false := decide_eq_false (by omega)
      have q2 : decide (s.size < p) = false := decide_eq_false (by omega)
      have q3 : decide ((s.size : Int) - p < tx.size) = false := decide_eq_false (by omega)
      have q4 : (tx.toList != tx.toList) = false := by simp
      have i8 : (p : Int) + tx.size ≤ s.size := by omega
      have i9 : ((p : Int) + tx.size).toNat = p + tx.size := by omega
      have iA : (0 : Int) ≤ (p : Int) + tx.size := by omega
      have iB : (p : Int) ≤ (p : Int) + tx.size := by omega
      go_wp2_with fail
      go_quiet (first | (go_at_call 20; exact Calls.quiet_of_same (CE.out _)))
      by_cases h1 : tx = ⟨#[]⟩
      · obtain ⟨h2, h3⟩ := h0 h1
        have x1 : (tx.toList == []) = true := by rw [h1, show (⟨#[]⟩ : ByteArray) = ⟨([] : List UInt8).toArray⟩ from rfl, toL]; rfl
        subst h2
        by_cases h4 : p < s.size
        · have h5 := h3 h4
          have HB := Lib.hid (byt_get h4)
          have x2 : ((s[p]'h4).toNat != 10) = false := by rw [HB.out, h5]; rfl
          go_wp2_with fail
          go_roundw
          case rel => exact ⟨m + 1, by omega, by go_num, by rw [HEN.out]; all_goals first | rfl | (rw [h1]; exact congrArg _ (show (p : Int) = p + ((0 : Nat) : Int) by omega)), (hkr.alloc _).drewN _⟩
          case measure => simp [intOf]; omega
        · go_wp2_with fail
          go_roundw
          case rel => exact ⟨m + 1, by omega, by go_num, by rw [HEN.out]; all_goals first | rfl | (rw [h1]; exact congrArg _ (show (p : Int) = p + ((0 : Nat) : Int) by omega)), (hkr.alloc _).drewN _⟩
          case measure => simp [intOf]; omega
      · have x1 : (tx.toList == []) = false := ne_list h1
        go_wp2_with fail
        go_roundw
        case rel => exact ⟨m + 1, by omega, by go_num, by rw [HEN.out]; all_goals first | rfl | (rw [h1]; exact congrArg _ (show (p : Int) = p + ((0 : Nat) : Int) by omega)), (hkr.alloc _).drewN _⟩
        case measure => simp [intOf]; omega
    · obtain rfl : m = N := by omega
      have hm2 : L.take m = L := by rw [← HN.out]; exact List.take_length
      rw [hm2]
      obtain ⟨a, ea, has, hem⟩ := HST.out.2
      rw [ea]
      have CE := Lib.hid (fun w => e_empty s a s.size w (by omega) hem)
      have i3 : (a : Int) ≤ s.size := by omega
      clear hem ea
      go_wp2_with (go_at_call 20; (with_reducible refine (CE.out _).mono ?_); rintro e w5 ⟨rfl, rfl⟩)
      go_ret
      exact ⟨rfl, (K2.out.trans K3.out).trans hkr⟩
theorem law_ScanStands (s : ByteArray) (w : World) (hs : s.size ≤ 140737488351232) (he : ErrAt w) (hg : SignsAt w) (hm : MaxAt w) : Calls Tryd.prog 5 #[.string s] w fun e w' => e = .returned (.bool true) ∧ Kp w w' := by
  cases h : toksV s with
  | error x => exact stands_err s x w he hg hm h
  | ok L => exact stands_ok s L w he hg hm h
end Go.Proofs.YtjpmgloofcgfnaaDoor
