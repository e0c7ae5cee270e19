/- Sound of the reference, and what it says against the program's own way. Condition: the node lies in memory, of no more than a million nodes or so. -/
import Derived.Test.YtefanekfelokmaaG11
import Derived.Test.YtefanekfelokmaaBU
import Derived.Test.YtefanekfelokmaaC1
namespace Go.Proofs.Ytefanekfelokmaa
open Go.RowKit
set_option linter.unusedVariables false
set_option linter.unusedSimpArgs false
theorem form_lab (T : Nd) : formN T = (labB T.k T.tx T.n (ksN T) && kidsB T.k T.n (ksN T)) := form_is _ _ _ _
theorem right_flat : ∀ (r : Nat) (w : World) (B : Sel) (T : Nd) (h : Hn) (d : Int), Lies w B r T h → 0 ≤ d → d ≤ 65 → (rightN r (64 - d) T = true ↔ ∀ y ∈ flatN r d T, y.1 ≤ 64 ∧ formN y.2 = true)
  | 0, _, _, _, _, _, hl, _, _ => hl.elim
  | r + 1, w, B, T, h, d, hl, hd, h65 => by
    obtain ⟨K, t, hh⟩ := hl
    have e1 : wrap64 (d + 1) = d + 1 := by unfold wrap64; omega
    rw [rightN, flatN, e1]
    by_cases h64 : d ≤ 64
    · rw [decide_eq_true (show 0 ≤ 64 - d by omega), Bool.true_and, ← form_lab, Bool.and_eq_true, List.all_eq_true]
      have hk : ∀ X ∈ T.kids, (rightN r (64 - d - 1) X = true ↔ ∀ y ∈ flatN r (d + 1) X, y.1 ≤ 64 ∧ formN y.2 = true) := fun X hX => by
        obtain ⟨i, hi⟩ := List.mem_iff_getElem?.1 hX
        have := right_flat r w B X (K i) (d + 1) (hh i X hi) (by omega) (by omega)
        rwa [show 64 - (d + 1) = 64 - d - 1 by omega] at this
      constructor
      · rintro ⟨h1, h2⟩ y hy
        rcases List.mem_cons.1 hy with rfl | hy
        · exact ⟨h64, h1⟩
        · obtain ⟨X, hX, hyX⟩ := List.mem_flatMap.1 hy
          exact (hk X hX).1 (h2 X hX) y hyX
      · intro h1
        refine ⟨(h1 (d, T) (by simp)).2, fun X hX => (hk X hX).2 (fun y hy => h1 y (List.mem_cons_of_mem _ (List.mem_flatMap.2 ⟨X, hX, hy⟩)))⟩
    · rw [decide_eq_false (show ¬ (0 ≤ 64 - d) by omega)]
      simp only [Bool.false_and]
      constructor
      · intro h; cases h
      · intro h1
        exact absurd (h1 (d, T) (by simp)).1 h64
theorem right_ok {r : Nat} {w : World} {B : Sel} {T : Nd} {h : Hn} (hl : Lies w B r T h) : okL (flatN r 0 T) = (rightN r 64 T && decide (sizeN r T ≤ 16384)) := by
  have h1 := right_flat r w B T h 0 hl (by omega) (by omega)
  rw [show (64 : Int) - 0 = 64 by omega] at h1
  apply Bool.eq_iff_iff.2
  rw [Bool.and_eq_true]
  constructor
  · intro h
    obtain ⟨a, b⟩ := okL_of h
    exact ⟨h1.2 b, decide_eq_true (by rw [← flat_size r 0 T]; exact a)⟩
  · rintro ⟨a, b⟩
    exact okL_yes (by rw [flat_size]; exact of_decide_eq_true b) (h1.1 a)
/-- Is a node sound, as what the letter says? -/
noncomputable def sndB (p : Int → Bool) (R : Nat) (T : Nd) : Bool := p T.k && okL (flatN R 0 T)
set_option maxHeartbeats 6400000 in
set_option maxRecDepth 100000 in
theorem c_rSound (R : Nat) (T : Nd) (h : Hn) (w : World) (hl : Lies w A0 R T h) (hz : sizeN R T ≤ 1048576) (s : Int) (hs : s ≠ 112) :
    Calls Try.prog 11 #[h.val, .int .u8 s] w fun e w' => e = .returned (.bool (sndB (fun k => sortL k == s) R T)) ∧ Kp w w' := by
  have hok := right_ok hl
  have hk := lies_k hl
  have CR := Lib.hid (fun w' hw' => c_Right R T h w' 64 (hl.keep hw') (by omega) (by omega))
  have CS := Lib.hid (fun w' hw' => c_rSize R T h w' (hl.keep hw'))
  have hw := Lib.hid (show wrap64 ((sizeN R T : Nat) : Int) = (sizeN R T : Int) from by unfold wrap64; omega)
  have e0 : (s == 112) = false := beq_eq_false_iff_ne.2 hs
  have HV := Lib.hid (show ∀ b, ((sortL h.k == s) && (rightN R 64 T && decide (sizeN R T ≤ 16384))) = b → sndB (fun k => sortL k == s) R T = b from fun b hb => by unfold sndB; rw [hok, hk]; exact hb)
  clear hl hz hok hk
  obtain ⟨k, tx, nn, at_, la, ll, lc⟩ := h
  simp only at HV CR CS
  cases h1 : (sortL k == s) with
  | false =>
    have hv := Lib.hid (HV.out false (by rw [h1]; rfl))
    skip
    go_enter Try.func11, Try.ntmps11
    go_wp2_with (first | (go_at_call 29; (with_reducible refine (c_sort k _).mono ?_); rintro e w' ⟨rfl, rfl⟩))
    go_ret
    exact ⟨ret_boolA hv.out.symm, by (repeat (first | with_reducible exact Kp.refl _ | with_reducible refine Kp.alloc ?_ _ | with_reducible refine Kp.drew ?_ | with_reducible refine Kp.back (by assumption) ?_))⟩
  | true =>
    cases h2 : rightN R 64 T with
    | false =>
      have hv := Lib.hid (HV.out false (by rw [h1, h2]; rfl))
      skip
      go_enter Try.func11, Try.ntmps11
      go_wp2_with (first | (go_at_call 29; (with_reducible refine (c_sort k _).mono ?_); rintro e w' ⟨rfl, rfl⟩) | (go_at_call 28; (with_reducible refine (CR.out _ (by (repeat (first | with_reducible exact Kp.refl _ | with_reducible refine Kp.alloc ?_ _ | with_reducible refine Kp.drew ?_ | with_reducible refine Kp.back (by assumption) ?_)))).mono ?_); rintro e w1 ⟨rfl, hk1⟩; rw [h2]; have bb := boxed (w := w) (h := ⟨k, tx, nn, at_, la, ll, lc⟩) (show Kp _ w1 by (repeat (first | with_reducible exact Kp.refl _ | with_reducible refine Kp.alloc ?_ _ | with_reducible refine Kp.drew ?_ | with_reducible refine Kp.back (by assumption) ?_))); simp only at bb; obtain ⟨b0, b1, b2, b3, b4, bs⟩ := bb))
      go_ret
      exact ⟨ret_boolA hv.out.symm, by (repeat (first | with_reducible exact Kp.refl _ | with_reducible refine Kp.alloc ?_ _ | with_reducible refine Kp.drew ?_ | with_reducible refine Kp.back (by assumption) ?_))⟩
    | true =>
      by_cases h3 : sizeN R T ≤ 16384
      · have hv := Lib.hid (HV.out true (by rw [h1, h2, decide_eq_true h3]; rfl))
        have d0 : decide (((sizeN R T : Nat) : Int) ≤ 16384) = true := decide_eq_true (by omega)
        clear h3
        skip
        go_enter Try.func11, Try.ntmps11
        go_wp2_with (first | (go_at_call 29; (with_reducible refine (c_sort k _).mono ?_); rintro e w' ⟨rfl, rfl⟩) | (go_at_call 28; (with_reducible refine (CR.out _ (by (repeat (first | with_reducible exact Kp.refl _ | with_reducible refine Kp.alloc ?_ _ | with_reducible refine Kp.drew ?_ | with_reducible refine Kp.back (by assumption) ?_)))).mono ?_); rintro e w1 ⟨rfl, hk1⟩; rw [h2]; have bb := boxed (w := w) (h := ⟨k, tx, nn, at_, la, ll, lc⟩) (show Kp _ w1 by (repeat (first | with_reducible exact Kp.refl _ | with_reducible refine Kp.alloc ?_ _ | with_reducible refine Kp.drew ?_ | with_reducible refine Kp.back (by assumption) ?_))); simp only at bb; obtain ⟨b0, b1, b2, b3, b4, bs⟩ := bb) | (go_at_call 17; (with_reducible refine (CS.out _ (by (repeat (first | with_reducible exact Kp.refl _ | with_reducible refine Kp.alloc ?_ _ | with_reducible refine Kp.drew ?_ | with_reducible refine Kp.back (by assumption) ?_)))).mono ?_); rintro e w2 ⟨rfl, hk2⟩; rw [hw.out]))
        go_ret
        exact ⟨ret_boolA hv.out.symm, by (repeat (first | with_reducible exact Kp.refl _ | with_reducible refine Kp.alloc ?_ _ | with_reducible refine Kp.drew ?_ | with_reducible refine Kp.back (by assumption) ?_))⟩
      · have hv := Lib.hid (HV.out false (by rw [h1, h2, decide_eq_false h3]; rfl))
        have d0 : decide (((sizeN R T : Nat) : Int) ≤ 16384) = false := decide_eq_false (by omega)
        clear h3
        skip
        go_enter Try.func11, Try.ntmps11
        go_wp2_with (first | (go_at_call 29; (with_reducible refine (c_sort k _).mono ?_); rintro e w' ⟨rfl, rfl⟩) | (go_at_call 28; (with_reducible refine (CR.out _ (by (repeat (first | with_reducible exact Kp.refl _ | with_reducible refine Kp.alloc ?_ _ | with_reducible refine Kp.drew ?_ | with_reducible refine Kp.back (by assumption) ?_)))).mono ?_); rintro e w1 ⟨rfl, hk1⟩; rw [h2]; have bb := boxed (w := w) (h := ⟨k, tx, nn, at_, la, ll, lc⟩) (show Kp _ w1 by (repeat (first | with_reducible exact Kp.refl _ | with_reducible refine Kp.alloc ?_ _ | with_reducible refine Kp.drew ?_ | with_reducible refine Kp.back (by assumption) ?_))); simp only at bb; obtain ⟨b0, b1, b2, b3, b4, bs⟩ := bb) | (go_at_call 17; (with_reducible refine (CS.out _ (by (repeat (first | with_reducible exact Kp.refl _ | with_reducible refine Kp.alloc ?_ _ | with_reducible refine Kp.drew ?_ | with_reducible refine Kp.back (by assumption) ?_)))).mono ?_); rintro e w2 ⟨rfl, hk2⟩; rw [hw.out]))
        go_ret
        exact ⟨ret_boolA hv.out.symm, by (repeat (first | with_reducible exact Kp.refl _ | with_reducible refine Kp.alloc ?_ _ | with_reducible refine Kp.drew ?_ | with_reducible refine Kp.back (by assumption) ?_))⟩
set_option maxHeartbeats 6400000 in
set_option maxRecDepth 100000 in
theorem c_rSoundP (R : Nat) (T : Nd) (h : Hn) (w : World) (hl : Lies w A0 R T h) (hz : sizeN R T ≤ 1048576) :
    Calls Try.prog 11 #[h.val, .int .u8 112] w fun e w' => e = .returned (.bool (sndB (fun k => k == 1) R T)) ∧ Kp w w' := by
  have hok := right_ok hl
  have hk := lies_k hl
  have CR := Lib.hid (fun w' hw' => c_Right R T h w' 64 (hl.keep hw') (by omega) (by omega))
  have CS := Lib.hid (fun w' hw' => c_rSize R T h w' (hl.keep hw'))
  have hw := Lib.hid (show wrap64 ((sizeN R T : Nat) : Int) = (sizeN R T : Int) from by unfold wrap64; omega)
  have HV := Lib.hid (show ∀ b, ((h.k == 1) && (rightN R 64 T && decide (sizeN R T ≤ 16384))) = b → sndB (fun k => k == 1) R T = b from fun b hb => by unfold sndB; rw [hok, hk]; exact hb)
  clear hl hz hok hk
  obtain ⟨k, tx, nn, at_, la, ll, lc⟩ := h
  simp only at HV CR CS
  cases h1 : (k == 1) with
  | false =>
    have hv := Lib.hid (HV.out false (by rw [h1]; rfl))
    skip
    go_enter Try.func11, Try.ntmps11
    go_wp2_with (first | (go_at_call 29; (with_reducible refine (c_sort k _).mono ?_); rintro e w' ⟨rfl, rfl⟩))
    go_ret
    exact ⟨ret_boolA hv.out.symm, by (repeat (first | with_reducible exact Kp.refl _ | with_reducible refine Kp.alloc ?_ _ | with_reducible refine Kp.drew ?_ | with_reducible refine Kp.back (by assumption) ?_))⟩
  | true =>
    cases h2 : rightN R 64 T with
    | false =>
      have hv := Lib.hid (HV.out false (by rw [h1, h2]; rfl))
      skip
      go_enter Try.func11, Try.ntmps11
      go_wp2_with (first | (go_at_call 29; (with_reducible refine (c_sort k _).mono ?_); rintro e w' ⟨rfl, rfl⟩) | (go_at_call 28; (with_reducible refine (CR.out _ (by (repeat (first | with_reducible exact Kp.refl _ | with_reducible refine Kp.alloc ?_ _ | with_reducible refine Kp.drew ?_ | with_reducible refine Kp.back (by assumption) ?_)))).mono ?_); rintro e w1 ⟨rfl, hk1⟩; rw [h2]; have bb := boxed (w := w) (h := ⟨k, tx, nn, at_, la, ll, lc⟩) (show Kp _ w1 by (repeat (first | with_reducible exact Kp.refl _ | with_reducible refine Kp.alloc ?_ _ | with_reducible refine Kp.drew ?_ | with_reducible refine Kp.back (by assumption) ?_))); simp only at bb; obtain ⟨b0, b1, b2, b3, b4, bs⟩ := bb))
      go_ret
      exact ⟨ret_boolA hv.out.symm, by (repeat (first | with_reducible exact Kp.refl _ | with_reducible refine Kp.alloc ?_ _ | with_reducible refine Kp.drew ?_ | with_reducible refine Kp.back (by assumption) ?_))⟩
    | true =>
      by_cases h3 : sizeN R T ≤ 16384
      · have hv := Lib.hid (HV.out true (by rw [h1, h2, decide_eq_true h3]; rfl))
        have d0 : decide (((sizeN R T : Nat) : Int) ≤ 16384) = true := decide_eq_true (by omega)
        clear h3
        skip
        go_enter Try.func11, Try.ntmps11
        go_wp2_with (first | (go_at_call 29; (with_reducible refine (c_sort k _).mono ?_); rintro e w' ⟨rfl, rfl⟩) | (go_at_call 28; (with_reducible refine (CR.out _ (by (repeat (first | with_reducible exact Kp.refl _ | with_reducible refine Kp.alloc ?_ _ | with_reducible refine Kp.drew ?_ | with_reducible refine Kp.back (by assumption) ?_)))).mono ?_); rintro e w1 ⟨rfl, hk1⟩; rw [h2]; have bb := boxed (w := w) (h := ⟨k, tx, nn, at_, la, ll, lc⟩) (show Kp _ w1 by (repeat (first | with_reducible exact Kp.refl _ | with_reducible refine Kp.alloc ?_ _ | with_reducible refine Kp.drew ?_ | with_reducible refine Kp.back (by assumption) ?_))); simp only at bb; obtain ⟨b0, b1, b2, b3, b4, bs⟩ := bb) | (go_at_call 17; (with_reducible refine (CS.out _ (by (repeat (first | with_reducible exact Kp.refl _ | with_reducible refine Kp.alloc ?_ _ | with_reducible refine Kp.drew ?_ | with_reducible refine Kp.back (by assumption) ?_)))).mono ?_); rintro e w2 ⟨rfl, hk2⟩; rw [hw.out]))
        go_ret
        exact ⟨ret_boolA hv.out.symm, by (repeat (first | with_reducible exact Kp.refl _ | with_reducible refine Kp.alloc ?_ _ | with_reducible refine Kp.drew ?_ | with_reducible refine Kp.back (by assumption) ?_))⟩
      · have hv := Lib.hid (HV.out false (by rw [h1, h2, decide_eq_false h3]; rfl))
        have d0 : decide (((sizeN R T : Nat) : Int) ≤ 16384) = false := decide_eq_false (by omega)
        clear h3
        skip
        go_enter Try.func11, Try.ntmps11
        go_wp2_with (first | (go_at_call 29; (with_reducible refine (c_sort k _).mono ?_); rintro e w' ⟨rfl, rfl⟩) | (go_at_call 28; (with_reducible refine (CR.out _ (by (repeat (first | with_reducible exact Kp.refl _ | with_reducible refine Kp.alloc ?_ _ | with_reducible refine Kp.drew ?_ | with_reducible refine Kp.back (by assumption) ?_)))).mono ?_); rintro e w1 ⟨rfl, hk1⟩; rw [h2]; have bb := boxed (w := w) (h := ⟨k, tx, nn, at_, la, ll, lc⟩) (show Kp _ w1 by (repeat (first | with_reducible exact Kp.refl _ | with_reducible refine Kp.alloc ?_ _ | with_reducible refine Kp.drew ?_ | with_reducible refine Kp.back (by assumption) ?_))); simp only at bb; obtain ⟨b0, b1, b2, b3, b4, bs⟩ := bb) | (go_at_call 17; (with_reducible refine (CS.out _ (by (repeat (first | with_reducible exact Kp.refl _ | with_reducible refine Kp.alloc ?_ _ | with_reducible refine Kp.drew ?_ | with_reducible refine Kp.back (by assumption) ?_)))).mono ?_); rintro e w2 ⟨rfl, hk2⟩; rw [hw.out]))
        go_ret
        exact ⟨ret_boolA hv.out.symm, by (repeat (first | with_reducible exact Kp.refl _ | with_reducible refine Kp.alloc ?_ _ | with_reducible refine Kp.drew ?_ | with_reducible refine Kp.back (by assumption) ?_))⟩
end Go.Proofs.Ytefanekfelokmaa
