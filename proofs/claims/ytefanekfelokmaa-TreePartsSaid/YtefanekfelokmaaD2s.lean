/- The walk of TreeParts, where the node is sound. Condition: the node lies in memory. -/
import Derived.Test.YtefanekfelokmaaD2
namespace Go.Proofs.Ytefanekfelokmaa
open Go.RowKit
set_option linter.unusedVariables false
set_option linter.unusedSimpArgs false
set_option maxHeartbeats 12800000 in
set_option maxRecDepth 100000 in
theorem parts_st (r : Nat) (T : Nd) (h : Hn) (K : Nat → Hn) (w : World) (t : Top w A0 T h K) (hh : ∀ i X, T.kids[i]? = some X → Lies w A0 r X (K i)) (hok : okL (flatN (r + 1) 0 T) = true) (h1 : soundV (inK [1]) (r + 1) T = 1) (h2 : soundV stK (r + 1) T = 0) :
    Calls Try.prog 8 #[h.val] w fun e w' => e = .returned (.bool true) ∧ Kp w w' := by
  have HL := Lib.hid (show Lies w A0 (r + 1) T h from ⟨K, t, hh⟩)
  have hv1 := Lib.hid h1
  clear h1
  have hv2 := Lib.hid h2
  clear h2
  have HH2 := Lib.hid hh
  have HOK := Lib.hid hok
  have HTL := Lib.hid t.tl
  have hes := t.es
  have hbl := t.bl
  have hkl : h.ll ≤ T.kids.length := by rw [← hes]; exact Nat.le_refl _
  have h16 := (okL_of hok).1
  have HLN := Lib.hid (fun m (hm : m ≤ h.ll) => (show 1 + lenN r T.kids m ≤ 16384 ∧ True from ⟨Nat.le_trans (lenN_flat hok m (by omega)).1 h16, trivial⟩))
  have hTS := Lib.hid (show wrap64 (((flatN (r + 1) 0 T).length : Nat) : Int) = 1 + (lenN r T.kids h.ll : Int) from by rw [hes, wrap_small h16, lenN_all hok]; omega)
  have HES := Lib.hid hes
  clear t hh hok hes h16 hkl
  obtain ⟨k, tx, nn, at_, la, ll, lc⟩ := h
  simp only at HTL hbl HLN hTS HES
  go_enter Try.func8, Try.ntmps8
  go_wp2_with (first | (go_at_call 12; (with_reducible refine (c_answers _).mono ?_); rintro e w1 ⟨rfl, hk1⟩; have bb := boxed (w := w) (h := ⟨k, tx, nn, at_, la, ll, lc⟩) (show Kp (w.alloc (.cells #[.int .i64 k, .string tx, .int .u64 nn, .int .i64 at_, .slice la ll lc] 25)) w1 by (repeat (first | with_reducible exact Kp.refl _ | with_reducible refine Kp.alloc ?_ _ | with_reducible refine Kp.drew ?_ | with_reducible refine Kp.back (by assumption) ?_))); simp only at bb; obtain ⟨b0, b1, b2, b3, b4, bs⟩ := bb) | (go_at_call 14; (with_reducible refine (c_Own (r + 1) T ⟨k, tx, nn, at_, la, ll, lc⟩ _ (HL.out.keep (by (repeat (first | with_reducible exact Kp.refl _ | with_reducible refine Kp.alloc ?_ _ | with_reducible refine Kp.drew ?_ | with_reducible refine Kp.back (by assumption) ?_))))).mono ?_); rintro e w1 ⟨h', rfl, hli, hk1⟩; have LI := Lib.hid (hli.weak (A0_le _)); clear hli; have bb := boxed (w := w) (h := ⟨k, tx, nn, at_, la, ll, lc⟩) (show Kp (w.alloc (.cells #[.int .i64 k, .string tx, .int .u64 nn, .int .i64 at_, .slice la ll lc] 25)) w1 by (repeat (first | with_reducible exact Kp.refl _ | with_reducible refine Kp.alloc ?_ _ | with_reducible refine Kp.drew ?_ | with_reducible refine Kp.back (by assumption) ?_))); simp only at bb; obtain ⟨b0, b1, b2, b3, b4, bs⟩ := bb) | (go_at_call 13; (with_reducible refine (c_Check (r + 1) T h' _ (LI.out.keep (by (repeat (first | with_reducible exact Kp.refl _ | with_reducible refine Kp.alloc ?_ _ | with_reducible refine Kp.drew ?_ | with_reducible refine Kp.back (by assumption) ?_)))) (fun y _ => forms_all y.2)).mono ?_); rintro e w1 ⟨rfl, hk1⟩; rw [hv1.out]; have bb := boxed (w := w) (h := ⟨k, tx, nn, at_, la, ll, lc⟩) (show Kp (w.alloc (.cells #[.int .i64 k, .string tx, .int .u64 nn, .int .i64 at_, .slice la ll lc] 25)) w1 by (repeat (first | with_reducible exact Kp.refl _ | with_reducible refine Kp.alloc ?_ _ | with_reducible refine Kp.drew ?_ | with_reducible refine Kp.back (by assumption) ?_))); simp only at bb; obtain ⟨b0, b1, b2, b3, b4, bs⟩ := bb) | (go_at_call 15; (with_reducible refine (c_Sound1 (r + 1) T h' _ (LI.out.keep (by (repeat (first | with_reducible exact Kp.refl _ | with_reducible refine Kp.alloc ?_ _ | with_reducible refine Kp.drew ?_ | with_reducible refine Kp.back (by assumption) ?_)))) (fun y _ => forms_all y.2)).mono ?_); rintro e w1 ⟨rfl, hk1⟩; rw [hv2.out]; have bb := boxed (w := w) (h := ⟨k, tx, nn, at_, la, ll, lc⟩) (show Kp (w.alloc (.cells #[.int .i64 k, .string tx, .int .u64 nn, .int .i64 at_, .slice la ll lc] 25)) w1 by (repeat (first | with_reducible exact Kp.refl _ | with_reducible refine Kp.alloc ?_ _ | with_reducible refine Kp.drew ?_ | with_reducible refine Kp.back (by assumption) ?_))); simp only at bb; obtain ⟨b0, b1, b2, b3, b4, bs⟩ := bb))
  go_loopw [3, 4] (fun s i wr => ∃ n : Nat, n ≤ ll ∧ i = .int .i64 n ∧ s = .int .i64 (1 + (lenN r T.kids n : Int)) ∧ Kp (w.alloc (.cells #[.int .i64 k, .string tx, .int .u64 nn, .int .i64 at_, .slice la ll lc] 25)) wr) (fun _ i _ => ll - (intOf i).toNat)
  case atStart => exact ⟨0, by omega, rfl, by simp [lenN], by (repeat (first | with_reducible exact Kp.refl _ | with_reducible refine Kp.alloc ?_ _ | with_reducible refine Kp.drew ?_ | with_reducible refine Kp.back (by assumption) ?_))⟩
  case round =>
    obtain ⟨n, hn, rfl, rfl, hkr⟩ := hrel
    have bb := boxed (w := w) (h := ⟨k, tx, nn, at_, la, ll, lc⟩) hkr
    simp only at bb
    obtain ⟨b0, b1, b2, b3, b4, bs⟩ := bb
    have HKW : Hid (Kp w wr) := Lib.hid (((Kp.refl w).alloc _).trans hkr)
    have hnb := (HLN.out n (by omega)).1
    by_cases hlt : n < ll
    · obtain ⟨b, o, ha, hr⟩ := HTL.out.at (by omega)
      have HA := Lib.hid ha
      have HR := Lib.hid (hr n hlt)
      obtain ⟨X, hX⟩ : ∃ X, T.kids[n]? = some X := ⟨_, List.getElem?_eq_getElem (by have := HES.out; omega)⟩
      have LX := Lib.hid ((HH2.out n X hX).keep HKW.out)
      have hXk := lies_k LX.out
      obtain ⟨hokX, hlenX⟩ := ok_kid HOK.out (List.mem_of_getElem? hX)
      have hnx := lenN_next (r := r) hX
      have hnb2 := (HLN.out (n + 1) (by omega)).1
      rw [hnx] at hnb2
      have hsz := Lib.hid (wrap_small (n := (flatN r 0 X).length) (by omega))
      have HNX := Lib.hid hnx
      clear ha hr hX hnx hlenX
      have hq : (K n).k < 10 ∨ (10 ≤ (K n).k ∧ (K n).k ≤ 13) ∨ (13 < (K n).k ∧ (K n).k < 20) ∨ (20 ≤ (K n).k ∧ (K n).k ≤ 29) ∨ (30 ≤ (K n).k ∧ (K n).k ≤ 40) ∨ (K n).k = 41 ∨ (K n).k = 42 ∨ 42 < (K n).k := by omega
      have ll63 : (flatN r 0 X).length ≤ 16384 := by omega
      rcases hq with hc | hc | hc | hc | hc | hc | hc | hc
      all_goals
        first | (have vv := Lib.hid (soundV_0 (p := stK) (R := r) (T := X) (by rw [hokX, hXk, Bool.and_true]; exact decide_eq_true (by omega)))) | (have vv := Lib.hid (soundV_0 (p := exK) (R := r) (T := X) (by rw [hokX, hXk, Bool.and_true]; exact decide_eq_true (by omega)))) | (have vv := Lib.hid (soundV_0 (p := tyK) (R := r) (T := X) (by rw [hokX, hXk, Bool.and_true]; exact decide_eq_true (by omega)))) | skip
        first | have d0 : decide (20 ≤ (K n).k) = true := decide_eq_true (by omega) | have d0 : decide (20 ≤ (K n).k) = false := decide_eq_false (by omega)
        first | have d1 : decide ((K n).k ≤ 29) = true := decide_eq_true (by omega) | have d1 : decide ((K n).k ≤ 29) = false := decide_eq_false (by omega)
        first | have d2 : ((K n).k == 41) = true := beq_iff_eq.2 (by omega) | have d2 : ((K n).k == 41) = false := beq_eq_false_iff_ne.2 (by omega)
        first | have d3 : ((K n).k == 42) = true := beq_iff_eq.2 (by omega) | have d3 : ((K n).k == 42) = false := beq_eq_false_iff_ne.2 (by omega)
        first | have d4 : decide (30 ≤ (K n).k) = true := decide_eq_true (by omega) | have d4 : decide (30 ≤ (K n).k) = false := decide_eq_false (by omega)
        first | have d5 : decide ((K n).k ≤ 40) = true := decide_eq_true (by omega) | have d5 : decide ((K n).k ≤ 40) = false := decide_eq_false (by omega)
        first | have d6 : decide (10 ≤ (K n).k) = true := decide_eq_true (by omega) | have d6 : decide (10 ≤ (K n).k) = false := decide_eq_false (by omega)
        first | have d7 : decide ((K n).k ≤ 13) = true := decide_eq_true (by omega) | have d7 : decide ((K n).k ≤ 13) = false := decide_eq_false (by omega)
        clear hc hXk hokX
        go_wp2_with (first | ((with_reducible show wpList _ _ _ (⟨some 38, _, _, _, _, _⟩ :: _) _ _); refine wpList_index_tab (d := 38) _ _ _ rfl 25 Try.underlying23 5 rfl _ _ _ _ o (by rfl) HA.out n (by rfl) hlt ?_) | ((with_reducible show wpList _ _ _ (⟨some 39, _, _, _, _, _⟩ :: _) _ _); refine wpList_load_nd (d := 39) _ _ rfl _ Try.underlying25 w _ _ b (o+n*5) (by rfl) rfl (by first | rfl | omega) (K n) HR.out HKW.out rfl ?_) | (go_at_call 14; (with_reducible refine (c_Own r X (K n) _ (LX.out.keep (by (repeat (first | with_reducible exact Kp.refl _ | with_reducible refine Kp.alloc ?_ _ | with_reducible refine Kp.drew ?_ | with_reducible refine Kp.back (by assumption) ?_))))).mono ?_); rintro e w1 ⟨h', rfl, hli, hk1⟩; have LI := Lib.hid (hli.weak (A0_le _)); clear hli; have xx := boxed (w := wr) (h := K n) (e := 25) (show Kp _ w1 by (repeat (first | with_reducible exact Kp.refl _ | with_reducible refine Kp.alloc ?_ _ | with_reducible refine Kp.drew ?_ | with_reducible refine Kp.back (by assumption) ?_))); obtain ⟨x0, x1, x2, x3, x4, xs⟩ := xx; have bb := boxed (w := w) (h := ⟨k, tx, nn, at_, la, ll, lc⟩) (show Kp (w.alloc (.cells #[.int .i64 k, .string tx, .int .u64 nn, .int .i64 at_, .slice la ll lc] 25)) w1 by (repeat (first | with_reducible exact Kp.refl _ | with_reducible refine Kp.alloc ?_ _ | with_reducible refine Kp.drew ?_ | with_reducible refine Kp.back (by assumption) ?_))); simp only at bb; obtain ⟨b0, b1, b2, b3, b4, bs⟩ := bb) | (go_at_call 16; (with_reducible refine (c_Size r X h' _ (LI.out.keep (by (repeat (first | with_reducible exact Kp.refl _ | with_reducible refine Kp.alloc ?_ _ | with_reducible refine Kp.drew ?_ | with_reducible refine Kp.back (by assumption) ?_))))).mono ?_); rintro e w1 ⟨rfl, hk1⟩; rw [hsz.out]; have xx := boxed (w := wr) (h := K n) (e := 25) (show Kp _ w1 by (repeat (first | with_reducible exact Kp.refl _ | with_reducible refine Kp.alloc ?_ _ | with_reducible refine Kp.drew ?_ | with_reducible refine Kp.back (by assumption) ?_))); obtain ⟨x0, x1, x2, x3, x4, xs⟩ := xx; have bb := boxed (w := w) (h := ⟨k, tx, nn, at_, la, ll, lc⟩) (show Kp (w.alloc (.cells #[.int .i64 k, .string tx, .int .u64 nn, .int .i64 at_, .slice la ll lc] 25)) w1 by (repeat (first | with_reducible exact Kp.refl _ | with_reducible refine Kp.alloc ?_ _ | with_reducible refine Kp.drew ?_ | with_reducible refine Kp.back (by assumption) ?_))); simp only at bb; obtain ⟨b0, b1, b2, b3, b4, bs⟩ := bb) | (go_at_call 15; (with_reducible refine (c_Sound1 r X h' _ (LI.out.keep (by (repeat (first | with_reducible exact Kp.refl _ | with_reducible refine Kp.alloc ?_ _ | with_reducible refine Kp.drew ?_ | with_reducible refine Kp.back (by assumption) ?_)))) (fun y _ => forms_all y.2)).mono ?_); rintro e w1 ⟨rfl, hk1⟩; rw [vv.out]; have xx := boxed (w := wr) (h := K n) (e := 25) (show Kp _ w1 by (repeat (first | with_reducible exact Kp.refl _ | with_reducible refine Kp.alloc ?_ _ | with_reducible refine Kp.drew ?_ | with_reducible refine Kp.back (by assumption) ?_))); obtain ⟨x0, x1, x2, x3, x4, xs⟩ := xx; have bb := boxed (w := w) (h := ⟨k, tx, nn, at_, la, ll, lc⟩) (show Kp (w.alloc (.cells #[.int .i64 k, .string tx, .int .u64 nn, .int .i64 at_, .slice la ll lc] 25)) w1 by (repeat (first | with_reducible exact Kp.refl _ | with_reducible refine Kp.alloc ?_ _ | with_reducible refine Kp.drew ?_ | with_reducible refine Kp.back (by assumption) ?_))); simp only at bb; obtain ⟨b0, b1, b2, b3, b4, bs⟩ := bb) | (go_at_call 15; (with_reducible refine (c_Sound2 r X h' _ (LI.out.keep (by (repeat (first | with_reducible exact Kp.refl _ | with_reducible refine Kp.alloc ?_ _ | with_reducible refine Kp.drew ?_ | with_reducible refine Kp.back (by assumption) ?_)))) (fun y _ => forms_all y.2)).mono ?_); rintro e w1 ⟨rfl, hk1⟩; rw [vv.out]; have xx := boxed (w := wr) (h := K n) (e := 25) (show Kp _ w1 by (repeat (first | with_reducible exact Kp.refl _ | with_reducible refine Kp.alloc ?_ _ | with_reducible refine Kp.drew ?_ | with_reducible refine Kp.back (by assumption) ?_))); obtain ⟨x0, x1, x2, x3, x4, xs⟩ := xx; have bb := boxed (w := w) (h := ⟨k, tx, nn, at_, la, ll, lc⟩) (show Kp (w.alloc (.cells #[.int .i64 k, .string tx, .int .u64 nn, .int .i64 at_, .slice la ll lc] 25)) w1 by (repeat (first | with_reducible exact Kp.refl _ | with_reducible refine Kp.alloc ?_ _ | with_reducible refine Kp.drew ?_ | with_reducible refine Kp.back (by assumption) ?_))); simp only at bb; obtain ⟨b0, b1, b2, b3, b4, bs⟩ := bb) | (go_at_call 15; (with_reducible refine (c_Sound3 r X h' _ (LI.out.keep (by (repeat (first | with_reducible exact Kp.refl _ | with_reducible refine Kp.alloc ?_ _ | with_reducible refine Kp.drew ?_ | with_reducible refine Kp.back (by assumption) ?_)))) (fun y _ => forms_all y.2)).mono ?_); rintro e w1 ⟨rfl, hk1⟩; rw [vv.out]; have xx := boxed (w := wr) (h := K n) (e := 25) (show Kp _ w1 by (repeat (first | with_reducible exact Kp.refl _ | with_reducible refine Kp.alloc ?_ _ | with_reducible refine Kp.drew ?_ | with_reducible refine Kp.back (by assumption) ?_))); obtain ⟨x0, x1, x2, x3, x4, xs⟩ := xx; have bb := boxed (w := w) (h := ⟨k, tx, nn, at_, la, ll, lc⟩) (show Kp (w.alloc (.cells #[.int .i64 k, .string tx, .int .u64 nn, .int .i64 at_, .slice la ll lc] 25)) w1 by (repeat (first | with_reducible exact Kp.refl _ | with_reducible refine Kp.alloc ?_ _ | with_reducible refine Kp.drew ?_ | with_reducible refine Kp.back (by assumption) ?_))); simp only at bb; obtain ⟨b0, b1, b2, b3, b4, bs⟩ := bb))
        go_roundw
        case rel => exact ⟨n + 1, by omega, by go_num, by rw [HNX.out]; first | (congr 1; omega) | (push_cast; congr 1; omega) | (simp; omega), by (repeat (first | with_reducible exact Kp.refl _ | with_reducible refine Kp.alloc ?_ _ | with_reducible refine Kp.drew ?_ | with_reducible refine Kp.back (by assumption) ?_))⟩
        case measure => simp [intOf]; omega
    · obtain rfl : ll = n := by omega
      go_wp2_with (first | (go_at_call 14; (with_reducible refine (c_Own (r + 1) T ⟨k, tx, nn, at_, la, ll, lc⟩ _ (HL.out.keep (by (repeat (first | with_reducible exact Kp.refl _ | with_reducible refine Kp.alloc ?_ _ | with_reducible refine Kp.drew ?_ | with_reducible refine Kp.back (by assumption) ?_))))).mono ?_); rintro e w1 ⟨h', rfl, hli, hk1⟩; have LI := Lib.hid (hli.weak (A0_le _)); clear hli; have bb := boxed (w := w) (h := ⟨k, tx, nn, at_, la, ll, lc⟩) (show Kp (w.alloc (.cells #[.int .i64 k, .string tx, .int .u64 nn, .int .i64 at_, .slice la ll lc] 25)) w1 by (repeat (first | with_reducible exact Kp.refl _ | with_reducible refine Kp.alloc ?_ _ | with_reducible refine Kp.drew ?_ | with_reducible refine Kp.back (by assumption) ?_))); simp only at bb; obtain ⟨b0, b1, b2, b3, b4, bs⟩ := bb) | (go_at_call 16; (with_reducible refine (c_Size (r + 1) T h' _ (LI.out.keep (by (repeat (first | with_reducible exact Kp.refl _ | with_reducible refine Kp.alloc ?_ _ | with_reducible refine Kp.drew ?_ | with_reducible refine Kp.back (by assumption) ?_))))).mono ?_); rintro e w1 ⟨rfl, hk1⟩; rw [hTS.out]))
      go_ret
      refine ⟨by first | rfl | (simp; done), ?_⟩
      (repeat (first | with_reducible exact Kp.refl _ | with_reducible refine Kp.alloc ?_ _ | with_reducible refine Kp.drew ?_ | with_reducible refine Kp.back (by assumption) ?_))
end Go.Proofs.Ytefanekfelokmaa
