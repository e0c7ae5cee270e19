/- The walk of TreeParts. Condition: the node lies in memory. -/
import Derived.Test.YtefanekfelokmaaF13
import Derived.Test.YtefanekfelokmaaO
namespace Go.Proofs.Ytefanekfelokmaa
open Go.RowKit
set_option linter.unusedVariables false
set_option linter.unusedSimpArgs false
theorem soundV_0 {p : Int → Bool} {R : Nat} {T : Nd} (h : (p T.k && okL (flatN R 0 T)) = true) : soundV p R T = 0 := by unfold soundV; rw [h]; rfl
theorem soundV_1 {p : Int → Bool} {R : Nat} {T : Nd} (h : (p T.k && okL (flatN R 0 T)) = false) : soundV p R T = 1 := by unfold soundV; rw [h]; rfl
theorem wrap_small {n : Nat} (h : n ≤ 16384) : wrap64 ((n : Nat) : Int) = (n : Int) := by unfold wrap64; omega
set_option maxHeartbeats 6400000 in
set_option maxRecDepth 100000 in
theorem parts_no (R : Nat) (T : Nd) (h : Hn) (w : World) (hl : Lies w A0 R T h) (h1 : soundV (inK [1]) R T = 1) (h2 : soundV stK R T = 1) (h3 : soundV exK R T = 1) :
    Calls Try.prog 8 #[h.val] w fun e w' => e = .returned (.bool true) ∧ Kp w w' := by
  have HL := Lib.hid hl
  have hv1 := Lib.hid h1
  have hv2 := Lib.hid h2
  have hv3 := Lib.hid h3
  clear hl h1 h2 h3
  obtain ⟨k, tx, nn, at_, la, ll, lc⟩ := h
  go_enter Try.func8, Try.ntmps8
  go_wp2_with (first | (go_at_call 12; (with_reducible refine (c_answers _).mono ?_); rintro e w1 ⟨rfl, hk1⟩; have bb := boxed (w := w) (h := ⟨k, tx, nn, at_, la, ll, lc⟩) (show Kp (w.alloc (.cells #[.int .i64 k, .string tx, .int .u64 nn, .int .i64 at_, .slice la ll lc] 25)) w1 by (repeat (first | with_reducible exact Kp.refl _ | with_reducible refine Kp.alloc ?_ _ | with_reducible refine Kp.drew ?_ | with_reducible refine Kp.back (by assumption) ?_))); simp only at bb; obtain ⟨b0, b1, b2, b3, b4, bs⟩ := bb) | (go_at_call 14; (with_reducible refine (c_Own R T ⟨k, tx, nn, at_, la, ll, lc⟩ _ (HL.out.keep (by (repeat (first | with_reducible exact Kp.refl _ | with_reducible refine Kp.alloc ?_ _ | with_reducible refine Kp.drew ?_ | with_reducible refine Kp.back (by assumption) ?_))))).mono ?_); rintro e w1 ⟨h', rfl, hli, hk1⟩; have LI := Lib.hid (hli.weak (A0_le _)); clear hli; have bb := boxed (w := w) (h := ⟨k, tx, nn, at_, la, ll, lc⟩) (show Kp (w.alloc (.cells #[.int .i64 k, .string tx, .int .u64 nn, .int .i64 at_, .slice la ll lc] 25)) w1 by (repeat (first | with_reducible exact Kp.refl _ | with_reducible refine Kp.alloc ?_ _ | with_reducible refine Kp.drew ?_ | with_reducible refine Kp.back (by assumption) ?_))); simp only at bb; obtain ⟨b0, b1, b2, b3, b4, bs⟩ := bb) | (go_at_call 13; (with_reducible refine (c_Check R T h' _ (LI.out.keep (by (repeat (first | with_reducible exact Kp.refl _ | with_reducible refine Kp.alloc ?_ _ | with_reducible refine Kp.drew ?_ | with_reducible refine Kp.back (by assumption) ?_)))) (fun y _ => forms_all y.2)).mono ?_); rintro e w1 ⟨rfl, hk1⟩; rw [hv1.out]; have bb := boxed (w := w) (h := ⟨k, tx, nn, at_, la, ll, lc⟩) (show Kp (w.alloc (.cells #[.int .i64 k, .string tx, .int .u64 nn, .int .i64 at_, .slice la ll lc] 25)) w1 by (repeat (first | with_reducible exact Kp.refl _ | with_reducible refine Kp.alloc ?_ _ | with_reducible refine Kp.drew ?_ | with_reducible refine Kp.back (by assumption) ?_))); simp only at bb; obtain ⟨b0, b1, b2, b3, b4, bs⟩ := bb) | (go_at_call 15; (with_reducible refine (c_Sound1 R T h' _ (LI.out.keep (by (repeat (first | with_reducible exact Kp.refl _ | with_reducible refine Kp.alloc ?_ _ | with_reducible refine Kp.drew ?_ | with_reducible refine Kp.back (by assumption) ?_)))) (fun y _ => forms_all y.2)).mono ?_); rintro e w1 ⟨rfl, hk1⟩; rw [hv2.out]; have bb := boxed (w := w) (h := ⟨k, tx, nn, at_, la, ll, lc⟩) (show Kp (w.alloc (.cells #[.int .i64 k, .string tx, .int .u64 nn, .int .i64 at_, .slice la ll lc] 25)) w1 by (repeat (first | with_reducible exact Kp.refl _ | with_reducible refine Kp.alloc ?_ _ | with_reducible refine Kp.drew ?_ | with_reducible refine Kp.back (by assumption) ?_))); simp only at bb; obtain ⟨b0, b1, b2, b3, b4, bs⟩ := bb) | (go_at_call 15; (with_reducible refine (c_Sound2 R T h' _ (LI.out.keep (by (repeat (first | with_reducible exact Kp.refl _ | with_reducible refine Kp.alloc ?_ _ | with_reducible refine Kp.drew ?_ | with_reducible refine Kp.back (by assumption) ?_)))) (fun y _ => forms_all y.2)).mono ?_); rintro e w1 ⟨rfl, hk1⟩; rw [hv3.out]; have bb := boxed (w := w) (h := ⟨k, tx, nn, at_, la, ll, lc⟩) (show Kp (w.alloc (.cells #[.int .i64 k, .string tx, .int .u64 nn, .int .i64 at_, .slice la ll lc] 25)) w1 by (repeat (first | with_reducible exact Kp.refl _ | with_reducible refine Kp.alloc ?_ _ | with_reducible refine Kp.drew ?_ | with_reducible refine Kp.back (by assumption) ?_))); simp only at bb; obtain ⟨b0, b1, b2, b3, b4, bs⟩ := bb))
  go_ret
  refine ⟨by first | rfl | (simp; done), ?_⟩
  (repeat (first | with_reducible exact Kp.refl _ | with_reducible refine Kp.alloc ?_ _ | with_reducible refine Kp.drew ?_ | with_reducible refine Kp.back (by assumption) ?_))
end Go.Proofs.Ytefanekfelokmaa
