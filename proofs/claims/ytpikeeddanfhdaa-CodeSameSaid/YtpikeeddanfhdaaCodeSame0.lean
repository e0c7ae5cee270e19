/- The walk of CodeSame. Condition: both modules lie in memory. -/
import Derived.Test.YtpikeeddanfhdaaS3
import Derived.Test.YtpikeeddanfhdaaO1
import Derived.Test.YtpikeeddanfhdaaC0
namespace Go.Proofs.Ytpikeeddanfhdaa
open Go.RowKit
set_option linter.unusedVariables false
set_option linter.unusedSimpArgs false
set_option maxHeartbeats 6400000 in
set_option maxRecDepth 100000 in
theorem law_CodeSame (x : Mo) (v1 v2 : Value) (y : Mo) (u1 u2 : Value) (w : World) (hx : LM w A0 x [v1, v2]) (hy : LM w A0 y [u1, u2]) :
    Calls Try.prog 7 #[.agg #[v1, v2], .agg #[u1, u2]] w fun e w' => e = .returned (.bool true) ∧ Kp w w' := by
  have HK0 := Lib.hid (((Kp.refl w).alloc (.cells #[v1, v2] 25)).alloc (.cells #[u1, u2] 25))
  have HR0 := Lib.hid (row_keep ((Kp.refl _).alloc (.cells #[u1, u2] 25)) (heap_alloc_new w (.cells #[v1, v2] 25)))
  have HR1 := Lib.hid (show ((w.alloc (.cells #[v1, v2] 25)).alloc (.cells #[u1, u2] 25)).heap[w.heap.size + 1]? = some (.cells #[u1, u2] 25 (0, 0)) by simpa using heap_alloc_new (w.alloc (.cells #[v1, v2] 25)) (.cells #[u1, u2] 25))
  have HX := Lib.hid (goodM.keep hx HK0.out)
  have HY := Lib.hid (goodM.keep hy HK0.out)
  obtain ⟨p0, p1⟩ := row2 HR0.out
  obtain ⟨q0, q1⟩ := row2 HR1.out
  have hkeep := Lib.hid (fun (W' : World) (hk : Kp ((w.alloc (.cells #[v1, v2] 25)).alloc (.cells #[u1, u2] 25)) W') => (⟨hk.cellv p0, hk.cellv p1, hk.cellv q0, hk.cellv q1⟩ : (fun w' : World => w'.cell? ⟨w.heap.size, 0, none⟩ = some v1 ∧ w'.cell? ⟨w.heap.size, 1, none⟩ = some v2 ∧ w'.cell? ⟨w.heap.size + 1, 0, none⟩ = some u1 ∧ w'.cell? ⟨w.heap.size + 1, 1, none⟩ = some u2) W'))
  have hxx := (sameMo_iff x x).2 rfl
  clear hx hy
  have HE : Hid (sameMo x x = true) := Lib.hid hxx
  clear hxx
  cases hs : sameMo x y with
  | true =>
    have HS := Lib.hid hs
    clear hs
    go_enter Try.func7, Try.ntmps7
    go_wp2_with fail
    go_region_held3 (fun w' : World => w'.cell? ⟨w.heap.size, 0, none⟩ = some v1 ∧ w'.cell? ⟨w.heap.size, 1, none⟩ = some v2 ∧ w'.cell? ⟨w.heap.size + 1, 0, none⟩ = some u1 ∧ w'.cell? ⟨w.heap.size + 1, 1, none⟩ = some u2)
      (first | exact hkeep.out _ (by (repeat (first | with_reducible exact Kp.refl _ | with_reducible refine Kp.alloc ?_ _ | with_reducible refine Kp.drew ?_ | with_reducible refine Kp.back (by assumption) ?_))))
      ((first | (go_at_call 13; (with_reducible refine (c_answers _).mono ?_); rintro e w4 ⟨rfl, hk4⟩) | (go_at_call 11; (with_reducible refine (c_Own x v1 v2 _ (goodM.keep HX.out (by (repeat (first | with_reducible exact Kp.refl _ | with_reducible refine Kp.alloc ?_ _ | with_reducible refine Kp.drew ?_ | with_reducible refine Kp.back (by assumption) ?_))))).mono ?_); rintro e w1 ⟨z1, z2, rfl, hl, hk1⟩; replace hl := goodM.weak hl (A0_le _)) | (go_at_call 11; (with_reducible refine (c_Own y u1 u2 _ (goodM.keep HY.out (by (repeat (first | with_reducible exact Kp.refl _ | with_reducible refine Kp.alloc ?_ _ | with_reducible refine Kp.drew ?_ | with_reducible refine Kp.back (by assumption) ?_))))).mono ?_); rintro e w1 ⟨z1, z2, rfl, hl, hk1⟩; replace hl := goodM.weak hl (A0_le _)) | (go_at_call 21; (with_reducible refine (c_Same x y _ _ _ (goodM.keep (by assumption) (by (repeat (first | with_reducible exact Kp.refl _ | with_reducible refine Kp.alloc ?_ _ | with_reducible refine Kp.drew ?_ | with_reducible refine Kp.back (by assumption) ?_)))) (goodM.keep (by assumption) (by (repeat (first | with_reducible exact Kp.refl _ | with_reducible refine Kp.alloc ?_ _ | with_reducible refine Kp.drew ?_ | with_reducible refine Kp.back (by assumption) ?_))))).mono ?_); rintro e w3 ⟨rfl, hk3⟩; rw [HS.out]) | (go_at_call 21; (with_reducible refine (c_Same x x _ _ _ (goodM.keep (by assumption) (by (repeat (first | with_reducible exact Kp.refl _ | with_reducible refine Kp.alloc ?_ _ | with_reducible refine Kp.drew ?_ | with_reducible refine Kp.back (by assumption) ?_)))) (goodM.keep (by assumption) (by (repeat (first | with_reducible exact Kp.refl _ | with_reducible refine Kp.alloc ?_ _ | with_reducible refine Kp.drew ?_ | with_reducible refine Kp.back (by assumption) ?_))))).mono ?_); rintro e w3 ⟨rfl, hk3⟩; rw [HE.out]) | (go_at_call 20; (with_reducible refine (c_rSame x y _ _ _ (goodM.keep HX.out (by (repeat (first | with_reducible exact Kp.refl _ | with_reducible refine Kp.alloc ?_ _ | with_reducible refine Kp.drew ?_ | with_reducible refine Kp.back (by assumption) ?_)))) (goodM.keep HY.out (by (repeat (first | with_reducible exact Kp.refl _ | with_reducible refine Kp.alloc ?_ _ | with_reducible refine Kp.drew ?_ | with_reducible refine Kp.back (by assumption) ?_))))).mono ?_); rintro e w3 ⟨rfl, hk3⟩; rw [HS.out])))
    go_wp2_with fail
    go_ret
    exact ⟨rfl, HK0.out.trans (by (repeat (first | with_reducible exact Kp.refl _ | with_reducible refine Kp.alloc ?_ _ | with_reducible refine Kp.drew ?_ | with_reducible refine Kp.back (by assumption) ?_)))⟩
  | false =>
    have HS := Lib.hid hs
    clear hs
    go_enter Try.func7, Try.ntmps7
    go_wp2_with fail
    go_region_held3 (fun w' : World => w'.cell? ⟨w.heap.size, 0, none⟩ = some v1 ∧ w'.cell? ⟨w.heap.size, 1, none⟩ = some v2 ∧ w'.cell? ⟨w.heap.size + 1, 0, none⟩ = some u1 ∧ w'.cell? ⟨w.heap.size + 1, 1, none⟩ = some u2)
      (first | exact hkeep.out _ (by (repeat (first | with_reducible exact Kp.refl _ | with_reducible refine Kp.alloc ?_ _ | with_reducible refine Kp.drew ?_ | with_reducible refine Kp.back (by assumption) ?_))))
      ((first | (go_at_call 13; (with_reducible refine (c_answers _).mono ?_); rintro e w4 ⟨rfl, hk4⟩) | (go_at_call 11; (with_reducible refine (c_Own x v1 v2 _ (goodM.keep HX.out (by (repeat (first | with_reducible exact Kp.refl _ | with_reducible refine Kp.alloc ?_ _ | with_reducible refine Kp.drew ?_ | with_reducible refine Kp.back (by assumption) ?_))))).mono ?_); rintro e w1 ⟨z1, z2, rfl, hl, hk1⟩; replace hl := goodM.weak hl (A0_le _)) | (go_at_call 11; (with_reducible refine (c_Own y u1 u2 _ (goodM.keep HY.out (by (repeat (first | with_reducible exact Kp.refl _ | with_reducible refine Kp.alloc ?_ _ | with_reducible refine Kp.drew ?_ | with_reducible refine Kp.back (by assumption) ?_))))).mono ?_); rintro e w1 ⟨z1, z2, rfl, hl, hk1⟩; replace hl := goodM.weak hl (A0_le _)) | (go_at_call 21; (with_reducible refine (c_Same x y _ _ _ (goodM.keep (by assumption) (by (repeat (first | with_reducible exact Kp.refl _ | with_reducible refine Kp.alloc ?_ _ | with_reducible refine Kp.drew ?_ | with_reducible refine Kp.back (by assumption) ?_)))) (goodM.keep (by assumption) (by (repeat (first | with_reducible exact Kp.refl _ | with_reducible refine Kp.alloc ?_ _ | with_reducible refine Kp.drew ?_ | with_reducible refine Kp.back (by assumption) ?_))))).mono ?_); rintro e w3 ⟨rfl, hk3⟩; rw [HS.out]) | (go_at_call 21; (with_reducible refine (c_Same x x _ _ _ (goodM.keep (by assumption) (by (repeat (first | with_reducible exact Kp.refl _ | with_reducible refine Kp.alloc ?_ _ | with_reducible refine Kp.drew ?_ | with_reducible refine Kp.back (by assumption) ?_)))) (goodM.keep (by assumption) (by (repeat (first | with_reducible exact Kp.refl _ | with_reducible refine Kp.alloc ?_ _ | with_reducible refine Kp.drew ?_ | with_reducible refine Kp.back (by assumption) ?_))))).mono ?_); rintro e w3 ⟨rfl, hk3⟩; rw [HE.out]) | (go_at_call 20; (with_reducible refine (c_rSame x y _ _ _ (goodM.keep HX.out (by (repeat (first | with_reducible exact Kp.refl _ | with_reducible refine Kp.alloc ?_ _ | with_reducible refine Kp.drew ?_ | with_reducible refine Kp.back (by assumption) ?_)))) (goodM.keep HY.out (by (repeat (first | with_reducible exact Kp.refl _ | with_reducible refine Kp.alloc ?_ _ | with_reducible refine Kp.drew ?_ | with_reducible refine Kp.back (by assumption) ?_))))).mono ?_); rintro e w3 ⟨rfl, hk3⟩; rw [HS.out])))
    go_wp2_with fail
    go_ret
    exact ⟨rfl, HK0.out.trans (by (repeat (first | with_reducible exact Kp.refl _ | with_reducible refine Kp.alloc ?_ _ | with_reducible refine Kp.drew ?_ | with_reducible refine Kp.back (by assumption) ?_)))⟩
end Go.Proofs.Ytpikeeddanfhdaa
