/- A number's text: FormatUint at 7, expression of package print at a number, and Expr. No condition. -/
import Derived.Test.YtahidfjlifojiaaDoorPE
import Derived.Test.YtahidfjlifojiaaDoorPC
namespace Go.Proofs.YtahidfjlifojiaaDoor
open Go.RowKit
set_option linter.unusedVariables false
set_option linter.unusedSimpArgs false

set_option maxHeartbeats 1600000 in
set_option maxRecDepth 100000 in
theorem c_small7 (w : World) : Calls Tryd.prog 45 #[.int .i64 7] w fun e w' => e = .returned (.string ⟨#[55]⟩) ∧ w = w' := by
  go_enter Tryd.func45, Tryd.ntmps45
  go_wp2_with fail
  go_ret
  exact ⟨rfl, rfl⟩
set_option maxHeartbeats 1600000 in
set_option maxRecDepth 100000 in
theorem c_FUi7 (w : World) : Calls Tryd.prog 31 #[.int .u64 7, .int .i64 10] w fun e w' => e = .returned (.string ⟨#[55]⟩) ∧ w = w' := by
  go_enter Tryd.func31, Tryd.ntmps31
  go_wp2_with (go_at_call 45; (with_reducible refine (c_small7 _).mono ?_); rintro e w' ⟨rfl, rfl⟩)
  go_ret
  exact ⟨rfl, rfl⟩
set_option maxHeartbeats 1600000 in
set_option maxRecDepth 100000 in
theorem c_FU7 (w : World) : Calls Tryd.prog 19 #[.int .u64 7, .int .i64 10] w fun e w' => e = .returned (.string ⟨#[55]⟩) ∧ w = w' := by
  go_enter Tryd.func19, Tryd.ntmps19
  go_wp2_with (go_at_call 31; (with_reducible refine (c_FUi7 _).mono ?_); rintro e w' ⟨rfl, rfl⟩)
  go_ret
  exact ⟨rfl, rfl⟩
set_option maxHeartbeats 3200000 in
set_option maxRecDepth 100000 in
theorem c_expr7 (b : Nat) (w : World) (h : Wt w b 0 []) :
    Calls Tryd.prog 11 #[.pointer (some ⟨b, 0, none⟩), (numH 7).val] w fun e w' => e = .returned (.tuple #[]) ∧ Wt w' b 0 [55] ∧ Wr b w w' := by
  have H := Lib.hid h
  have hlt := h.lt
  clear h
  have HN := Lib.hid (show ((w.alloc (.cells #[.int .i64 31, .string ⟨#[]⟩, .int .u64 7, .int .i64 0, .slice none 0 0] 31)).alloc (.cells #[.string ⟨#[55]⟩] 9)).heap[w.heap.size + 1]? = some (.cells (([⟨#[55]⟩] : List ByteArray).map Value.string).toArray 9 (0, 0)) from by
    have := heap_alloc_new (w.alloc (.cells #[.int .i64 31, .string ⟨#[]⟩, .int .u64 7, .int .i64 0, .slice none 0 0] 31)) (.cells #[.string ⟨#[55]⟩] 9)
    simpa using this)
  go_enter Tryd.func11, Tryd.ntmps11
  go_wp2_with (first | (go_at_call 19; (with_reducible refine (c_FU7 _).mono ?_); rintro e w' ⟨rfl, rfl⟩) | (go_at_call 18; refine (c_put b 0 [] [⟨#[55]⟩] (w.heap.size + 1) 1 1 _ rfl ((H.out.keep (((Kp.refl _).alloc _).alloc _))) HN.out (by decide) (by decide) (by omega)).mono ?_; rintro e w1 ⟨rfl, hw1, hk1⟩))
  go_end0
  exact ⟨rfl, hw1, (((Kp.refl w).alloc _).alloc _).wr.trans hk1⟩
set_option maxHeartbeats 3200000 in
set_option maxRecDepth 100000 in
theorem c_write7 (w : World) :
    Calls Tryd.prog 9 #[(numH 7).val, .int .i64 0, .func (.func 11) #[] #[]] w fun e w' => e = .returned (.tuple #[.string ⟨#[55]⟩, .int .i64 0]) ∧ Kp w w' := by
  have HW := Lib.hid (show Wt ((w.alloc (.cells #[.int .i64 31, .string ⟨#[]⟩, .int .u64 7, .int .i64 0, .slice none 0 0] 31)).alloc (.cells #[.pointer none, .slice none 0 0, .int .i64 0] 42)) (w.heap.size + 1) 0 [] from
    .inl ⟨.slice none 0 0, by have := heap_alloc_new (w.alloc (.cells #[.int .i64 31, .string ⟨#[]⟩, .int .u64 7, .int .i64 0, .slice none 0 0] 31)) (.cells #[.pointer none, .slice none 0 0, .int .i64 0] 42); simpa using this, World.ownsRow_nil _ _ _ _, by simp [Value.ownBlock]⟩)
  go_enter Tryd.func9, Tryd.ntmps9
  go_wp2_with (first | (go_at_call 11; refine (c_expr7 _ _ HW.out).mono ?_; rintro e w1 ⟨rfl, hw1, hk1⟩; have HW1 := Lib.hid hw1; clear hw1) | (go_at_call 12; refine (c_Len _ 0 [55] _ HW1.out).mono ?_; rintro e w2 ⟨rfl, rfl⟩) | (go_at_call 13; refine (c_String _ 0 [55] _ HW1.out (by simp)).mono ?_; rintro e w3 ⟨rfl, hb3⟩))
  go_ret2
  refine ⟨rfl, ?_⟩
  have h1 : Below w.heap.size ((w.alloc (.cells #[.int .i64 31, .string ⟨#[]⟩, .int .u64 7, .int .i64 0, .slice none 0 0] 31)).alloc (.cells #[.pointer none, .slice none 0 0, .int .i64 0] 42)) w1 := hk1.old (by omega) (by simp; omega)
  exact Below.trans (Below.trans (show Below w.heap.size w _ from ((Kp.refl w).alloc _).alloc _) h1) (hb3.mono (by omega))
set_option maxHeartbeats 3200000 in
set_option maxRecDepth 100000 in
theorem c_Expr7 (w : World) :
    Calls Tryd.prog 7 #[(numH 7).val] w fun e w' => e = .returned (.tuple #[.string ⟨#[55]⟩, .int .i64 0]) ∧ Kp w w' := by
  have e3 : soundV exK 1 (numT 7) = 0 := by unfold soundV; rw [num_ok]; rfl
  have HB := Lib.hid (fun w' => (show Calls Tryd.prog 10 #[.agg #[.int .i64 31, .string ⟨#[]⟩, .int .u64 7, .int .i64 0, .slice none 0 0], .int .i64 2] w' fun e w2 => e = .returned (.int .i64 0) ∧ Kp w' w2 from by have h := c_Sound2 1 (numT 7) (numH 7) w' (num_lies w' 7 (by decide)) (num_forms 7); rw [e3] at h; exact h))
  clear e3
  obtain ⟨b0, b1, b2, b3, b4, bs⟩ := boxed (w := w) (h := numH 7) (e := 31) (Kp.refl _)
  have hkeep := Lib.hid (fun (W' : World) (hk : Kp (w.alloc (.cells #[.int .i64 31, .string ⟨#[]⟩, .int .u64 7, .int .i64 0, .slice none 0 0] 31)) W') => (⟨hk.cellv b0, hk.cellv b1, hk.cellv b2, hk.cellv b3, hk.cellv b4⟩ : (fun w' : World => w'.cell? ⟨w.heap.size, 0, none⟩ = some (.int .i64 31) ∧ w'.cell? ⟨w.heap.size, 1, none⟩ = some (.string ⟨#[]⟩) ∧ w'.cell? ⟨w.heap.size, 2, none⟩ = some (.int .u64 7) ∧ w'.cell? ⟨w.heap.size, 3, none⟩ = some (.int .i64 0) ∧ w'.cell? ⟨w.heap.size, 4, none⟩ = some (.slice none 0 0)) W'))
  go_enter Tryd.func7, Tryd.ntmps7
  go_wp2_with fail
  go_region_held3 (fun w' => w'.cell? ⟨w.heap.size, 0, none⟩ = some (.int .i64 31) ∧ w'.cell? ⟨w.heap.size, 1, none⟩ = some (.string ⟨#[]⟩) ∧ w'.cell? ⟨w.heap.size, 2, none⟩ = some (.int .u64 7) ∧ w'.cell? ⟨w.heap.size, 3, none⟩ = some (.int .i64 0) ∧ w'.cell? ⟨w.heap.size, 4, none⟩ = some (.slice none 0 0))
    (first | exact hkeep.out _ (by (repeat (first | with_reducible exact Kp.refl _ | with_reducible refine Kp.drew ?_ | with_reducible refine Kp.back hk2 ?_ | with_reducible refine Kp.back hk1 ?_))))
    ((first | (go_at_call 10; (with_reducible refine (HB.out _).mono ?_); rintro e w1 ⟨rfl, hk1⟩) | (go_at_call 9; refine (c_write7 _).mono ?_; rintro e w2 ⟨rfl, hk2⟩)))
  go_wp2_with fail
  go_ret2
  refine ⟨rfl, ?_⟩
  (repeat (first | with_reducible exact Kp.refl _ | with_reducible refine Kp.alloc ?_ _ | with_reducible refine Kp.drew ?_ | with_reducible refine Kp.back hk2 ?_ | with_reducible refine Kp.back hk1 ?_))
end Go.Proofs.YtahidfjlifojiaaDoor
