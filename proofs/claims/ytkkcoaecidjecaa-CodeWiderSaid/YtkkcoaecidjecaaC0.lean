/- What a program that does nothing does not answer. No condition. -/
import Derived.Test.YtkkcoaecidjecaaW4
import Derived.Carry
namespace Go.Proofs.Ytkkcoaecidjecaa
open Go.RowKit
set_option linter.unusedVariables false
set_option linter.unusedSimpArgs false
set_option maxHeartbeats 1000000 in
set_option maxRecDepth 100000 in
theorem shapes_nil (w : World) : Calls Try.prog 44 #[.slice none 0 0] w fun e w' => e = .returned (.tuple #[.slice none 0 0, .bool true]) ∧ Kp w w' := by
  have hmm := @run_makeMap Try.prog
  go_enter Try.func44, Try.ntmps44
  go_wp2_with fail
  go_loopw [2, 15] (fun v i wr => v = .slice none 0 0 ∧ i = .int .i64 0 ∧ Kp w wr) (fun _ _ _ => 0)
  case atStart => exact ⟨rfl, rfl, (Kp.refl w).alloc _⟩
  case round =>
    obtain ⟨rfl, rfl, hk⟩ := hrel
    go_wp2_with fail
    go_ret2
    exact ⟨rfl, hk⟩
set_option maxHeartbeats 1000000 in
set_option maxRecDepth 100000 in
theorem funcs_nil (w : World) (n : Int) : Calls Try.prog 45 #[.slice none 0 0, .int .i64 n] w fun e w' => e = .returned (.bool false) ∧ Kp w w' := by
  go_enter Try.func45, Try.ntmps45
  go_wp2_with fail
  go_ret
  exact ⟨rfl, Kp.refl w⟩
set_option maxHeartbeats 1000000 in
set_option maxRecDepth 100000 in
theorem measure_nil (w : World) : Calls Try.prog 27 #[.agg #[.slice none 0 0, .slice none 0 0]] w fun e w' => e = .returned (.tuple #[.slice none 0 0, .int .i64 1]) ∧ Kp w w' := by
  have hr := heap_alloc_new w (.cells #[.slice none 0 0, .slice none 0 0] 25)
  obtain ⟨c0, c1⟩ := row2 hr
  clear hr
  go_enter Try.func27, Try.ntmps27
  go_wp2_with (first | (go_at_call 44; (with_reducible refine (shapes_nil _).mono ?_); rintro e w1 ⟨rfl, hk⟩; have HK := Lib.hid hk; have c0 := hk.cellv c0; have c1 := hk.cellv c1; clear hk) | (go_at_call 45; (with_reducible refine (funcs_nil _ _).mono ?_); rintro e w2 ⟨rfl, hk⟩; have HK2 := Lib.hid hk; clear hk))
  go_ret2
  exact ⟨rfl, ((Kp.refl w).alloc _).trans (HK.out.trans HK2.out)⟩
set_option maxHeartbeats 1000000 in
set_option maxRecDepth 100000 in
theorem check_nil (w : World) : Calls Try.prog 12 #[.agg #[.slice none 0 0, .slice none 0 0]] w fun e w' => e = .returned (.int .i64 1) ∧ Kp w w' := by
  have hr := heap_alloc_new w (.cells #[.slice none 0 0, .slice none 0 0] 25)
  obtain ⟨c0, c1⟩ := row2 hr
  clear hr
  go_enter Try.func12, Try.ntmps12
  go_wp2_with (go_at_call 27; (with_reducible refine (measure_nil _).mono ?_); rintro e w1 ⟨rfl, hk⟩; have HK := Lib.hid hk; clear hk)
  go_ret
  exact ⟨rfl, ((Kp.refl w).alloc _).trans HK.out⟩
/-- The module of one shape, that of truth. -/
def one1 : Mo := ⟨[⟨1, [], 0⟩], []⟩
theorem enc_one : encR one1 = ([1, 1, 0, 0, 0], 0) := by decide
theorem lies_one (w : World) : LM (w.alloc (.cells #[.int .i64 1, .slice none 0 0, .int .i64 0] 45)) A0 one1 [.slice (some ⟨w.heap.size, 0, none⟩) 1 1, .slice none 0 0] := by
  refine ⟨_, _, rfl, ⟨some ⟨w.heap.size, 0, none⟩, 1, fun _ => [.int .i64 1, .slice none 0 0, .int .i64 0], rfl, by decide, by decide, fun i => ⟨rfl, by intro u hu; simp at hu; rcases hu with rfl | rfl | rfl <;> rfl⟩, ⟨fun h => (by cases h), fun _ => ⟨w.heap.size, 0, rfl, trivial, by simp, fun h => h.elim, fun i hi j v hv => ?_⟩⟩, fun i x hx => ?_⟩, ⟨none, 0, fun _ => [.int .i64 0, .slice none 0 0, .slice none 0 0, .int .i64 0, .slice none 0 0], rfl, by decide, by decide, fun i => ⟨rfl, by intro u hu; simp at hu; rcases hu with rfl | rfl | rfl | rfl | rfl <;> rfl⟩, tab_nil _ _ _ _ _, fun i x hx => by simp [one1] at hx⟩⟩
  · obtain rfl : i = 0 := by simp [one1] at hi; omega
    rw [cell_of_row _ w.heap.size _ _ 45 (0, 0) (heap_alloc_new _ _)]
    simpa using hv
  · cases i with
    | zero =>
      simp [one1] at hx
      subst hx
      exact ⟨_, rfl, ⟨none, 0, fun _ => [.int .i64 0], rfl, by decide, by decide, fun i => ⟨rfl, by intro u hu; simp at hu; subst hu; rfl⟩, tab_nil _ _ _ _ _, fun i x hx => by simp at hx⟩, by unfold i64; decide, by unfold i64; decide⟩
    | succ i => simp [one1] at hx
set_option maxHeartbeats 1000000 in
set_option maxRecDepth 100000 in
theorem c_answers (w : World) : Calls Try.prog 13 #[] w fun e w' => e = .returned (.bool true) ∧ Kp w w' := by
  have HL := Lib.hid (lies_one w)
  go_enter Try.func13, Try.ntmps13
  go_wp2_with (first | (go_at_call 26; (with_reducible refine (c_Encode one1 _ _ _ HL.out (by decide)).mono ?_); rintro e w1 ⟨v, rfl, hl, hk⟩; rw [enc_one]; rw [enc_one] at hl; obtain ⟨ad, c, C, rfl, _⟩ := hl; have HK := Lib.hid hk; clear hk) | (go_at_call 12; (with_reducible refine (check_nil _).mono ?_); rintro e w2 ⟨rfl, hk⟩; have HK2 := Lib.hid hk; clear hk))
  go_ret
  exact ⟨rfl, ((Kp.refl w).alloc _).trans (HK.out.trans HK2.out)⟩
end Go.Proofs.Ytkkcoaecidjecaa
