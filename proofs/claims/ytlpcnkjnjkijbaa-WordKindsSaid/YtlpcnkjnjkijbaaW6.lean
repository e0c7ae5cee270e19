/- The statements WordKinds, WordEnds, WordRing and WordSteps, walked: at every input the call returns true, and of what was there nothing has turned. -/
import Derived.Test.YtlpcnkjnjkijbaaW4
import Derived.Test.YtlpcnkjnjkijbaaW5
namespace Go.Proofs.Ytlpcnkjnjkijbaa
open Go.RowKit Plain
set_option linter.unusedVariables false
theorem law_WordKinds (k a : Int) (w : World) (ha : 0 ≤ a ∧ a < 18446744073709551616) :
    Calls Try.prog 3 #[.int .i64 k, .int .u64 a] w fun e w' => e = .returned (.bool true) ∧ Kp w w' := by
  have HA := Lib.hid ha
  clear ha
  cases h : wh k with
  | false =>
    have q1 : bt k = 0 := bt_no h
    have q2 : e0 k = 2 := by simp [e0, h]
    have q3 : sg k = false := sg_no h
    go_enter Try.func3, Try.ntmps3
    go_wp2_with (first | (go_at_call 11; with_reducible refine (c_Bits _ _).mono ?_; rintro e w' ⟨rfl, rfl⟩) | (go_at_call 12; with_reducible refine (c_Signed _ _).mono ?_; rintro e w' ⟨rfl, rfl⟩) | (go_at_call 13; with_reducible refine (c_Wrap_no _ _ _ h).mono ?_; rintro e w' ⟨rfl, rfl⟩) | (go_at_call 14; with_reducible refine (c_answers _).mono ?_; rintro e w' ⟨rfl, hka⟩) | (go_at_call 15; with_reducible refine (c_Is _ _ _ HA.out).mono ?_; rintro e w' ⟨rfl, hk1⟩) | (go_at_call 16; with_reducible refine (c_rIs _ _ _ HA.out).mono ?_; rintro e w' ⟨rfl, rfl⟩) | (go_at_call 17; with_reducible refine (c_Whole _ _).mono ?_; rintro e w' ⟨rfl, rfl⟩))
    go_ret
    exact ⟨rfl, hka.trans hk1⟩
  | true =>
    have q2 : e0 k = 0 := by simp [e0, h]
    go_enter Try.func3, Try.ntmps3
    go_wp2_with (first | (go_at_call 11; with_reducible refine (c_Bits _ _).mono ?_; rintro e w' ⟨rfl, rfl⟩) | (go_at_call 12; with_reducible refine (c_Signed _ _).mono ?_; rintro e w' ⟨rfl, rfl⟩) | (go_at_call 13; with_reducible refine (c_Wrap _ _ _ HA.out h).mono ?_; rintro e w' ⟨rfl, rfl⟩) | (go_at_call 14; with_reducible refine (c_answers _).mono ?_; rintro e w' ⟨rfl, hka⟩) | (go_at_call 15; with_reducible refine (c_Is _ _ _ HA.out).mono ?_; rintro e w' ⟨rfl, hk1⟩) | (go_at_call 16; with_reducible refine (c_rIs _ _ _ HA.out).mono ?_; rintro e w' ⟨rfl, rfl⟩) | (go_at_call 17; with_reducible refine (c_Whole _ _).mono ?_; rintro e w' ⟨rfl, rfl⟩) | (go_at_call 18; with_reducible refine (c_rBits _ _).mono ?_; rintro e w' ⟨rfl, rfl⟩) | (go_at_call 19; with_reducible refine (c_rSigned _ _).mono ?_; rintro e w' ⟨rfl, rfl⟩) | (go_at_call 20; with_reducible refine (c_rWrap _ _ _ h HA.out).mono ?_; rintro e w' ⟨rfl, rfl⟩))
    go_ret
    exact ⟨rfl, hka.trans hk1⟩
theorem Kp.back {a b c : World} (k : Kp b c) (h : Kp a b) : Kp a c := h.trans k
theorem law_WordRing (k x y z : Int) (w : World) (hx : 0 ≤ x ∧ x < 18446744073709551616) (hy : 0 ≤ y ∧ y < 18446744073709551616) (hz : 0 ≤ z ∧ z < 18446744073709551616) :
    Calls Try.prog 7 #[.int .i64 k, .int .u64 x, .int .u64 y, .int .u64 z] w fun e w' => e = .returned (.bool true) ∧ Kp w w' := by
  have HX := Lib.hid hx
  have HY := Lib.hid hy
  have HZ := Lib.hid hz
  clear hx hy hz
  cases h : wh k with
  | false =>
    go_enter Try.func7, Try.ntmps7
    go_wp2_with (first | (go_at_call 13; with_reducible refine (c_Wrap_no _ _ _ h).mono ?_; rintro e w' ⟨rfl, rfl⟩) | (go_at_call 14; with_reducible refine (c_answers _).mono ?_; rintro e w' ⟨rfl, hka⟩) | (go_at_call 17; with_reducible refine (c_Whole _ _).mono ?_; rintro e w' ⟨rfl, rfl⟩))
    go_ret
    exact ⟨rfl, by (repeat (first | exact Kp.refl _ | refine Kp.back (by assumption) ?_))⟩
  | true =>
    have q1 : (wr k (wr k x + wr k y) == wr k (wr k y + wr k x)) = true := by rw [Int.add_comm]; simp
    have q2 : (wr k (wr k (wr k x + wr k y) + wr k z) == wr k (wr k x + wr k (wr k y + wr k z))) = true := by rw [ring_assoc h]; simp
    have q3 : (wr k (wr k (wr k x + wr k y) - wr k y) == wr k x) = true := by rw [ring_back h (wr_wr h x)]; simp
    have q4 : (wr k (wr k x * wr k y) == wr k (wr k y * wr k x)) = true := by rw [Int.mul_comm]; simp
    have q5 : (wr k (wr k x * wr k (wr k y + wr k z)) == wr k (wr k (wr k x * wr k y) + wr k (wr k x * wr k z))) = true := by rw [ring_dist h]; simp
    go_enter Try.func7, Try.ntmps7
    go_wp2_with (first | (go_at_call 13; with_reducible refine (c_Wrap _ _ _ HX.out h).mono ?_; rintro e w' ⟨rfl, rfl⟩) | (go_at_call 20; with_reducible refine (c_rWrap _ _ _ h HY.out).mono ?_; rintro e w' ⟨rfl, rfl⟩) | (go_at_call 20; with_reducible refine (c_rWrap _ _ _ h HZ.out).mono ?_; rintro e w' ⟨rfl, rfl⟩) | (go_at_call 21; with_reducible refine (a_add _ _ _ _ (wr_range h _) (wr_range h _) h (iz_wr h _) (iz_wr h _)).mono ?_; rintro e w' ⟨rfl, hk⟩) | (go_at_call 21; with_reducible refine (a_sub _ _ _ _ (wr_range h _) (wr_range h _) h (iz_wr h _) (iz_wr h _)).mono ?_; rintro e w' ⟨rfl, hk⟩) | (go_at_call 21; with_reducible refine (a_mul _ _ _ _ (wr_range h _) (wr_range h _) h (iz_wr h _) (iz_wr h _)).mono ?_; rintro e w' ⟨rfl, hk⟩) | (go_at_call 14; with_reducible refine (c_answers _).mono ?_; rintro e w' ⟨rfl, hka⟩))
    go_ret
    exact ⟨rfl, by (repeat (first | exact Kp.refl _ | refine Kp.back (by assumption) ?_))⟩
theorem law_WordEnds (k x : Int) (w : World) (hx : 0 ≤ x ∧ x < 18446744073709551616) :
    Calls Try.prog 10 #[.int .i64 k, .int .u64 x] w fun e w' => e = .returned (.bool true) ∧ Kp w w' := by
  have HX := Lib.hid hx
  clear hx
  cases h : wh k with
  | false =>
    have q2 : e0 k = 2 := by simp [e0, h]
    go_enter Try.func10, Try.ntmps10
    go_wp2_with (first | (go_at_call 11; with_reducible refine (c_Bits _ _).mono ?_; rintro e w' ⟨rfl, rfl⟩) | (go_at_call 12; with_reducible refine (c_Signed _ _).mono ?_; rintro e w' ⟨rfl, rfl⟩) | (go_at_call 14; with_reducible refine (c_answers _).mono ?_; rintro e w' ⟨rfl, hka⟩) | (go_at_call 17; with_reducible refine (c_Whole _ _).mono ?_; rintro e w' ⟨rfl, rfl⟩))
    go_ret
    exact ⟨rfl, by (repeat (first | exact Kp.refl _ | refine Kp.back (by assumption) ?_))⟩
  | true =>
    rcases wh_iff h with rfl | rfl | rfl | rfl | rfl | rfl
    · have f1 : sg 2 = true := by decide
      have f2 : bt 2 = 8 := by decide
      have f3 : e0 2 = 0 := by decide
      have f4 : (wr 2 (127 + 1) == wr 2 128) = true := by decide
      have f5 : decide (sv 2 (wr 2 x) < sv 2 (wr 2 128)) = false := by have := sv_ends (k := 2) (x := x) (by decide); simp [bn, bt, wh, sg] at this; simp [show sv 2 (wr 2 128) = -128 by decide]; omega
      have f6 : decide (sv 2 127 < sv 2 (wr 2 x)) = false := by have := sv_ends (k := 2) (x := x) (by decide); simp [bn, bt, wh, sg] at this; simp [show sv 2 127 = 127 by decide]; omega
      have f7 : iz 2 127 = true := by decide
      have f8 : iz 2 (wr 2 128) = true := by decide
      go_enter Try.func10, Try.ntmps10
      go_wp2_with (first | (go_at_call 21; with_reducible refine (a_add 2 127 1 _ (by omega) (by omega) h f7 (by decide)).mono ?_; rintro e w' ⟨rfl, hk⟩) | (go_at_call 28; with_reducible refine (c_Less 2 (wr 2 x) (wr 2 128) _ (wr_range h x) (wr_range h 128) h (iz_wr h x) f8).mono ?_; rintro e w' ⟨rfl, hk⟩) | (go_at_call 28; with_reducible refine (c_Less 2 127 (wr 2 x) _ (by omega) (wr_range h x) h f7 (iz_wr h x)).mono ?_; rintro e w' ⟨rfl, hk⟩) | (go_at_call 15; with_reducible refine (c_Is 2 127 _ (by omega)).mono ?_; rintro e w' ⟨rfl, hk⟩) | (go_at_call 15; with_reducible refine (c_Is 2 (wr 2 128) _ (wr_range h 128)).mono ?_; rintro e w' ⟨rfl, hk⟩) | (go_at_call 11; with_reducible refine (c_Bits _ _).mono ?_; rintro e w' ⟨rfl, rfl⟩) | (go_at_call 12; with_reducible refine (c_Signed _ _).mono ?_; rintro e w' ⟨rfl, rfl⟩) | (go_at_call 14; with_reducible refine (c_answers _).mono ?_; rintro e w' ⟨rfl, hka⟩) | (go_at_call 13; with_reducible refine (c_Wrap _ x _ HX.out h).mono ?_; rintro e w' ⟨rfl, rfl⟩) | (go_at_call 13; with_reducible refine (c_Wrap 2 128 _ (by omega) h).mono ?_; rintro e w' ⟨rfl, rfl⟩))
      go_ret
      exact ⟨rfl, by (repeat (first | exact Kp.refl _ | refine Kp.back (by assumption) ?_))⟩
    · have f1 : sg 3 = false := by decide
      have f2 : bt 3 = 8 := by decide
      have f3 : e0 3 = 0 := by decide
      have f4 : (wr 3 (255 + 1) == 0) = true := by decide
      have f5 : decide (sv 3 (wr 3 x) < sv 3 (0)) = false := by have := sv_ends (k := 3) (x := x) (by decide); simp [bn, bt, wh, sg] at this; simp [show sv 3 (0) = 0 by decide]; omega
      have f6 : decide (sv 3 255 < sv 3 (wr 3 x)) = false := by have := sv_ends (k := 3) (x := x) (by decide); simp [bn, bt, wh, sg] at this; simp [show sv 3 255 = 255 by decide]; omega
      have f7 : iz 3 255 = true := by decide
      have f8 : iz 3 (0) = true := by decide
      go_enter Try.func10, Try.ntmps10
      go_wp2_with (first | (go_at_call 21; with_reducible refine (a_add 3 255 1 _ (by omega) (by omega) h f7 (by decide)).mono ?_; rintro e w' ⟨rfl, hk⟩) | (go_at_call 28; with_reducible refine (c_Less 3 (wr 3 x) 0 _ (wr_range h x) (by omega) h (iz_wr h x) f8).mono ?_; rintro e w' ⟨rfl, hk⟩) | (go_at_call 28; with_reducible refine (c_Less 3 255 (wr 3 x) _ (by omega) (wr_range h x) h f7 (iz_wr h x)).mono ?_; rintro e w' ⟨rfl, hk⟩) | (go_at_call 15; with_reducible refine (c_Is 3 255 _ (by omega)).mono ?_; rintro e w' ⟨rfl, hk⟩) | (go_at_call 15; with_reducible refine (c_Is 3 0 _ (by omega)).mono ?_; rintro e w' ⟨rfl, hk⟩) | (go_at_call 11; with_reducible refine (c_Bits _ _).mono ?_; rintro e w' ⟨rfl, rfl⟩) | (go_at_call 12; with_reducible refine (c_Signed _ _).mono ?_; rintro e w' ⟨rfl, rfl⟩) | (go_at_call 14; with_reducible refine (c_answers _).mono ?_; rintro e w' ⟨rfl, hka⟩) | (go_at_call 13; with_reducible refine (c_Wrap _ x _ HX.out h).mono ?_; rintro e w' ⟨rfl, rfl⟩) | (go_at_call 13; with_reducible refine (c_Wrap 3 128 _ (by omega) h).mono ?_; rintro e w' ⟨rfl, rfl⟩))
      go_ret
      exact ⟨rfl, by (repeat (first | exact Kp.refl _ | refine Kp.back (by assumption) ?_))⟩
    · have f1 : sg 4 = true := by decide
      have f2 : bt 4 = 32 := by decide
      have f3 : e0 4 = 0 := by decide
      have f4 : (wr 4 (2147483647 + 1) == wr 4 2147483648) = true := by decide
      have f5 : decide (sv 4 (wr 4 x) < sv 4 (wr 4 2147483648)) = false := by have := sv_ends (k := 4) (x := x) (by decide); simp [bn, bt, wh, sg] at this; simp [show sv 4 (wr 4 2147483648) = -2147483648 by decide]; omega
      have f6 : decide (sv 4 2147483647 < sv 4 (wr 4 x)) = false := by have := sv_ends (k := 4) (x := x) (by decide); simp [bn, bt, wh, sg] at this; simp [show sv 4 2147483647 = 2147483647 by decide]; omega
      have f7 : iz 4 2147483647 = true := by decide
      have f8 : iz 4 (wr 4 2147483648) = true := by decide
      go_enter Try.func10, Try.ntmps10
      go_wp2_with (first | (go_at_call 21; with_reducible refine (a_add 4 2147483647 1 _ (by omega) (by omega) h f7 (by decide)).mono ?_; rintro e w' ⟨rfl, hk⟩) | (go_at_call 28; with_reducible refine (c_Less 4 (wr 4 x) (wr 4 2147483648) _ (wr_range h x) (wr_range h 2147483648) h (iz_wr h x) f8).mono ?_; rintro e w' ⟨rfl, hk⟩) | (go_at_call 28; with_reducible refine (c_Less 4 2147483647 (wr 4 x) _ (by omega) (wr_range h x) h f7 (iz_wr h x)).mono ?_; rintro e w' ⟨rfl, hk⟩) | (go_at_call 15; with_reducible refine (c_Is 4 2147483647 _ (by omega)).mono ?_; rintro e w' ⟨rfl, hk⟩) | (go_at_call 15; with_reducible refine (c_Is 4 (wr 4 2147483648) _ (wr_range h 2147483648)).mono ?_; rintro e w' ⟨rfl, hk⟩) | (go_at_call 11; with_reducible refine (c_Bits _ _).mono ?_; rintro e w' ⟨rfl, rfl⟩) | (go_at_call 12; with_reducible refine (c_Signed _ _).mono ?_; rintro e w' ⟨rfl, rfl⟩) | (go_at_call 14; with_reducible refine (c_answers _).mono ?_; rintro e w' ⟨rfl, hka⟩) | (go_at_call 13; with_reducible refine (c_Wrap _ x _ HX.out h).mono ?_; rintro e w' ⟨rfl, rfl⟩) | (go_at_call 13; with_reducible refine (c_Wrap 4 2147483648 _ (by omega) h).mono ?_; rintro e w' ⟨rfl, rfl⟩))
      go_ret
      exact ⟨rfl, by (repeat (first | exact Kp.refl _ | refine Kp.back (by assumption) ?_))⟩
    · have f1 : sg 5 = false := by decide
      have f2 : bt 5 = 32 := by decide
      have f3 : e0 5 = 0 := by decide
      have f4 : (wr 5 (4294967295 + 1) == 0) = true := by decide
      have f5 : decide (sv 5 (wr 5 x) < sv 5 (0)) = false := by have := sv_ends (k := 5) (x := x) (by decide); simp [bn, bt, wh, sg] at this; simp [show sv 5 (0) = 0 by decide]; omega
      have f6 : decide (sv 5 4294967295 < sv 5 (wr 5 x)) = false := by have := sv_ends (k := 5) (x := x) (by decide); simp [bn, bt, wh, sg] at this; simp [show sv 5 4294967295 = 4294967295 by decide]; omega
      have f7 : iz 5 4294967295 = true := by decide
      have f8 : iz 5 (0) = true := by decide
      go_enter Try.func10, Try.ntmps10
      go_wp2_with (first | (go_at_call 21; with_reducible refine (a_add 5 4294967295 1 _ (by omega) (by omega) h f7 (by decide)).mono ?_; rintro e w' ⟨rfl, hk⟩) | (go_at_call 28; with_reducible refine (c_Less 5 (wr 5 x) 0 _ (wr_range h x) (by omega) h (iz_wr h x) f8).mono ?_; rintro e w' ⟨rfl, hk⟩) | (go_at_call 28; with_reducible refine (c_Less 5 4294967295 (wr 5 x) _ (by omega) (wr_range h x) h f7 (iz_wr h x)).mono ?_; rintro e w' ⟨rfl, hk⟩) | (go_at_call 15; with_reducible refine (c_Is 5 4294967295 _ (by omega)).mono ?_; rintro e w' ⟨rfl, hk⟩) | (go_at_call 15; with_reducible refine (c_Is 5 0 _ (by omega)).mono ?_; rintro e w' ⟨rfl, hk⟩) | (go_at_call 11; with_reducible refine (c_Bits _ _).mono ?_; rintro e w' ⟨rfl, rfl⟩) | (go_at_call 12; with_reducible refine (c_Signed _ _).mono ?_; rintro e w' ⟨rfl, rfl⟩) | (go_at_call 14; with_reducible refine (c_answers _).mono ?_; rintro e w' ⟨rfl, hka⟩) | (go_at_call 13; with_reducible refine (c_Wrap _ x _ HX.out h).mono ?_; rintro e w' ⟨rfl, rfl⟩) | (go_at_call 13; with_reducible refine (c_Wrap 5 2147483648 _ (by omega) h).mono ?_; rintro e w' ⟨rfl, rfl⟩))
      go_ret
      exact ⟨rfl, by (repeat (first | exact Kp.refl _ | refine Kp.back (by assumption) ?_))⟩
    · have f1 : sg 6 = true := by decide
      have f2 : bt 6 = 64 := by decide
      have f3 : e0 6 = 0 := by decide
      have f4 : (wr 6 (9223372036854775807 + 1) == wr 6 9223372036854775808) = true := by decide
      have f5 : decide (sv 6 (wr 6 x) < sv 6 (wr 6 9223372036854775808)) = false := by have := sv_ends (k := 6) (x := x) (by decide); simp [bn, bt, wh, sg] at this; simp [show sv 6 (wr 6 9223372036854775808) = -9223372036854775808 by decide]; omega
      have f6 : decide (sv 6 9223372036854775807 < sv 6 (wr 6 x)) = false := by have := sv_ends (k := 6) (x := x) (by decide); simp [bn, bt, wh, sg] at this; simp [show sv 6 9223372036854775807 = 9223372036854775807 by decide]; omega
      have f7 : iz 6 9223372036854775807 = true := by decide
      have f8 : iz 6 (wr 6 9223372036854775808) = true := by decide
      go_enter Try.func10, Try.ntmps10
      go_wp2_with (first | (go_at_call 21; with_reducible refine (a_add 6 9223372036854775807 1 _ (by omega) (by omega) h f7 (by decide)).mono ?_; rintro e w' ⟨rfl, hk⟩) | (go_at_call 28; with_reducible refine (c_Less 6 (wr 6 x) (wr 6 9223372036854775808) _ (wr_range h x) (wr_range h 9223372036854775808) h (iz_wr h x) f8).mono ?_; rintro e w' ⟨rfl, hk⟩) | (go_at_call 28; with_reducible refine (c_Less 6 9223372036854775807 (wr 6 x) _ (by omega) (wr_range h x) h f7 (iz_wr h x)).mono ?_; rintro e w' ⟨rfl, hk⟩) | (go_at_call 15; with_reducible refine (c_Is 6 9223372036854775807 _ (by omega)).mono ?_; rintro e w' ⟨rfl, hk⟩) | (go_at_call 15; with_reducible refine (c_Is 6 (wr 6 9223372036854775808) _ (wr_range h 9223372036854775808)).mono ?_; rintro e w' ⟨rfl, hk⟩) | (go_at_call 11; with_reducible refine (c_Bits _ _).mono ?_; rintro e w' ⟨rfl, rfl⟩) | (go_at_call 12; with_reducible refine (c_Signed _ _).mono ?_; rintro e w' ⟨rfl, rfl⟩) | (go_at_call 14; with_reducible refine (c_answers _).mono ?_; rintro e w' ⟨rfl, hka⟩) | (go_at_call 13; with_reducible refine (c_Wrap _ x _ HX.out h).mono ?_; rintro e w' ⟨rfl, rfl⟩) | (go_at_call 13; with_reducible refine (c_Wrap 6 9223372036854775808 _ (by omega) h).mono ?_; rintro e w' ⟨rfl, rfl⟩))
      go_ret
      exact ⟨rfl, by (repeat (first | exact Kp.refl _ | refine Kp.back (by assumption) ?_))⟩
    · have f1 : sg 7 = false := by decide
      have f2 : bt 7 = 64 := by decide
      have f3 : e0 7 = 0 := by decide
      have f4 : (wr 7 (18446744073709551615 + 1) == 0) = true := by decide
      have f5 : decide (sv 7 (wr 7 x) < sv 7 (0)) = false := by have := sv_ends (k := 7) (x := x) (by decide); simp [bn, bt, wh, sg] at this; simp [show sv 7 (0) = 0 by decide]; omega
      have f6 : decide (sv 7 18446744073709551615 < sv 7 (wr 7 x)) = false := by have := sv_ends (k := 7) (x := x) (by decide); simp [bn, bt, wh, sg] at this; simp [show sv 7 18446744073709551615 = 18446744073709551615 by decide]; omega
      have f7 : iz 7 18446744073709551615 = true := by decide
      have f8 : iz 7 (0) = true := by decide
      go_enter Try.func10, Try.ntmps10
      go_wp2_with (first | (go_at_call 21; with_reducible refine (a_add 7 18446744073709551615 1 _ (by omega) (by omega) h f7 (by decide)).mono ?_; rintro e w' ⟨rfl, hk⟩) | (go_at_call 28; with_reducible refine (c_Less 7 (wr 7 x) 0 _ (wr_range h x) (by omega) h (iz_wr h x) f8).mono ?_; rintro e w' ⟨rfl, hk⟩) | (go_at_call 28; with_reducible refine (c_Less 7 18446744073709551615 (wr 7 x) _ (by omega) (wr_range h x) h f7 (iz_wr h x)).mono ?_; rintro e w' ⟨rfl, hk⟩) | (go_at_call 15; with_reducible refine (c_Is 7 18446744073709551615 _ (by omega)).mono ?_; rintro e w' ⟨rfl, hk⟩) | (go_at_call 15; with_reducible refine (c_Is 7 0 _ (by omega)).mono ?_; rintro e w' ⟨rfl, hk⟩) | (go_at_call 11; with_reducible refine (c_Bits _ _).mono ?_; rintro e w' ⟨rfl, rfl⟩) | (go_at_call 12; with_reducible refine (c_Signed _ _).mono ?_; rintro e w' ⟨rfl, rfl⟩) | (go_at_call 14; with_reducible refine (c_answers _).mono ?_; rintro e w' ⟨rfl, hka⟩) | (go_at_call 13; with_reducible refine (c_Wrap _ x _ HX.out h).mono ?_; rintro e w' ⟨rfl, rfl⟩) | (go_at_call 13; with_reducible refine (c_Wrap 7 9223372036854775808 _ (by omega) h).mono ?_; rintro e w' ⟨rfl, rfl⟩))
      go_ret
      exact ⟨rfl, by (repeat (first | exact Kp.refl _ | refine Kp.back (by assumption) ?_))⟩
end Go.Proofs.Ytlpcnkjnjkijbaa
