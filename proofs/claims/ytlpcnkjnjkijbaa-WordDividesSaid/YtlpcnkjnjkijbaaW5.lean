/- What Shift and Less of word answer, by plain functions. -/
import Derived.Test.YtlpcnkjnjkijbaaW3
namespace Go.Proofs.Ytlpcnkjnjkijbaa
open Go.RowKit Plain
set_option linter.unusedVariables false

theorem ret_pair {a b : Int} (h : a = b) : Ending.returned (.tuple #[.int .u64 a, .int .i64 0]) = .returned (.tuple #[.int .u64 b, .int .i64 0]) := by rw [h]
theorem s_noop (k a b n : Int) (op : ByteArray) (w : World) (x1 : (op.toList == [60, 60]) = false) (x2 : (op.toList == [62, 62]) = false) :
    Calls Try.prog 23 #[.int .i64 k, .string op, .int .u64 a, .int .i64 b, .int .u64 n] w fun e w' => e = .returned (.tuple #[.int .u64 0, .int .i64 2]) ∧ Kp w w' := by
  go_enter Try.func23, Try.ntmps23
  go_wp2_with (go_at_call 29; with_reducible refine (c_isKind _ _).mono ?_; rintro e w' ⟨rfl, rfl⟩)
  go_ret2
  exact ⟨rfl, Kp.refl w⟩
theorem s_shl_k (k a b n : Int) (w : World) (h : wh k = false) :
    Calls Try.prog 23 #[.int .i64 k, .string ⟨#[60, 60]⟩, .int .u64 a, .int .i64 b, .int .u64 n] w fun e w' => e = .returned (.tuple #[.int .u64 (0), .int .i64 2]) ∧ Kp w w' := by
  go_enter Try.func23, Try.ntmps23
  go_wp2_with (go_at_call 29; with_reducible refine (c_isKind _ _).mono ?_; rintro e w' ⟨rfl, rfl⟩)
  go_ret2
  exact ⟨rfl, Kp.refl w⟩
theorem s_shl_b (k a b n : Int) (w : World) (h : wh k = true) (hb : wh b = false) :
    Calls Try.prog 23 #[.int .i64 k, .string ⟨#[60, 60]⟩, .int .u64 a, .int .i64 b, .int .u64 n] w fun e w' => e = .returned (.tuple #[.int .u64 (0), .int .i64 2]) ∧ Kp w w' := by
  go_enter Try.func23, Try.ntmps23
  go_wp2_with (go_at_call 29; with_reducible refine (c_isKind _ _).mono ?_; rintro e w' ⟨rfl, rfl⟩)
  go_ret2
  exact ⟨rfl, Kp.refl w⟩
theorem s_shl_a (k a b n : Int) (w : World) (ha : 0 ≤ a ∧ a < 18446744073709551616) (hn : 0 ≤ n ∧ n < 18446744073709551616) (h : wh k = true) (hb : wh b = true) (hi : iz k a = false) :
    Calls Try.prog 23 #[.int .i64 k, .string ⟨#[60, 60]⟩, .int .u64 a, .int .i64 b, .int .u64 n] w fun e w' => e = .returned (.tuple #[.int .u64 (0), .int .i64 1]) ∧ Kp w w' := by
  have HA := Lib.hid ha
  have HN := Lib.hid hn
  clear ha hn
  go_enter Try.func23, Try.ntmps23
  go_wp2_with (first | (go_at_call 29; with_reducible refine (c_isKind _ _).mono ?_; rintro e w' ⟨rfl, rfl⟩) | (go_at_call 15; with_reducible refine (c_Is _ _ _ HA.out).mono ?_; rintro e w' ⟨rfl, hk1⟩))
  go_ret2
  exact ⟨rfl, hk1⟩
theorem s_shl_n (k a b n : Int) (w : World) (ha : 0 ≤ a ∧ a < 18446744073709551616) (hn : 0 ≤ n ∧ n < 18446744073709551616) (h : wh k = true) (hb : wh b = true) (hi : iz k a = true) (hj : iz b n = false) :
    Calls Try.prog 23 #[.int .i64 k, .string ⟨#[60, 60]⟩, .int .u64 a, .int .i64 b, .int .u64 n] w fun e w' => e = .returned (.tuple #[.int .u64 (0), .int .i64 1]) ∧ Kp w w' := by
  have HA := Lib.hid ha
  have HN := Lib.hid hn
  clear ha hn
  go_enter Try.func23, Try.ntmps23
  go_wp2_with (first | (go_at_call 29; with_reducible refine (c_isKind _ _).mono ?_; rintro e w' ⟨rfl, rfl⟩) | (go_at_call 15; with_reducible refine (c_Is k a _ HA.out).mono ?_; rintro e w' ⟨rfl, hk1⟩) | (go_at_call 15; with_reducible refine (c_Is b n _ HN.out).mono ?_; rintro e w' ⟨rfl, hk2⟩))
  go_ret2
  exact ⟨rfl, hk1.trans hk2⟩
theorem s_shl_neg (k a b n : Int) (w : World) (ha : 0 ≤ a ∧ a < 18446744073709551616) (hn : 0 ≤ n ∧ n < 18446744073709551616) (h : wh k = true) (hb : wh b = true) (hi : iz k a = true) (hj : iz b n = true) (hg : ng b n = true) :
    Calls Try.prog 23 #[.int .i64 k, .string ⟨#[60, 60]⟩, .int .u64 a, .int .i64 b, .int .u64 n] w fun e w' => e = .returned (.tuple #[.int .u64 (0), .int .i64 19]) ∧ Kp w w' := by
  have HA := Lib.hid ha
  have HN := Lib.hid hn
  have hs : sg b = true := ng_sg hg
  have q1 : wrap64 n < 0 := ng_lt hn hg
  clear ha hn
  go_enter Try.func23, Try.ntmps23
  go_wp2_with (first | (go_at_call 29; with_reducible refine (c_isKind _ _).mono ?_; rintro e w' ⟨rfl, rfl⟩) | (go_at_call 30; with_reducible refine (c_hasSign _ _).mono ?_; rintro e w' ⟨rfl, rfl⟩) | (go_at_call 15; with_reducible refine (c_Is k a _ HA.out).mono ?_; rintro e w' ⟨rfl, hk1⟩) | (go_at_call 15; with_reducible refine (c_Is b n _ HN.out).mono ?_; rintro e w' ⟨rfl, hk2⟩))
  go_ret2
  exact ⟨rfl, hk1.trans hk2⟩
theorem s_shl (k a b n : Int) (w : World) (ha : 0 ≤ a ∧ a < 18446744073709551616) (hn : 0 ≤ n ∧ n < 18446744073709551616) (h : wh k = true) (hb : wh b = true) (hi : iz k a = true) (hj : iz b n = true) (hg : ng b n = false) :
    Calls Try.prog 23 #[.int .i64 k, .string ⟨#[60, 60]⟩, .int .u64 a, .int .i64 b, .int .u64 n] w fun e w' => e = .returned (.tuple #[.int .u64 (wr k (a * 2 ^ min n.toNat 64)), .int .i64 0]) ∧ Kp w w' := by
  have HA := Lib.hid ha
  have HN := Lib.hid hn
  have hn0 : 0 ≤ n := hn.1
  cases hs : sg b with
  | true =>
    have q1 : 0 ≤ wrap64 n := ng_ge hn hs hg
    clear ha hn
    go_enter Try.func23, Try.ntmps23
    go_wp2_with (first | (go_at_call 29; with_reducible refine (c_isKind _ _).mono ?_; rintro e w' ⟨rfl, rfl⟩) | (go_at_call 30; with_reducible refine (c_hasSign _ _).mono ?_; rintro e w' ⟨rfl, rfl⟩) | (go_at_call 31; with_reducible refine (c_wrap _ _ _ h (u64_r _)).mono ?_; rintro e w' ⟨rfl, rfl⟩) | (go_at_call 15; with_reducible refine (c_Is k a _ HA.out).mono ?_; rintro e w' ⟨rfl, hk1⟩) | (go_at_call 15; with_reducible refine (c_Is b n _ HN.out).mono ?_; rintro e w' ⟨rfl, hk2⟩))
    go_ret2
    exact ⟨by rw [wr_u64 h]; rfl, hk1.trans hk2⟩
  | false =>
    clear ha hn
    go_enter Try.func23, Try.ntmps23
    go_wp2_with (first | (go_at_call 29; with_reducible refine (c_isKind _ _).mono ?_; rintro e w' ⟨rfl, rfl⟩) | (go_at_call 30; with_reducible refine (c_hasSign _ _).mono ?_; rintro e w' ⟨rfl, rfl⟩) | (go_at_call 31; with_reducible refine (c_wrap _ _ _ h (u64_r _)).mono ?_; rintro e w' ⟨rfl, rfl⟩) | (go_at_call 15; with_reducible refine (c_Is k a _ HA.out).mono ?_; rintro e w' ⟨rfl, hk1⟩) | (go_at_call 15; with_reducible refine (c_Is b n _ HN.out).mono ?_; rintro e w' ⟨rfl, hk2⟩))
    go_ret2
    exact ⟨by rw [wr_u64 h]; rfl, hk1.trans hk2⟩
theorem s_shr_k (k a b n : Int) (w : World) (h : wh k = false) :
    Calls Try.prog 23 #[.int .i64 k, .string ⟨#[62, 62]⟩, .int .u64 a, .int .i64 b, .int .u64 n] w fun e w' => e = .returned (.tuple #[.int .u64 (0), .int .i64 2]) ∧ Kp w w' := by
  go_enter Try.func23, Try.ntmps23
  go_wp2_with (go_at_call 29; with_reducible refine (c_isKind _ _).mono ?_; rintro e w' ⟨rfl, rfl⟩)
  go_ret2
  exact ⟨rfl, Kp.refl w⟩
theorem s_shr_b (k a b n : Int) (w : World) (h : wh k = true) (hb : wh b = false) :
    Calls Try.prog 23 #[.int .i64 k, .string ⟨#[62, 62]⟩, .int .u64 a, .int .i64 b, .int .u64 n] w fun e w' => e = .returned (.tuple #[.int .u64 (0), .int .i64 2]) ∧ Kp w w' := by
  go_enter Try.func23, Try.ntmps23
  go_wp2_with (go_at_call 29; with_reducible refine (c_isKind _ _).mono ?_; rintro e w' ⟨rfl, rfl⟩)
  go_ret2
  exact ⟨rfl, Kp.refl w⟩
theorem s_shr_a (k a b n : Int) (w : World) (ha : 0 ≤ a ∧ a < 18446744073709551616) (hn : 0 ≤ n ∧ n < 18446744073709551616) (h : wh k = true) (hb : wh b = true) (hi : iz k a = false) :
    Calls Try.prog 23 #[.int .i64 k, .string ⟨#[62, 62]⟩, .int .u64 a, .int .i64 b, .int .u64 n] w fun e w' => e = .returned (.tuple #[.int .u64 (0), .int .i64 1]) ∧ Kp w w' := by
  have HA := Lib.hid ha
  have HN := Lib.hid hn
  clear ha hn
  go_enter Try.func23, Try.ntmps23
  go_wp2_with (first | (go_at_call 29; with_reducible refine (c_isKind _ _).mono ?_; rintro e w' ⟨rfl, rfl⟩) | (go_at_call 15; with_reducible refine (c_Is _ _ _ HA.out).mono ?_; rintro e w' ⟨rfl, hk1⟩))
  go_ret2
  exact ⟨rfl, hk1⟩
theorem s_shr_n (k a b n : Int) (w : World) (ha : 0 ≤ a ∧ a < 18446744073709551616) (hn : 0 ≤ n ∧ n < 18446744073709551616) (h : wh k = true) (hb : wh b = true) (hi : iz k a = true) (hj : iz b n = false) :
    Calls Try.prog 23 #[.int .i64 k, .string ⟨#[62, 62]⟩, .int .u64 a, .int .i64 b, .int .u64 n] w fun e w' => e = .returned (.tuple #[.int .u64 (0), .int .i64 1]) ∧ Kp w w' := by
  have HA := Lib.hid ha
  have HN := Lib.hid hn
  clear ha hn
  go_enter Try.func23, Try.ntmps23
  go_wp2_with (first | (go_at_call 29; with_reducible refine (c_isKind _ _).mono ?_; rintro e w' ⟨rfl, rfl⟩) | (go_at_call 15; with_reducible refine (c_Is k a _ HA.out).mono ?_; rintro e w' ⟨rfl, hk1⟩) | (go_at_call 15; with_reducible refine (c_Is b n _ HN.out).mono ?_; rintro e w' ⟨rfl, hk2⟩))
  go_ret2
  exact ⟨rfl, hk1.trans hk2⟩
theorem s_shr_neg (k a b n : Int) (w : World) (ha : 0 ≤ a ∧ a < 18446744073709551616) (hn : 0 ≤ n ∧ n < 18446744073709551616) (h : wh k = true) (hb : wh b = true) (hi : iz k a = true) (hj : iz b n = true) (hg : ng b n = true) :
    Calls Try.prog 23 #[.int .i64 k, .string ⟨#[62, 62]⟩, .int .u64 a, .int .i64 b, .int .u64 n] w fun e w' => e = .returned (.tuple #[.int .u64 (0), .int .i64 19]) ∧ Kp w w' := by
  have HA := Lib.hid ha
  have HN := Lib.hid hn
  have hs : sg b = true := ng_sg hg
  have q1 : wrap64 n < 0 := ng_lt hn hg
  clear ha hn
  go_enter Try.func23, Try.ntmps23
  go_wp2_with (first | (go_at_call 29; with_reducible refine (c_isKind _ _).mono ?_; rintro e w' ⟨rfl, rfl⟩) | (go_at_call 30; with_reducible refine (c_hasSign _ _).mono ?_; rintro e w' ⟨rfl, rfl⟩) | (go_at_call 15; with_reducible refine (c_Is k a _ HA.out).mono ?_; rintro e w' ⟨rfl, hk1⟩) | (go_at_call 15; with_reducible refine (c_Is b n _ HN.out).mono ?_; rintro e w' ⟨rfl, hk2⟩))
  go_ret2
  exact ⟨rfl, hk1.trans hk2⟩
theorem s_shr (k a b n : Int) (w : World) (ha : 0 ≤ a ∧ a < 18446744073709551616) (hn : 0 ≤ n ∧ n < 18446744073709551616) (h : wh k = true) (hb : wh b = true) (hi : iz k a = true) (hj : iz b n = true) (hg : ng b n = false) :
    Calls Try.prog 23 #[.int .i64 k, .string ⟨#[62, 62]⟩, .int .u64 a, .int .i64 b, .int .u64 n] w fun e w' => e = .returned (.tuple #[.int .u64 (sv k a / 2 ^ min n.toNat 64 % 18446744073709551616), .int .i64 0]) ∧ Kp w w' := by
  have HA := Lib.hid ha
  have HN := Lib.hid hn
  have hn0 : 0 ≤ n := hn.1
  cases hs : sg b with
  | true =>
    have q1 : 0 ≤ wrap64 n := ng_ge hn hs hg
    cases hr : sg k with
    | true =>
      have q2 : wrap64 a = sv k a := w64_sv ha hr
      clear ha hn
      go_enter Try.func23, Try.ntmps23
      go_wp2_with (first | (go_at_call 29; with_reducible refine (c_isKind _ _).mono ?_; rintro e w' ⟨rfl, rfl⟩) | (go_at_call 30; with_reducible refine (c_hasSign _ _).mono ?_; rintro e w' ⟨rfl, rfl⟩) | (go_at_call 31; with_reducible refine (c_wrap _ _ _ h (u64_r _)).mono ?_; rintro e w' ⟨rfl, rfl⟩) | (go_at_call 15; with_reducible refine (c_Is k a _ HA.out).mono ?_; rintro e w' ⟨rfl, hk1⟩) | (go_at_call 15; with_reducible refine (c_Is b n _ HN.out).mono ?_; rintro e w' ⟨rfl, hk2⟩))
      go_ret2
      exact ⟨ret_pair (IntKind.wrap_u64 _), hk1.trans hk2⟩
    | false =>
      have q3 := Lib.hid (shr_un (n := n) ha hr)
      clear ha hn
      go_enter Try.func23, Try.ntmps23
      go_wp2_with (first | (go_at_call 29; with_reducible refine (c_isKind _ _).mono ?_; rintro e w' ⟨rfl, rfl⟩) | (go_at_call 30; with_reducible refine (c_hasSign _ _).mono ?_; rintro e w' ⟨rfl, rfl⟩) | (go_at_call 31; with_reducible refine (c_wrap _ _ _ h (u64_r _)).mono ?_; rintro e w' ⟨rfl, rfl⟩) | (go_at_call 15; with_reducible refine (c_Is k a _ HA.out).mono ?_; rintro e w' ⟨rfl, hk1⟩) | (go_at_call 15; with_reducible refine (c_Is b n _ HN.out).mono ?_; rintro e w' ⟨rfl, hk2⟩))
      go_ret2
      exact ⟨ret_pair q3.out, hk1.trans hk2⟩
  | false =>
    cases hr : sg k with
    | true =>
      have q2 : wrap64 a = sv k a := w64_sv ha hr
      clear ha hn
      go_enter Try.func23, Try.ntmps23
      go_wp2_with (first | (go_at_call 29; with_reducible refine (c_isKind _ _).mono ?_; rintro e w' ⟨rfl, rfl⟩) | (go_at_call 30; with_reducible refine (c_hasSign _ _).mono ?_; rintro e w' ⟨rfl, rfl⟩) | (go_at_call 31; with_reducible refine (c_wrap _ _ _ h (u64_r _)).mono ?_; rintro e w' ⟨rfl, rfl⟩) | (go_at_call 15; with_reducible refine (c_Is k a _ HA.out).mono ?_; rintro e w' ⟨rfl, hk1⟩) | (go_at_call 15; with_reducible refine (c_Is b n _ HN.out).mono ?_; rintro e w' ⟨rfl, hk2⟩))
      go_ret2
      exact ⟨ret_pair (IntKind.wrap_u64 _), hk1.trans hk2⟩
    | false =>
      have q3 := Lib.hid (shr_un (n := n) ha hr)
      clear ha hn
      go_enter Try.func23, Try.ntmps23
      go_wp2_with (first | (go_at_call 29; with_reducible refine (c_isKind _ _).mono ?_; rintro e w' ⟨rfl, rfl⟩) | (go_at_call 30; with_reducible refine (c_hasSign _ _).mono ?_; rintro e w' ⟨rfl, rfl⟩) | (go_at_call 31; with_reducible refine (c_wrap _ _ _ h (u64_r _)).mono ?_; rintro e w' ⟨rfl, rfl⟩) | (go_at_call 15; with_reducible refine (c_Is k a _ HA.out).mono ?_; rintro e w' ⟨rfl, hk1⟩) | (go_at_call 15; with_reducible refine (c_Is b n _ HN.out).mono ?_; rintro e w' ⟨rfl, hk2⟩))
      go_ret2
      exact ⟨ret_pair q3.out, hk1.trans hk2⟩
/-- Less, of numbers of its kind. -/
theorem c_Less (k a n : Int) (w : World) (ha : 0 ≤ a ∧ a < 18446744073709551616) (hn : 0 ≤ n ∧ n < 18446744073709551616) (h : wh k = true) (hi : iz k a = true) (hj : iz k n = true) :
    Calls Try.prog 28 #[.int .i64 k, .int .u64 a, .int .u64 n] w fun e w' => e = .returned (.tuple #[.bool (decide (sv k a < sv k n)), .int .i64 0]) ∧ Kp w w' := by
  have HA := Lib.hid ha
  have HN := Lib.hid hn
  have he : e2 k a n = 0 := by simp [e2, h, hi, hj]
  cases hs : sg k with
  | true =>
    have q1 : wrap64 a = sv k a := w64_sv ha hs
    have q2 : wrap64 n = sv k n := w64_sv hn hs
    clear ha hn
    go_enter Try.func28, Try.ntmps28
    go_wp2_with (first | (go_at_call 32; with_reducible refine (c_check2 _ _ _ _ _ HA.out HN.out ?_ ?_).mono ?_; (focus (simp [go_sem])); (focus (simp [go_sem]));rintro e w' ⟨rfl, rfl⟩) | (go_at_call 30; with_reducible refine (c_hasSign _ _).mono ?_; rintro e w' ⟨rfl, rfl⟩))
    go_ret2
    exact ⟨rfl, (Kp.refl w).alloc _ _⟩
  | false =>
    rw [sv_un hs, sv_un hs]
    clear ha hn
    go_enter Try.func28, Try.ntmps28
    go_wp2_with (first | (go_at_call 32; with_reducible refine (c_check2 _ _ _ _ _ HA.out HN.out ?_ ?_).mono ?_; (focus (simp [go_sem])); (focus (simp [go_sem]));rintro e w' ⟨rfl, rfl⟩) | (go_at_call 30; with_reducible refine (c_hasSign _ _).mono ?_; rintro e w' ⟨rfl, rfl⟩))
    go_ret2
    exact ⟨rfl, (Kp.refl w).alloc _ _⟩
end Go.Proofs.Ytlpcnkjnjkijbaa
