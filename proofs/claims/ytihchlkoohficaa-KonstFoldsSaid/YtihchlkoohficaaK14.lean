/- What Compare of the reference answers, and the statement KonstOnes, walked. Conditions: a size is between 0 and 2 to the 64. -/
import Derived.Test.YtihchlkoohficaaK13
namespace Go.Proofs.Ytihchlkoohficaa
open Go.RowKit Plain
set_option linter.unusedVariables false
set_option linter.unusedSimpArgs false
set_option maxHeartbeats 1600000 in
theorem rk_noop (op : ByteArray) (a : Bool) (m : Int) (b : Bool) (n : Int) (w : World) (hm : 0 ≤ m ∧ m < 18446744073709551616) (hn : 0 ≤ n ∧ n < 18446744073709551616) (x0 : (op.toList == [61, 61]) = false) (y0 : (op.toList != [61, 61]) = true) (x1 : (op.toList == [33, 61]) = false) (y1 : (op.toList != [33, 61]) = true) (x2 : (op.toList == [60]) = false) (y2 : (op.toList != [60]) = true) (x3 : (op.toList == [60, 61]) = false) (y3 : (op.toList != [60, 61]) = true) (x4 : (op.toList == [62]) = false) (y4 : (op.toList != [62]) = true) (x5 : (op.toList == [62, 61]) = false) (y5 : (op.toList != [62, 61]) = true) : Calls Try.prog 15 #[.string op, .agg #[.bool a, .int .u64 m], .agg #[.bool b, .int .u64 n]] w fun e w' => e = .returned (.tuple #[.bool false, .int .i64 2]) ∧ Kp w w' := by
  have HM := Lib.hid hm
  have HN := Lib.hid hn
  clear hm hn
  go_enter Try.func15, Try.ntmps15
  go_wp2_with (first | fail)
  go_returns
  exact ⟨rfl, (by (repeat (first | exact Kp.refl _ | refine kback (by assumption) ?_ | refine Kp.setCell ?_ (by first | omega | (simp; done) | (simp; omega)) _ | refine Kp.alloc ?_ _ _ | refine Kp.drewN ?_ _ | refine Kp.drew ?_)))⟩
set_option maxHeartbeats 1600000 in
theorem rk_eqA (a : Bool) (m : Int) (b : Bool) (n : Int) (w : World) (hm : 0 ≤ m ∧ m < 18446744073709551616) (hn : 0 ≤ n ∧ n < 18446744073709551616) (ka : kc a m = false) : Calls Try.prog 15 #[.string ⟨#[61, 61]⟩, .agg #[.bool a, .int .u64 m], .agg #[.bool b, .int .u64 n]] w fun e w' => e = .returned (.tuple #[.bool false, .int .i64 1]) ∧ Kp w w' := by
  have HM := Lib.hid hm
  have HN := Lib.hid hn
  clear hm hn
  go_enter Try.func15, Try.ntmps15
  go_wp2_with (first | ((go_at_call 19; with_reducible refine (c_Const a m _ HM.out.1).mono ?_; rintro e w1 ⟨rfl, hk⟩; have hc00 := keepc hk (b := w.heap.size) (o := 0) (v := .bool a) (by first | assumption | (simp [go_sem]; done) | (simp [go_sem]; assumption)); have hc01 := keepc hk (b := w.heap.size) (o := 1) (v := .int .u64 m) (by first | assumption | (simp [go_sem]; done) | (simp [go_sem]; assumption)); have hc10 := keepc hk (b := w.heap.size + 1) (o := 0) (v := .bool b) (by first | assumption | (simp [go_sem]; done) | (simp [go_sem]; assumption)); have hc11 := keepc hk (b := w.heap.size + 1) (o := 1) (v := .int .u64 n) (by first | assumption | (simp [go_sem]; done) | (simp [go_sem]; assumption)))) | ((go_at_call 19; with_reducible refine (c_Const b n _ HN.out.1).mono ?_; rintro e w1 ⟨rfl, hk⟩; have hc00 := keepc hk (b := w.heap.size) (o := 0) (v := .bool a) (by first | assumption | (simp [go_sem]; done) | (simp [go_sem]; assumption)); have hc01 := keepc hk (b := w.heap.size) (o := 1) (v := .int .u64 m) (by first | assumption | (simp [go_sem]; done) | (simp [go_sem]; assumption)); have hc10 := keepc hk (b := w.heap.size + 1) (o := 0) (v := .bool b) (by first | assumption | (simp [go_sem]; done) | (simp [go_sem]; assumption)); have hc11 := keepc hk (b := w.heap.size + 1) (o := 1) (v := .int .u64 n) (by first | assumption | (simp [go_sem]; done) | (simp [go_sem]; assumption)))))
  go_returns
  exact ⟨rfl, (by (repeat (first | exact Kp.refl _ | refine kback (by assumption) ?_ | refine Kp.setCell ?_ (by first | omega | (simp; done) | (simp; omega)) _ | refine Kp.alloc ?_ _ _ | refine Kp.drewN ?_ _ | refine Kp.drew ?_)))⟩
set_option maxHeartbeats 1600000 in
theorem rk_eqB (a : Bool) (m : Int) (b : Bool) (n : Int) (w : World) (hm : 0 ≤ m ∧ m < 18446744073709551616) (hn : 0 ≤ n ∧ n < 18446744073709551616) (ka : kc a m = true) (kb : kc b n = false) : Calls Try.prog 15 #[.string ⟨#[61, 61]⟩, .agg #[.bool a, .int .u64 m], .agg #[.bool b, .int .u64 n]] w fun e w' => e = .returned (.tuple #[.bool false, .int .i64 1]) ∧ Kp w w' := by
  have HM := Lib.hid hm
  have HN := Lib.hid hn
  clear hm hn
  go_enter Try.func15, Try.ntmps15
  go_wp2_with (first | ((go_at_call 19; with_reducible refine (c_Const a m _ HM.out.1).mono ?_; rintro e w1 ⟨rfl, hk⟩; have hc00 := keepc hk (b := w.heap.size) (o := 0) (v := .bool a) (by first | assumption | (simp [go_sem]; done) | (simp [go_sem]; assumption)); have hc01 := keepc hk (b := w.heap.size) (o := 1) (v := .int .u64 m) (by first | assumption | (simp [go_sem]; done) | (simp [go_sem]; assumption)); have hc10 := keepc hk (b := w.heap.size + 1) (o := 0) (v := .bool b) (by first | assumption | (simp [go_sem]; done) | (simp [go_sem]; assumption)); have hc11 := keepc hk (b := w.heap.size + 1) (o := 1) (v := .int .u64 n) (by first | assumption | (simp [go_sem]; done) | (simp [go_sem]; assumption)))) | ((go_at_call 19; with_reducible refine (c_Const b n _ HN.out.1).mono ?_; rintro e w1 ⟨rfl, hk⟩; have hc00 := keepc hk (b := w.heap.size) (o := 0) (v := .bool a) (by first | assumption | (simp [go_sem]; done) | (simp [go_sem]; assumption)); have hc01 := keepc hk (b := w.heap.size) (o := 1) (v := .int .u64 m) (by first | assumption | (simp [go_sem]; done) | (simp [go_sem]; assumption)); have hc10 := keepc hk (b := w.heap.size + 1) (o := 0) (v := .bool b) (by first | assumption | (simp [go_sem]; done) | (simp [go_sem]; assumption)); have hc11 := keepc hk (b := w.heap.size + 1) (o := 1) (v := .int .u64 n) (by first | assumption | (simp [go_sem]; done) | (simp [go_sem]; assumption)))))
  go_returns
  exact ⟨rfl, (by (repeat (first | exact Kp.refl _ | refine kback (by assumption) ?_ | refine Kp.setCell ?_ (by first | omega | (simp; done) | (simp; omega)) _ | refine Kp.alloc ?_ _ _ | refine Kp.drewN ?_ _ | refine Kp.drew ?_)))⟩
set_option maxHeartbeats 1600000 in
theorem rk_eq (a : Bool) (m : Int) (b : Bool) (n : Int) (w : World) (hm : 0 ≤ m ∧ m < 18446744073709551616) (hn : 0 ≤ n ∧ n < 18446744073709551616) (ka : kc a m = true) (kb : kc b n = true) : Calls Try.prog 15 #[.string ⟨#[61, 61]⟩, .agg #[.bool a, .int .u64 m], .agg #[.bool b, .int .u64 n]] w fun e w' => e = .returned (.tuple #[.bool (eqB a m b n), .int .i64 0]) ∧ Kp w w' := by
  have HM := Lib.hid hm
  have HN := Lib.hid hn
  by_cases hab : a = b
  · subst hab
    by_cases hmn : m = n
    · subst hmn
      rw [show (eqB a m a m) = true by simp [eqB]]
      clear hm hn
      go_enter Try.func15, Try.ntmps15
      go_wp2_with (first | ((go_at_call 19; with_reducible refine (c_Const a m _ HM.out.1).mono ?_; rintro e w1 ⟨rfl, hk⟩; have hc00 := keepc hk (b := w.heap.size) (o := 0) (v := .bool a) (by first | assumption | (simp [go_sem]; done) | (simp [go_sem]; assumption)); have hc01 := keepc hk (b := w.heap.size) (o := 1) (v := .int .u64 m) (by first | assumption | (simp [go_sem]; done) | (simp [go_sem]; assumption)); have hc10 := keepc hk (b := w.heap.size + 1) (o := 0) (v := .bool a) (by first | assumption | (simp [go_sem]; done) | (simp [go_sem]; assumption)); have hc11 := keepc hk (b := w.heap.size + 1) (o := 1) (v := .int .u64 m) (by first | assumption | (simp [go_sem]; done) | (simp [go_sem]; assumption)))) | ((go_at_call 19; with_reducible refine (c_Const a m _ HN.out.1).mono ?_; rintro e w1 ⟨rfl, hk⟩; have hc00 := keepc hk (b := w.heap.size) (o := 0) (v := .bool a) (by first | assumption | (simp [go_sem]; done) | (simp [go_sem]; assumption)); have hc01 := keepc hk (b := w.heap.size) (o := 1) (v := .int .u64 m) (by first | assumption | (simp [go_sem]; done) | (simp [go_sem]; assumption)); have hc10 := keepc hk (b := w.heap.size + 1) (o := 0) (v := .bool a) (by first | assumption | (simp [go_sem]; done) | (simp [go_sem]; assumption)); have hc11 := keepc hk (b := w.heap.size + 1) (o := 1) (v := .int .u64 m) (by first | assumption | (simp [go_sem]; done) | (simp [go_sem]; assumption)))))
      go_returns
      exact ⟨rfl, (by (repeat (first | exact Kp.refl _ | refine kback (by assumption) ?_ | refine Kp.setCell ?_ (by first | omega | (simp; done) | (simp; omega)) _ | refine Kp.alloc ?_ _ _ | refine Kp.drewN ?_ _ | refine Kp.drew ?_)))⟩
    · have hz : (m == n) = false := by simp [hmn]
      rw [show (eqB a m a n) = false by simp [eqB, hmn]]
      clear hm hn
      go_enter Try.func15, Try.ntmps15
      go_wp2_with (first | ((go_at_call 19; with_reducible refine (c_Const a m _ HM.out.1).mono ?_; rintro e w1 ⟨rfl, hk⟩; have hc00 := keepc hk (b := w.heap.size) (o := 0) (v := .bool a) (by first | assumption | (simp [go_sem]; done) | (simp [go_sem]; assumption)); have hc01 := keepc hk (b := w.heap.size) (o := 1) (v := .int .u64 m) (by first | assumption | (simp [go_sem]; done) | (simp [go_sem]; assumption)); have hc10 := keepc hk (b := w.heap.size + 1) (o := 0) (v := .bool a) (by first | assumption | (simp [go_sem]; done) | (simp [go_sem]; assumption)); have hc11 := keepc hk (b := w.heap.size + 1) (o := 1) (v := .int .u64 n) (by first | assumption | (simp [go_sem]; done) | (simp [go_sem]; assumption)))) | ((go_at_call 19; with_reducible refine (c_Const a n _ HN.out.1).mono ?_; rintro e w1 ⟨rfl, hk⟩; have hc00 := keepc hk (b := w.heap.size) (o := 0) (v := .bool a) (by first | assumption | (simp [go_sem]; done) | (simp [go_sem]; assumption)); have hc01 := keepc hk (b := w.heap.size) (o := 1) (v := .int .u64 m) (by first | assumption | (simp [go_sem]; done) | (simp [go_sem]; assumption)); have hc10 := keepc hk (b := w.heap.size + 1) (o := 0) (v := .bool a) (by first | assumption | (simp [go_sem]; done) | (simp [go_sem]; assumption)); have hc11 := keepc hk (b := w.heap.size + 1) (o := 1) (v := .int .u64 n) (by first | assumption | (simp [go_sem]; done) | (simp [go_sem]; assumption)))))
      go_returns
      exact ⟨rfl, (by (repeat (first | exact Kp.refl _ | refine kback (by assumption) ?_ | refine Kp.setCell ?_ (by first | omega | (simp; done) | (simp; omega)) _ | refine Kp.alloc ?_ _ _ | refine Kp.drewN ?_ _ | refine Kp.drew ?_)))⟩
  · rw [show (eqB a m b n) = false by simp [eqB, hab]]
    clear hm hn
    go_enter Try.func15, Try.ntmps15
    go_wp2_with (first | ((go_at_call 19; with_reducible refine (c_Const a m _ HM.out.1).mono ?_; rintro e w1 ⟨rfl, hk⟩; have hc00 := keepc hk (b := w.heap.size) (o := 0) (v := .bool a) (by first | assumption | (simp [go_sem]; done) | (simp [go_sem]; assumption)); have hc01 := keepc hk (b := w.heap.size) (o := 1) (v := .int .u64 m) (by first | assumption | (simp [go_sem]; done) | (simp [go_sem]; assumption)); have hc10 := keepc hk (b := w.heap.size + 1) (o := 0) (v := .bool b) (by first | assumption | (simp [go_sem]; done) | (simp [go_sem]; assumption)); have hc11 := keepc hk (b := w.heap.size + 1) (o := 1) (v := .int .u64 n) (by first | assumption | (simp [go_sem]; done) | (simp [go_sem]; assumption)))) | ((go_at_call 19; with_reducible refine (c_Const b n _ HN.out.1).mono ?_; rintro e w1 ⟨rfl, hk⟩; have hc00 := keepc hk (b := w.heap.size) (o := 0) (v := .bool a) (by first | assumption | (simp [go_sem]; done) | (simp [go_sem]; assumption)); have hc01 := keepc hk (b := w.heap.size) (o := 1) (v := .int .u64 m) (by first | assumption | (simp [go_sem]; done) | (simp [go_sem]; assumption)); have hc10 := keepc hk (b := w.heap.size + 1) (o := 0) (v := .bool b) (by first | assumption | (simp [go_sem]; done) | (simp [go_sem]; assumption)); have hc11 := keepc hk (b := w.heap.size + 1) (o := 1) (v := .int .u64 n) (by first | assumption | (simp [go_sem]; done) | (simp [go_sem]; assumption)))))
    go_returns
    exact ⟨rfl, (by (repeat (first | exact Kp.refl _ | refine kback (by assumption) ?_ | refine Kp.setCell ?_ (by first | omega | (simp; done) | (simp; omega)) _ | refine Kp.alloc ?_ _ _ | refine Kp.drewN ?_ _ | refine Kp.drew ?_)))⟩
set_option maxHeartbeats 1600000 in
theorem rk_neA (a : Bool) (m : Int) (b : Bool) (n : Int) (w : World) (hm : 0 ≤ m ∧ m < 18446744073709551616) (hn : 0 ≤ n ∧ n < 18446744073709551616) (ka : kc a m = false) : Calls Try.prog 15 #[.string ⟨#[33, 61]⟩, .agg #[.bool a, .int .u64 m], .agg #[.bool b, .int .u64 n]] w fun e w' => e = .returned (.tuple #[.bool false, .int .i64 1]) ∧ Kp w w' := by
  have HM := Lib.hid hm
  have HN := Lib.hid hn
  clear hm hn
  go_enter Try.func15, Try.ntmps15
  go_wp2_with (first | ((go_at_call 19; with_reducible refine (c_Const a m _ HM.out.1).mono ?_; rintro e w1 ⟨rfl, hk⟩; have hc00 := keepc hk (b := w.heap.size) (o := 0) (v := .bool a) (by first | assumption | (simp [go_sem]; done) | (simp [go_sem]; assumption)); have hc01 := keepc hk (b := w.heap.size) (o := 1) (v := .int .u64 m) (by first | assumption | (simp [go_sem]; done) | (simp [go_sem]; assumption)); have hc10 := keepc hk (b := w.heap.size + 1) (o := 0) (v := .bool b) (by first | assumption | (simp [go_sem]; done) | (simp [go_sem]; assumption)); have hc11 := keepc hk (b := w.heap.size + 1) (o := 1) (v := .int .u64 n) (by first | assumption | (simp [go_sem]; done) | (simp [go_sem]; assumption)))) | ((go_at_call 19; with_reducible refine (c_Const b n _ HN.out.1).mono ?_; rintro e w1 ⟨rfl, hk⟩; have hc00 := keepc hk (b := w.heap.size) (o := 0) (v := .bool a) (by first | assumption | (simp [go_sem]; done) | (simp [go_sem]; assumption)); have hc01 := keepc hk (b := w.heap.size) (o := 1) (v := .int .u64 m) (by first | assumption | (simp [go_sem]; done) | (simp [go_sem]; assumption)); have hc10 := keepc hk (b := w.heap.size + 1) (o := 0) (v := .bool b) (by first | assumption | (simp [go_sem]; done) | (simp [go_sem]; assumption)); have hc11 := keepc hk (b := w.heap.size + 1) (o := 1) (v := .int .u64 n) (by first | assumption | (simp [go_sem]; done) | (simp [go_sem]; assumption)))))
  go_returns
  exact ⟨rfl, (by (repeat (first | exact Kp.refl _ | refine kback (by assumption) ?_ | refine Kp.setCell ?_ (by first | omega | (simp; done) | (simp; omega)) _ | refine Kp.alloc ?_ _ _ | refine Kp.drewN ?_ _ | refine Kp.drew ?_)))⟩
set_option maxHeartbeats 1600000 in
theorem rk_neB (a : Bool) (m : Int) (b : Bool) (n : Int) (w : World) (hm : 0 ≤ m ∧ m < 18446744073709551616) (hn : 0 ≤ n ∧ n < 18446744073709551616) (ka : kc a m = true) (kb : kc b n = false) : Calls Try.prog 15 #[.string ⟨#[33, 61]⟩, .agg #[.bool a, .int .u64 m], .agg #[.bool b, .int .u64 n]] w fun e w' => e = .returned (.tuple #[.bool false, .int .i64 1]) ∧ Kp w w' := by
  have HM := Lib.hid hm
  have HN := Lib.hid hn
  clear hm hn
  go_enter Try.func15, Try.ntmps15
  go_wp2_with (first | ((go_at_call 19; with_reducible refine (c_Const a m _ HM.out.1).mono ?_; rintro e w1 ⟨rfl, hk⟩; have hc00 := keepc hk (b := w.heap.size) (o := 0) (v := .bool a) (by first | assumption | (simp [go_sem]; done) | (simp [go_sem]; assumption)); have hc01 := keepc hk (b := w.heap.size) (o := 1) (v := .int .u64 m) (by first | assumption | (simp [go_sem]; done) | (simp [go_sem]; assumption)); have hc10 := keepc hk (b := w.heap.size + 1) (o := 0) (v := .bool b) (by first | assumption | (simp [go_sem]; done) | (simp [go_sem]; assumption)); have hc11 := keepc hk (b := w.heap.size + 1) (o := 1) (v := .int .u64 n) (by first | assumption | (simp [go_sem]; done) | (simp [go_sem]; assumption)))) | ((go_at_call 19; with_reducible refine (c_Const b n _ HN.out.1).mono ?_; rintro e w1 ⟨rfl, hk⟩; have hc00 := keepc hk (b := w.heap.size) (o := 0) (v := .bool a) (by first | assumption | (simp [go_sem]; done) | (simp [go_sem]; assumption)); have hc01 := keepc hk (b := w.heap.size) (o := 1) (v := .int .u64 m) (by first | assumption | (simp [go_sem]; done) | (simp [go_sem]; assumption)); have hc10 := keepc hk (b := w.heap.size + 1) (o := 0) (v := .bool b) (by first | assumption | (simp [go_sem]; done) | (simp [go_sem]; assumption)); have hc11 := keepc hk (b := w.heap.size + 1) (o := 1) (v := .int .u64 n) (by first | assumption | (simp [go_sem]; done) | (simp [go_sem]; assumption)))))
  go_returns
  exact ⟨rfl, (by (repeat (first | exact Kp.refl _ | refine kback (by assumption) ?_ | refine Kp.setCell ?_ (by first | omega | (simp; done) | (simp; omega)) _ | refine Kp.alloc ?_ _ _ | refine Kp.drewN ?_ _ | refine Kp.drew ?_)))⟩
set_option maxHeartbeats 1600000 in
theorem rk_ne (a : Bool) (m : Int) (b : Bool) (n : Int) (w : World) (hm : 0 ≤ m ∧ m < 18446744073709551616) (hn : 0 ≤ n ∧ n < 18446744073709551616) (ka : kc a m = true) (kb : kc b n = true) : Calls Try.prog 15 #[.string ⟨#[33, 61]⟩, .agg #[.bool a, .int .u64 m], .agg #[.bool b, .int .u64 n]] w fun e w' => e = .returned (.tuple #[.bool (!eqB a m b n), .int .i64 0]) ∧ Kp w w' := by
  have HM := Lib.hid hm
  have HN := Lib.hid hn
  by_cases hab : a = b
  · subst hab
    by_cases hmn : m = n
    · subst hmn
      rw [show (!eqB a m a m) = false by simp [eqB]]
      clear hm hn
      go_enter Try.func15, Try.ntmps15
      go_wp2_with (first | ((go_at_call 19; with_reducible refine (c_Const a m _ HM.out.1).mono ?_; rintro e w1 ⟨rfl, hk⟩; have hc00 := keepc hk (b := w.heap.size) (o := 0) (v := .bool a) (by first | assumption | (simp [go_sem]; done) | (simp [go_sem]; assumption)); have hc01 := keepc hk (b := w.heap.size) (o := 1) (v := .int .u64 m) (by first | assumption | (simp [go_sem]; done) | (simp [go_sem]; assumption)); have hc10 := keepc hk (b := w.heap.size + 1) (o := 0) (v := .bool a) (by first | assumption | (simp [go_sem]; done) | (simp [go_sem]; assumption)); have hc11 := keepc hk (b := w.heap.size + 1) (o := 1) (v := .int .u64 m) (by first | assumption | (simp [go_sem]; done) | (simp [go_sem]; assumption)))) | ((go_at_call 19; with_reducible refine (c_Const a m _ HN.out.1).mono ?_; rintro e w1 ⟨rfl, hk⟩; have hc00 := keepc hk (b := w.heap.size) (o := 0) (v := .bool a) (by first | assumption | (simp [go_sem]; done) | (simp [go_sem]; assumption)); have hc01 := keepc hk (b := w.heap.size) (o := 1) (v := .int .u64 m) (by first | assumption | (simp [go_sem]; done) | (simp [go_sem]; assumption)); have hc10 := keepc hk (b := w.heap.size + 1) (o := 0) (v := .bool a) (by first | assumption | (simp [go_sem]; done) | (simp [go_sem]; assumption)); have hc11 := keepc hk (b := w.heap.size + 1) (o := 1) (v := .int .u64 m) (by first | assumption | (simp [go_sem]; done) | (simp [go_sem]; assumption)))))
      go_returns
      exact ⟨rfl, (by (repeat (first | exact Kp.refl _ | refine kback (by assumption) ?_ | refine Kp.setCell ?_ (by first | omega | (simp; done) | (simp; omega)) _ | refine Kp.alloc ?_ _ _ | refine Kp.drewN ?_ _ | refine Kp.drew ?_)))⟩
    · have hz : (m == n) = false := by simp [hmn]
      rw [show (!eqB a m a n) = true by simp [eqB, hmn]]
      clear hm hn
      go_enter Try.func15, Try.ntmps15
      go_wp2_with (first | ((go_at_call 19; with_reducible refine (c_Const a m _ HM.out.1).mono ?_; rintro e w1 ⟨rfl, hk⟩; have hc00 := keepc hk (b := w.heap.size) (o := 0) (v := .bool a) (by first | assumption | (simp [go_sem]; done) | (simp [go_sem]; assumption)); have hc01 := keepc hk (b := w.heap.size) (o := 1) (v := .int .u64 m) (by first | assumption | (simp [go_sem]; done) | (simp [go_sem]; assumption)); have hc10 := keepc hk (b := w.heap.size + 1) (o := 0) (v := .bool a) (by first | assumption | (simp [go_sem]; done) | (simp [go_sem]; assumption)); have hc11 := keepc hk (b := w.heap.size + 1) (o := 1) (v := .int .u64 n) (by first | assumption | (simp [go_sem]; done) | (simp [go_sem]; assumption)))) | ((go_at_call 19; with_reducible refine (c_Const a n _ HN.out.1).mono ?_; rintro e w1 ⟨rfl, hk⟩; have hc00 := keepc hk (b := w.heap.size) (o := 0) (v := .bool a) (by first | assumption | (simp [go_sem]; done) | (simp [go_sem]; assumption)); have hc01 := keepc hk (b := w.heap.size) (o := 1) (v := .int .u64 m) (by first | assumption | (simp [go_sem]; done) | (simp [go_sem]; assumption)); have hc10 := keepc hk (b := w.heap.size + 1) (o := 0) (v := .bool a) (by first | assumption | (simp [go_sem]; done) | (simp [go_sem]; assumption)); have hc11 := keepc hk (b := w.heap.size + 1) (o := 1) (v := .int .u64 n) (by first | assumption | (simp [go_sem]; done) | (simp [go_sem]; assumption)))))
      go_returns
      exact ⟨rfl, (by (repeat (first | exact Kp.refl _ | refine kback (by assumption) ?_ | refine Kp.setCell ?_ (by first | omega | (simp; done) | (simp; omega)) _ | refine Kp.alloc ?_ _ _ | refine Kp.drewN ?_ _ | refine Kp.drew ?_)))⟩
  · rw [show (!eqB a m b n) = true by simp [eqB, hab]]
    clear hm hn
    go_enter Try.func15, Try.ntmps15
    go_wp2_with (first | ((go_at_call 19; with_reducible refine (c_Const a m _ HM.out.1).mono ?_; rintro e w1 ⟨rfl, hk⟩; have hc00 := keepc hk (b := w.heap.size) (o := 0) (v := .bool a) (by first | assumption | (simp [go_sem]; done) | (simp [go_sem]; assumption)); have hc01 := keepc hk (b := w.heap.size) (o := 1) (v := .int .u64 m) (by first | assumption | (simp [go_sem]; done) | (simp [go_sem]; assumption)); have hc10 := keepc hk (b := w.heap.size + 1) (o := 0) (v := .bool b) (by first | assumption | (simp [go_sem]; done) | (simp [go_sem]; assumption)); have hc11 := keepc hk (b := w.heap.size + 1) (o := 1) (v := .int .u64 n) (by first | assumption | (simp [go_sem]; done) | (simp [go_sem]; assumption)))) | ((go_at_call 19; with_reducible refine (c_Const b n _ HN.out.1).mono ?_; rintro e w1 ⟨rfl, hk⟩; have hc00 := keepc hk (b := w.heap.size) (o := 0) (v := .bool a) (by first | assumption | (simp [go_sem]; done) | (simp [go_sem]; assumption)); have hc01 := keepc hk (b := w.heap.size) (o := 1) (v := .int .u64 m) (by first | assumption | (simp [go_sem]; done) | (simp [go_sem]; assumption)); have hc10 := keepc hk (b := w.heap.size + 1) (o := 0) (v := .bool b) (by first | assumption | (simp [go_sem]; done) | (simp [go_sem]; assumption)); have hc11 := keepc hk (b := w.heap.size + 1) (o := 1) (v := .int .u64 n) (by first | assumption | (simp [go_sem]; done) | (simp [go_sem]; assumption)))))
    go_returns
    exact ⟨rfl, (by (repeat (first | exact Kp.refl _ | refine kback (by assumption) ?_ | refine Kp.setCell ?_ (by first | omega | (simp; done) | (simp; omega)) _ | refine Kp.alloc ?_ _ _ | refine Kp.drewN ?_ _ | refine Kp.drew ?_)))⟩
set_option maxHeartbeats 1600000 in
theorem rk_ltA (a : Bool) (m : Int) (b : Bool) (n : Int) (w : World) (hm : 0 ≤ m ∧ m < 18446744073709551616) (hn : 0 ≤ n ∧ n < 18446744073709551616) (ka : kc a m = false) : Calls Try.prog 15 #[.string ⟨#[60]⟩, .agg #[.bool a, .int .u64 m], .agg #[.bool b, .int .u64 n]] w fun e w' => e = .returned (.tuple #[.bool false, .int .i64 1]) ∧ Kp w w' := by
  have HM := Lib.hid hm
  have HN := Lib.hid hn
  clear hm hn
  go_enter Try.func15, Try.ntmps15
  go_wp2_with (first | ((go_at_call 19; with_reducible refine (c_Const a m _ HM.out.1).mono ?_; rintro e w1 ⟨rfl, hk⟩; have hc00 := keepc hk (b := w.heap.size) (o := 0) (v := .bool a) (by first | assumption | (simp [go_sem]; done) | (simp [go_sem]; assumption)); have hc01 := keepc hk (b := w.heap.size) (o := 1) (v := .int .u64 m) (by first | assumption | (simp [go_sem]; done) | (simp [go_sem]; assumption)); have hc10 := keepc hk (b := w.heap.size + 1) (o := 0) (v := .bool b) (by first | assumption | (simp [go_sem]; done) | (simp [go_sem]; assumption)); have hc11 := keepc hk (b := w.heap.size + 1) (o := 1) (v := .int .u64 n) (by first | assumption | (simp [go_sem]; done) | (simp [go_sem]; assumption)))) | ((go_at_call 19; with_reducible refine (c_Const b n _ HN.out.1).mono ?_; rintro e w1 ⟨rfl, hk⟩; have hc00 := keepc hk (b := w.heap.size) (o := 0) (v := .bool a) (by first | assumption | (simp [go_sem]; done) | (simp [go_sem]; assumption)); have hc01 := keepc hk (b := w.heap.size) (o := 1) (v := .int .u64 m) (by first | assumption | (simp [go_sem]; done) | (simp [go_sem]; assumption)); have hc10 := keepc hk (b := w.heap.size + 1) (o := 0) (v := .bool b) (by first | assumption | (simp [go_sem]; done) | (simp [go_sem]; assumption)); have hc11 := keepc hk (b := w.heap.size + 1) (o := 1) (v := .int .u64 n) (by first | assumption | (simp [go_sem]; done) | (simp [go_sem]; assumption)))))
  go_returns
  exact ⟨rfl, (by (repeat (first | exact Kp.refl _ | refine kback (by assumption) ?_ | refine Kp.setCell ?_ (by first | omega | (simp; done) | (simp; omega)) _ | refine Kp.alloc ?_ _ _ | refine Kp.drewN ?_ _ | refine Kp.drew ?_)))⟩
set_option maxHeartbeats 1600000 in
theorem rk_ltB (a : Bool) (m : Int) (b : Bool) (n : Int) (w : World) (hm : 0 ≤ m ∧ m < 18446744073709551616) (hn : 0 ≤ n ∧ n < 18446744073709551616) (ka : kc a m = true) (kb : kc b n = false) : Calls Try.prog 15 #[.string ⟨#[60]⟩, .agg #[.bool a, .int .u64 m], .agg #[.bool b, .int .u64 n]] w fun e w' => e = .returned (.tuple #[.bool false, .int .i64 1]) ∧ Kp w w' := by
  have HM := Lib.hid hm
  have HN := Lib.hid hn
  clear hm hn
  go_enter Try.func15, Try.ntmps15
  go_wp2_with (first | ((go_at_call 19; with_reducible refine (c_Const a m _ HM.out.1).mono ?_; rintro e w1 ⟨rfl, hk⟩; have hc00 := keepc hk (b := w.heap.size) (o := 0) (v := .bool a) (by first | assumption | (simp [go_sem]; done) | (simp [go_sem]; assumption)); have hc01 := keepc hk (b := w.heap.size) (o := 1) (v := .int .u64 m) (by first | assumption | (simp [go_sem]; done) | (simp [go_sem]; assumption)); have hc10 := keepc hk (b := w.heap.size + 1) (o := 0) (v := .bool b) (by first | assumption | (simp [go_sem]; done) | (simp [go_sem]; assumption)); have hc11 := keepc hk (b := w.heap.size + 1) (o := 1) (v := .int .u64 n) (by first | assumption | (simp [go_sem]; done) | (simp [go_sem]; assumption)))) | ((go_at_call 19; with_reducible refine (c_Const b n _ HN.out.1).mono ?_; rintro e w1 ⟨rfl, hk⟩; have hc00 := keepc hk (b := w.heap.size) (o := 0) (v := .bool a) (by first | assumption | (simp [go_sem]; done) | (simp [go_sem]; assumption)); have hc01 := keepc hk (b := w.heap.size) (o := 1) (v := .int .u64 m) (by first | assumption | (simp [go_sem]; done) | (simp [go_sem]; assumption)); have hc10 := keepc hk (b := w.heap.size + 1) (o := 0) (v := .bool b) (by first | assumption | (simp [go_sem]; done) | (simp [go_sem]; assumption)); have hc11 := keepc hk (b := w.heap.size + 1) (o := 1) (v := .int .u64 n) (by first | assumption | (simp [go_sem]; done) | (simp [go_sem]; assumption)))))
  go_returns
  exact ⟨rfl, (by (repeat (first | exact Kp.refl _ | refine kback (by assumption) ?_ | refine Kp.setCell ?_ (by first | omega | (simp; done) | (simp; omega)) _ | refine Kp.alloc ?_ _ _ | refine Kp.drewN ?_ _ | refine Kp.drew ?_)))⟩
set_option maxHeartbeats 1600000 in
theorem rk_lt (a : Bool) (m : Int) (b : Bool) (n : Int) (w : World) (hm : 0 ≤ m ∧ m < 18446744073709551616) (hn : 0 ≤ n ∧ n < 18446744073709551616) (ka : kc a m = true) (kb : kc b n = true) : Calls Try.prog 15 #[.string ⟨#[60]⟩, .agg #[.bool a, .int .u64 m], .agg #[.bool b, .int .u64 n]] w fun e w' => e = .returned (.tuple #[.bool (lsB a m b n), .int .i64 0]) ∧ Kp w w' := by
  have HM := Lib.hid hm
  have HN := Lib.hid hn
  clear hm hn
  go_enter Try.func15, Try.ntmps15
  go_wp2_with (first | ((go_at_call 19; with_reducible refine (c_Const a m _ HM.out.1).mono ?_; rintro e w1 ⟨rfl, hk⟩; have hc00 := keepc hk (b := w.heap.size) (o := 0) (v := .bool a) (by first | assumption | (simp [go_sem]; done) | (simp [go_sem]; assumption)); have hc01 := keepc hk (b := w.heap.size) (o := 1) (v := .int .u64 m) (by first | assumption | (simp [go_sem]; done) | (simp [go_sem]; assumption)); have hc10 := keepc hk (b := w.heap.size + 1) (o := 0) (v := .bool b) (by first | assumption | (simp [go_sem]; done) | (simp [go_sem]; assumption)); have hc11 := keepc hk (b := w.heap.size + 1) (o := 1) (v := .int .u64 n) (by first | assumption | (simp [go_sem]; done) | (simp [go_sem]; assumption)))) | ((go_at_call 19; with_reducible refine (c_Const b n _ HN.out.1).mono ?_; rintro e w1 ⟨rfl, hk⟩; have hc00 := keepc hk (b := w.heap.size) (o := 0) (v := .bool a) (by first | assumption | (simp [go_sem]; done) | (simp [go_sem]; assumption)); have hc01 := keepc hk (b := w.heap.size) (o := 1) (v := .int .u64 m) (by first | assumption | (simp [go_sem]; done) | (simp [go_sem]; assumption)); have hc10 := keepc hk (b := w.heap.size + 1) (o := 0) (v := .bool b) (by first | assumption | (simp [go_sem]; done) | (simp [go_sem]; assumption)); have hc11 := keepc hk (b := w.heap.size + 1) (o := 1) (v := .int .u64 n) (by first | assumption | (simp [go_sem]; done) | (simp [go_sem]; assumption)))) | ((go_at_call 34; with_reducible refine (c_Below _ _ _ _ _).mono ?_; rintro e w1 ⟨rfl, hk⟩)))
  go_returns
  exact ⟨rfl, (by (repeat (first | exact Kp.refl _ | refine kback (by assumption) ?_ | refine Kp.setCell ?_ (by first | omega | (simp; done) | (simp; omega)) _ | refine Kp.alloc ?_ _ _ | refine Kp.drewN ?_ _ | refine Kp.drew ?_)))⟩
set_option maxHeartbeats 1600000 in
theorem rk_leA (a : Bool) (m : Int) (b : Bool) (n : Int) (w : World) (hm : 0 ≤ m ∧ m < 18446744073709551616) (hn : 0 ≤ n ∧ n < 18446744073709551616) (ka : kc a m = false) : Calls Try.prog 15 #[.string ⟨#[60, 61]⟩, .agg #[.bool a, .int .u64 m], .agg #[.bool b, .int .u64 n]] w fun e w' => e = .returned (.tuple #[.bool false, .int .i64 1]) ∧ Kp w w' := by
  have HM := Lib.hid hm
  have HN := Lib.hid hn
  clear hm hn
  go_enter Try.func15, Try.ntmps15
  go_wp2_with (first | ((go_at_call 19; with_reducible refine (c_Const a m _ HM.out.1).mono ?_; rintro e w1 ⟨rfl, hk⟩; have hc00 := keepc hk (b := w.heap.size) (o := 0) (v := .bool a) (by first | assumption | (simp [go_sem]; done) | (simp [go_sem]; assumption)); have hc01 := keepc hk (b := w.heap.size) (o := 1) (v := .int .u64 m) (by first | assumption | (simp [go_sem]; done) | (simp [go_sem]; assumption)); have hc10 := keepc hk (b := w.heap.size + 1) (o := 0) (v := .bool b) (by first | assumption | (simp [go_sem]; done) | (simp [go_sem]; assumption)); have hc11 := keepc hk (b := w.heap.size + 1) (o := 1) (v := .int .u64 n) (by first | assumption | (simp [go_sem]; done) | (simp [go_sem]; assumption)))) | ((go_at_call 19; with_reducible refine (c_Const b n _ HN.out.1).mono ?_; rintro e w1 ⟨rfl, hk⟩; have hc00 := keepc hk (b := w.heap.size) (o := 0) (v := .bool a) (by first | assumption | (simp [go_sem]; done) | (simp [go_sem]; assumption)); have hc01 := keepc hk (b := w.heap.size) (o := 1) (v := .int .u64 m) (by first | assumption | (simp [go_sem]; done) | (simp [go_sem]; assumption)); have hc10 := keepc hk (b := w.heap.size + 1) (o := 0) (v := .bool b) (by first | assumption | (simp [go_sem]; done) | (simp [go_sem]; assumption)); have hc11 := keepc hk (b := w.heap.size + 1) (o := 1) (v := .int .u64 n) (by first | assumption | (simp [go_sem]; done) | (simp [go_sem]; assumption)))))
  go_returns
  exact ⟨rfl, (by (repeat (first | exact Kp.refl _ | refine kback (by assumption) ?_ | refine Kp.setCell ?_ (by first | omega | (simp; done) | (simp; omega)) _ | refine Kp.alloc ?_ _ _ | refine Kp.drewN ?_ _ | refine Kp.drew ?_)))⟩
set_option maxHeartbeats 1600000 in
theorem rk_leB (a : Bool) (m : Int) (b : Bool) (n : Int) (w : World) (hm : 0 ≤ m ∧ m < 18446744073709551616) (hn : 0 ≤ n ∧ n < 18446744073709551616) (ka : kc a m = true) (kb : kc b n = false) : Calls Try.prog 15 #[.string ⟨#[60, 61]⟩, .agg #[.bool a, .int .u64 m], .agg #[.bool b, .int .u64 n]] w fun e w' => e = .returned (.tuple #[.bool false, .int .i64 1]) ∧ Kp w w' := by
  have HM := Lib.hid hm
  have HN := Lib.hid hn
  clear hm hn
  go_enter Try.func15, Try.ntmps15
  go_wp2_with (first | ((go_at_call 19; with_reducible refine (c_Const a m _ HM.out.1).mono ?_; rintro e w1 ⟨rfl, hk⟩; have hc00 := keepc hk (b := w.heap.size) (o := 0) (v := .bool a) (by first | assumption | (simp [go_sem]; done) | (simp [go_sem]; assumption)); have hc01 := keepc hk (b := w.heap.size) (o := 1) (v := .int .u64 m) (by first | assumption | (simp [go_sem]; done) | (simp [go_sem]; assumption)); have hc10 := keepc hk (b := w.heap.size + 1) (o := 0) (v := .bool b) (by first | assumption | (simp [go_sem]; done) | (simp [go_sem]; assumption)); have hc11 := keepc hk (b := w.heap.size + 1) (o := 1) (v := .int .u64 n) (by first | assumption | (simp [go_sem]; done) | (simp [go_sem]; assumption)))) | ((go_at_call 19; with_reducible refine (c_Const b n _ HN.out.1).mono ?_; rintro e w1 ⟨rfl, hk⟩; have hc00 := keepc hk (b := w.heap.size) (o := 0) (v := .bool a) (by first | assumption | (simp [go_sem]; done) | (simp [go_sem]; assumption)); have hc01 := keepc hk (b := w.heap.size) (o := 1) (v := .int .u64 m) (by first | assumption | (simp [go_sem]; done) | (simp [go_sem]; assumption)); have hc10 := keepc hk (b := w.heap.size + 1) (o := 0) (v := .bool b) (by first | assumption | (simp [go_sem]; done) | (simp [go_sem]; assumption)); have hc11 := keepc hk (b := w.heap.size + 1) (o := 1) (v := .int .u64 n) (by first | assumption | (simp [go_sem]; done) | (simp [go_sem]; assumption)))))
  go_returns
  exact ⟨rfl, (by (repeat (first | exact Kp.refl _ | refine kback (by assumption) ?_ | refine Kp.setCell ?_ (by first | omega | (simp; done) | (simp; omega)) _ | refine Kp.alloc ?_ _ _ | refine Kp.drewN ?_ _ | refine Kp.drew ?_)))⟩
set_option maxHeartbeats 1600000 in
theorem rk_le (a : Bool) (m : Int) (b : Bool) (n : Int) (w : World) (hm : 0 ≤ m ∧ m < 18446744073709551616) (hn : 0 ≤ n ∧ n < 18446744073709551616) (ka : kc a m = true) (kb : kc b n = true) : Calls Try.prog 15 #[.string ⟨#[60, 61]⟩, .agg #[.bool a, .int .u64 m], .agg #[.bool b, .int .u64 n]] w fun e w' => e = .returned (.tuple #[.bool (!lsB b n a m), .int .i64 0]) ∧ Kp w w' := by
  have HM := Lib.hid hm
  have HN := Lib.hid hn
  clear hm hn
  go_enter Try.func15, Try.ntmps15
  go_wp2_with (first | ((go_at_call 19; with_reducible refine (c_Const a m _ HM.out.1).mono ?_; rintro e w1 ⟨rfl, hk⟩; have hc00 := keepc hk (b := w.heap.size) (o := 0) (v := .bool a) (by first | assumption | (simp [go_sem]; done) | (simp [go_sem]; assumption)); have hc01 := keepc hk (b := w.heap.size) (o := 1) (v := .int .u64 m) (by first | assumption | (simp [go_sem]; done) | (simp [go_sem]; assumption)); have hc10 := keepc hk (b := w.heap.size + 1) (o := 0) (v := .bool b) (by first | assumption | (simp [go_sem]; done) | (simp [go_sem]; assumption)); have hc11 := keepc hk (b := w.heap.size + 1) (o := 1) (v := .int .u64 n) (by first | assumption | (simp [go_sem]; done) | (simp [go_sem]; assumption)))) | ((go_at_call 19; with_reducible refine (c_Const b n _ HN.out.1).mono ?_; rintro e w1 ⟨rfl, hk⟩; have hc00 := keepc hk (b := w.heap.size) (o := 0) (v := .bool a) (by first | assumption | (simp [go_sem]; done) | (simp [go_sem]; assumption)); have hc01 := keepc hk (b := w.heap.size) (o := 1) (v := .int .u64 m) (by first | assumption | (simp [go_sem]; done) | (simp [go_sem]; assumption)); have hc10 := keepc hk (b := w.heap.size + 1) (o := 0) (v := .bool b) (by first | assumption | (simp [go_sem]; done) | (simp [go_sem]; assumption)); have hc11 := keepc hk (b := w.heap.size + 1) (o := 1) (v := .int .u64 n) (by first | assumption | (simp [go_sem]; done) | (simp [go_sem]; assumption)))) | ((go_at_call 34; with_reducible refine (c_Below _ _ _ _ _).mono ?_; rintro e w1 ⟨rfl, hk⟩)))
  go_returns
  exact ⟨rfl, (by (repeat (first | exact Kp.refl _ | refine kback (by assumption) ?_ | refine Kp.setCell ?_ (by first | omega | (simp; done) | (simp; omega)) _ | refine Kp.alloc ?_ _ _ | refine Kp.drewN ?_ _ | refine Kp.drew ?_)))⟩
set_option maxHeartbeats 1600000 in
theorem rk_gtA (a : Bool) (m : Int) (b : Bool) (n : Int) (w : World) (hm : 0 ≤ m ∧ m < 18446744073709551616) (hn : 0 ≤ n ∧ n < 18446744073709551616) (ka : kc a m = false) : Calls Try.prog 15 #[.string ⟨#[62]⟩, .agg #[.bool a, .int .u64 m], .agg #[.bool b, .int .u64 n]] w fun e w' => e = .returned (.tuple #[.bool false, .int .i64 1]) ∧ Kp w w' := by
  have HM := Lib.hid hm
  have HN := Lib.hid hn
  clear hm hn
  go_enter Try.func15, Try.ntmps15
  go_wp2_with (first | ((go_at_call 19; with_reducible refine (c_Const a m _ HM.out.1).mono ?_; rintro e w1 ⟨rfl, hk⟩; have hc00 := keepc hk (b := w.heap.size) (o := 0) (v := .bool a) (by first | assumption | (simp [go_sem]; done) | (simp [go_sem]; assumption)); have hc01 := keepc hk (b := w.heap.size) (o := 1) (v := .int .u64 m) (by first | assumption | (simp [go_sem]; done) | (simp [go_sem]; assumption)); have hc10 := keepc hk (b := w.heap.size + 1) (o := 0) (v := .bool b) (by first | assumption | (simp [go_sem]; done) | (simp [go_sem]; assumption)); have hc11 := keepc hk (b := w.heap.size + 1) (o := 1) (v := .int .u64 n) (by first | assumption | (simp [go_sem]; done) | (simp [go_sem]; assumption)))) | ((go_at_call 19; with_reducible refine (c_Const b n _ HN.out.1).mono ?_; rintro e w1 ⟨rfl, hk⟩; have hc00 := keepc hk (b := w.heap.size) (o := 0) (v := .bool a) (by first | assumption | (simp [go_sem]; done) | (simp [go_sem]; assumption)); have hc01 := keepc hk (b := w.heap.size) (o := 1) (v := .int .u64 m) (by first | assumption | (simp [go_sem]; done) | (simp [go_sem]; assumption)); have hc10 := keepc hk (b := w.heap.size + 1) (o := 0) (v := .bool b) (by first | assumption | (simp [go_sem]; done) | (simp [go_sem]; assumption)); have hc11 := keepc hk (b := w.heap.size + 1) (o := 1) (v := .int .u64 n) (by first | assumption | (simp [go_sem]; done) | (simp [go_sem]; assumption)))))
  go_returns
  exact ⟨rfl, (by (repeat (first | exact Kp.refl _ | refine kback (by assumption) ?_ | refine Kp.setCell ?_ (by first | omega | (simp; done) | (simp; omega)) _ | refine Kp.alloc ?_ _ _ | refine Kp.drewN ?_ _ | refine Kp.drew ?_)))⟩
set_option maxHeartbeats 1600000 in
theorem rk_gtB (a : Bool) (m : Int) (b : Bool) (n : Int) (w : World) (hm : 0 ≤ m ∧ m < 18446744073709551616) (hn : 0 ≤ n ∧ n < 18446744073709551616) (ka : kc a m = true) (kb : kc b n = false) : Calls Try.prog 15 #[.string ⟨#[62]⟩, .agg #[.bool a, .int .u64 m], .agg #[.bool b, .int .u64 n]] w fun e w' => e = .returned (.tuple #[.bool false, .int .i64 1]) ∧ Kp w w' := by
  have HM := Lib.hid hm
  have HN := Lib.hid hn
  clear hm hn
  go_enter Try.func15, Try.ntmps15
  go_wp2_with (first | ((go_at_call 19; with_reducible refine (c_Const a m _ HM.out.1).mono ?_; rintro e w1 ⟨rfl, hk⟩; have hc00 := keepc hk (b := w.heap.size) (o := 0) (v := .bool a) (by first | assumption | (simp [go_sem]; done) | (simp [go_sem]; assumption)); have hc01 := keepc hk (b := w.heap.size) (o := 1) (v := .int .u64 m) (by first | assumption | (simp [go_sem]; done) | (simp [go_sem]; assumption)); have hc10 := keepc hk (b := w.heap.size + 1) (o := 0) (v := .bool b) (by first | assumption | (simp [go_sem]; done) | (simp [go_sem]; assumption)); have hc11 := keepc hk (b := w.heap.size + 1) (o := 1) (v := .int .u64 n) (by first | assumption | (simp [go_sem]; done) | (simp [go_sem]; assumption)))) | ((go_at_call 19; with_reducible refine (c_Const b n _ HN.out.1).mono ?_; rintro e w1 ⟨rfl, hk⟩; have hc00 := keepc hk (b := w.heap.size) (o := 0) (v := .bool a) (by first | assumption | (simp [go_sem]; done) | (simp [go_sem]; assumption)); have hc01 := keepc hk (b := w.heap.size) (o := 1) (v := .int .u64 m) (by first | assumption | (simp [go_sem]; done) | (simp [go_sem]; assumption)); have hc10 := keepc hk (b := w.heap.size + 1) (o := 0) (v := .bool b) (by first | assumption | (simp [go_sem]; done) | (simp [go_sem]; assumption)); have hc11 := keepc hk (b := w.heap.size + 1) (o := 1) (v := .int .u64 n) (by first | assumption | (simp [go_sem]; done) | (simp [go_sem]; assumption)))))
  go_returns
  exact ⟨rfl, (by (repeat (first | exact Kp.refl _ | refine kback (by assumption) ?_ | refine Kp.setCell ?_ (by first | omega | (simp; done) | (simp; omega)) _ | refine Kp.alloc ?_ _ _ | refine Kp.drewN ?_ _ | refine Kp.drew ?_)))⟩
set_option maxHeartbeats 1600000 in
theorem rk_gt (a : Bool) (m : Int) (b : Bool) (n : Int) (w : World) (hm : 0 ≤ m ∧ m < 18446744073709551616) (hn : 0 ≤ n ∧ n < 18446744073709551616) (ka : kc a m = true) (kb : kc b n = true) : Calls Try.prog 15 #[.string ⟨#[62]⟩, .agg #[.bool a, .int .u64 m], .agg #[.bool b, .int .u64 n]] w fun e w' => e = .returned (.tuple #[.bool (lsB b n a m), .int .i64 0]) ∧ Kp w w' := by
  have HM := Lib.hid hm
  have HN := Lib.hid hn
  clear hm hn
  go_enter Try.func15, Try.ntmps15
  go_wp2_with (first | ((go_at_call 19; with_reducible refine (c_Const a m _ HM.out.1).mono ?_; rintro e w1 ⟨rfl, hk⟩; have hc00 := keepc hk (b := w.heap.size) (o := 0) (v := .bool a) (by first | assumption | (simp [go_sem]; done) | (simp [go_sem]; assumption)); have hc01 := keepc hk (b := w.heap.size) (o := 1) (v := .int .u64 m) (by first | assumption | (simp [go_sem]; done) | (simp [go_sem]; assumption)); have hc10 := keepc hk (b := w.heap.size + 1) (o := 0) (v := .bool b) (by first | assumption | (simp [go_sem]; done) | (simp [go_sem]; assumption)); have hc11 := keepc hk (b := w.heap.size + 1) (o := 1) (v := .int .u64 n) (by first | assumption | (simp [go_sem]; done) | (simp [go_sem]; assumption)))) | ((go_at_call 19; with_reducible refine (c_Const b n _ HN.out.1).mono ?_; rintro e w1 ⟨rfl, hk⟩; have hc00 := keepc hk (b := w.heap.size) (o := 0) (v := .bool a) (by first | assumption | (simp [go_sem]; done) | (simp [go_sem]; assumption)); have hc01 := keepc hk (b := w.heap.size) (o := 1) (v := .int .u64 m) (by first | assumption | (simp [go_sem]; done) | (simp [go_sem]; assumption)); have hc10 := keepc hk (b := w.heap.size + 1) (o := 0) (v := .bool b) (by first | assumption | (simp [go_sem]; done) | (simp [go_sem]; assumption)); have hc11 := keepc hk (b := w.heap.size + 1) (o := 1) (v := .int .u64 n) (by first | assumption | (simp [go_sem]; done) | (simp [go_sem]; assumption)))) | ((go_at_call 34; with_reducible refine (c_Below _ _ _ _ _).mono ?_; rintro e w1 ⟨rfl, hk⟩)))
  go_returns
  exact ⟨rfl, (by (repeat (first | exact Kp.refl _ | refine kback (by assumption) ?_ | refine Kp.setCell ?_ (by first | omega | (simp; done) | (simp; omega)) _ | refine Kp.alloc ?_ _ _ | refine Kp.drewN ?_ _ | refine Kp.drew ?_)))⟩
set_option maxHeartbeats 1600000 in
theorem rk_geA (a : Bool) (m : Int) (b : Bool) (n : Int) (w : World) (hm : 0 ≤ m ∧ m < 18446744073709551616) (hn : 0 ≤ n ∧ n < 18446744073709551616) (ka : kc a m = false) : Calls Try.prog 15 #[.string ⟨#[62, 61]⟩, .agg #[.bool a, .int .u64 m], .agg #[.bool b, .int .u64 n]] w fun e w' => e = .returned (.tuple #[.bool false, .int .i64 1]) ∧ Kp w w' := by
  have HM := Lib.hid hm
  have HN := Lib.hid hn
  clear hm hn
  go_enter Try.func15, Try.ntmps15
  go_wp2_with (first | ((go_at_call 19; with_reducible refine (c_Const a m _ HM.out.1).mono ?_; rintro e w1 ⟨rfl, hk⟩; have hc00 := keepc hk (b := w.heap.size) (o := 0) (v := .bool a) (by first | assumption | (simp [go_sem]; done) | (simp [go_sem]; assumption)); have hc01 := keepc hk (b := w.heap.size) (o := 1) (v := .int .u64 m) (by first | assumption | (simp [go_sem]; done) | (simp [go_sem]; assumption)); have hc10 := keepc hk (b := w.heap.size + 1) (o := 0) (v := .bool b) (by first | assumption | (simp [go_sem]; done) | (simp [go_sem]; assumption)); have hc11 := keepc hk (b := w.heap.size + 1) (o := 1) (v := .int .u64 n) (by first | assumption | (simp [go_sem]; done) | (simp [go_sem]; assumption)))) | ((go_at_call 19; with_reducible refine (c_Const b n _ HN.out.1).mono ?_; rintro e w1 ⟨rfl, hk⟩; have hc00 := keepc hk (b := w.heap.size) (o := 0) (v := .bool a) (by first | assumption | (simp [go_sem]; done) | (simp [go_sem]; assumption)); have hc01 := keepc hk (b := w.heap.size) (o := 1) (v := .int .u64 m) (by first | assumption | (simp [go_sem]; done) | (simp [go_sem]; assumption)); have hc10 := keepc hk (b := w.heap.size + 1) (o := 0) (v := .bool b) (by first | assumption | (simp [go_sem]; done) | (simp [go_sem]; assumption)); have hc11 := keepc hk (b := w.heap.size + 1) (o := 1) (v := .int .u64 n) (by first | assumption | (simp [go_sem]; done) | (simp [go_sem]; assumption)))))
  go_returns
  exact ⟨rfl, (by (repeat (first | exact Kp.refl _ | refine kback (by assumption) ?_ | refine Kp.setCell ?_ (by first | omega | (simp; done) | (simp; omega)) _ | refine Kp.alloc ?_ _ _ | refine Kp.drewN ?_ _ | refine Kp.drew ?_)))⟩
set_option maxHeartbeats 1600000 in
theorem rk_geB (a : Bool) (m : Int) (b : Bool) (n : Int) (w : World) (hm : 0 ≤ m ∧ m < 18446744073709551616) (hn : 0 ≤ n ∧ n < 18446744073709551616) (ka : kc a m = true) (kb : kc b n = false) : Calls Try.prog 15 #[.string ⟨#[62, 61]⟩, .agg #[.bool a, .int .u64 m], .agg #[.bool b, .int .u64 n]] w fun e w' => e = .returned (.tuple #[.bool false, .int .i64 1]) ∧ Kp w w' := by
  have HM := Lib.hid hm
  have HN := Lib.hid hn
  clear hm hn
  go_enter Try.func15, Try.ntmps15
  go_wp2_with (first | ((go_at_call 19; with_reducible refine (c_Const a m _ HM.out.1).mono ?_; rintro e w1 ⟨rfl, hk⟩; have hc00 := keepc hk (b := w.heap.size) (o := 0) (v := .bool a) (by first | assumption | (simp [go_sem]; done) | (simp [go_sem]; assumption)); have hc01 := keepc hk (b := w.heap.size) (o := 1) (v := .int .u64 m) (by first | assumption | (simp [go_sem]; done) | (simp [go_sem]; assumption)); have hc10 := keepc hk (b := w.heap.size + 1) (o := 0) (v := .bool b) (by first | assumption | (simp [go_sem]; done) | (simp [go_sem]; assumption)); have hc11 := keepc hk (b := w.heap.size + 1) (o := 1) (v := .int .u64 n) (by first | assumption | (simp [go_sem]; done) | (simp [go_sem]; assumption)))) | ((go_at_call 19; with_reducible refine (c_Const b n _ HN.out.1).mono ?_; rintro e w1 ⟨rfl, hk⟩; have hc00 := keepc hk (b := w.heap.size) (o := 0) (v := .bool a) (by first | assumption | (simp [go_sem]; done) | (simp [go_sem]; assumption)); have hc01 := keepc hk (b := w.heap.size) (o := 1) (v := .int .u64 m) (by first | assumption | (simp [go_sem]; done) | (simp [go_sem]; assumption)); have hc10 := keepc hk (b := w.heap.size + 1) (o := 0) (v := .bool b) (by first | assumption | (simp [go_sem]; done) | (simp [go_sem]; assumption)); have hc11 := keepc hk (b := w.heap.size + 1) (o := 1) (v := .int .u64 n) (by first | assumption | (simp [go_sem]; done) | (simp [go_sem]; assumption)))))
  go_returns
  exact ⟨rfl, (by (repeat (first | exact Kp.refl _ | refine kback (by assumption) ?_ | refine Kp.setCell ?_ (by first | omega | (simp; done) | (simp; omega)) _ | refine Kp.alloc ?_ _ _ | refine Kp.drewN ?_ _ | refine Kp.drew ?_)))⟩
set_option maxHeartbeats 1600000 in
theorem rk_ge (a : Bool) (m : Int) (b : Bool) (n : Int) (w : World) (hm : 0 ≤ m ∧ m < 18446744073709551616) (hn : 0 ≤ n ∧ n < 18446744073709551616) (ka : kc a m = true) (kb : kc b n = true) : Calls Try.prog 15 #[.string ⟨#[62, 61]⟩, .agg #[.bool a, .int .u64 m], .agg #[.bool b, .int .u64 n]] w fun e w' => e = .returned (.tuple #[.bool (!lsB a m b n), .int .i64 0]) ∧ Kp w w' := by
  have HM := Lib.hid hm
  have HN := Lib.hid hn
  clear hm hn
  go_enter Try.func15, Try.ntmps15
  go_wp2_with (first | ((go_at_call 19; with_reducible refine (c_Const a m _ HM.out.1).mono ?_; rintro e w1 ⟨rfl, hk⟩; have hc00 := keepc hk (b := w.heap.size) (o := 0) (v := .bool a) (by first | assumption | (simp [go_sem]; done) | (simp [go_sem]; assumption)); have hc01 := keepc hk (b := w.heap.size) (o := 1) (v := .int .u64 m) (by first | assumption | (simp [go_sem]; done) | (simp [go_sem]; assumption)); have hc10 := keepc hk (b := w.heap.size + 1) (o := 0) (v := .bool b) (by first | assumption | (simp [go_sem]; done) | (simp [go_sem]; assumption)); have hc11 := keepc hk (b := w.heap.size + 1) (o := 1) (v := .int .u64 n) (by first | assumption | (simp [go_sem]; done) | (simp [go_sem]; assumption)))) | ((go_at_call 19; with_reducible refine (c_Const b n _ HN.out.1).mono ?_; rintro e w1 ⟨rfl, hk⟩; have hc00 := keepc hk (b := w.heap.size) (o := 0) (v := .bool a) (by first | assumption | (simp [go_sem]; done) | (simp [go_sem]; assumption)); have hc01 := keepc hk (b := w.heap.size) (o := 1) (v := .int .u64 m) (by first | assumption | (simp [go_sem]; done) | (simp [go_sem]; assumption)); have hc10 := keepc hk (b := w.heap.size + 1) (o := 0) (v := .bool b) (by first | assumption | (simp [go_sem]; done) | (simp [go_sem]; assumption)); have hc11 := keepc hk (b := w.heap.size + 1) (o := 1) (v := .int .u64 n) (by first | assumption | (simp [go_sem]; done) | (simp [go_sem]; assumption)))) | ((go_at_call 34; with_reducible refine (c_Below _ _ _ _ _).mono ?_; rintro e w1 ⟨rfl, hk⟩)))
  go_returns
  exact ⟨rfl, (by (repeat (first | exact Kp.refl _ | refine kback (by assumption) ?_ | refine Kp.setCell ?_ (by first | omega | (simp; done) | (simp; omega)) _ | refine Kp.alloc ?_ _ _ | refine Kp.drewN ?_ _ | refine Kp.drew ?_)))⟩
theorem bne_of {l k : List UInt8} (h : (l == k) = false) : (l != k) = true := by simp only [bne, h, Bool.not_false]
theorem un_pair (op : ByteArray) (a : Bool) (m : Int) (hm : 0 ≤ m ∧ m < 18446744073709551616) : ∃ (ub : Bool) (un ue : Int), (∀ w, Calls Try.prog 12 #[.string op, .bool a, .int .u64 m] w fun e w' => e = .returned (.tuple #[.bool ub, .int .u64 un, .int .i64 ue]) ∧ Kp w w') ∧ ∀ w, Calls Try.prog 13 #[.string op, .agg #[.bool a, .int .u64 m]] w fun e w' => e = .returned (.tuple #[.agg #[.bool ub, .int .u64 un], .int .i64 ue]) ∧ Kp w w' := by
  cases x0 : (op.toList == [45]) with
  | true =>
    obtain rfl := lit_of x0
    cases ka : kc a m with
    | false => exact ⟨_, _, _, fun w => u_bad_m a m w ka, fun w => ru_bad_m a m w hm ka⟩
    | true =>
      refine ⟨_, _, _, fun w => v_minus a m w ka hm, fun w => (ru_minus a m w hm ka).mono fun e w' q => ⟨q.1.trans (toldR_eq (Or.inl (vl_not a m))), q.2⟩⟩
  | false =>
    cases x1 : (op.toList == [94]) with
    | true =>
      obtain rfl := lit_of x1
      cases ka : kc a m with
      | false => exact ⟨_, _, _, fun w => u_bad_x a m w ka, fun w => ru_bad_x a m w hm ka⟩
      | true =>
        refine ⟨_, _, _, fun w => v_turn a m w ka hm, fun w => (ru_turn a m w hm ka).mono fun e w' q => ⟨q.1.trans (toldR_eq (Or.inl (by rw [vl_not]; simp [vl]; omega))), q.2⟩⟩
    | false => exact ⟨_, _, _, fun w => u_noop op a m w x0 x1 (bne_of x0) (bne_of x1), fun w => ru_noop op a m w hm x0 x1 (bne_of x0) (bne_of x1)⟩
theorem cmp_pair (op : ByteArray) (a : Bool) (m : Int) (b : Bool) (n : Int) (hm : 0 ≤ m ∧ m < 18446744073709551616) (hn : 0 ≤ n ∧ n < 18446744073709551616) : ∃ (cb : Bool) (ce : Int), (∀ w, Calls Try.prog 14 #[.string op, .bool a, .int .u64 m, .bool b, .int .u64 n] w fun e w' => e = .returned (.tuple #[.bool cb, .int .i64 ce]) ∧ Kp w w') ∧ ∀ w, Calls Try.prog 15 #[.string op, .agg #[.bool a, .int .u64 m], .agg #[.bool b, .int .u64 n]] w fun e w' => e = .returned (.tuple #[.bool cb, .int .i64 ce]) ∧ Kp w w' := by
  cases x0 : (op.toList == [61, 61]) with
  | true =>
    obtain rfl := lit_of x0
    have hs : isc ⟨#[61, 61]⟩ = true := by simp [isc, ByteArray.toList_eq]
    cases ka : kc a m with
    | false => exact ⟨_, _, fun w => k_badA _ a m b n w hs ka, fun w => rk_eqA a m b n w hm hn ka⟩
    | true =>
      cases kb : kc b n with
      | false => exact ⟨_, _, fun w => k_badB _ a m b n w hs ka kb, fun w => rk_eqB a m b n w hm hn ka kb⟩
      | true => exact ⟨_, _, fun w => k_good _ a m b n w hs ka kb _ (fun w => h_eq a m b n w), fun w => rk_eq a m b n w hm hn ka kb⟩
  | false =>
    cases x1 : (op.toList == [33, 61]) with
    | true =>
      obtain rfl := lit_of x1
      have hs : isc ⟨#[33, 61]⟩ = true := by simp [isc, ByteArray.toList_eq]
      cases ka : kc a m with
      | false => exact ⟨_, _, fun w => k_badA _ a m b n w hs ka, fun w => rk_neA a m b n w hm hn ka⟩
      | true =>
        cases kb : kc b n with
        | false => exact ⟨_, _, fun w => k_badB _ a m b n w hs ka kb, fun w => rk_neB a m b n w hm hn ka kb⟩
        | true => exact ⟨_, _, fun w => k_good _ a m b n w hs ka kb _ (fun w => h_ne a m b n w), fun w => rk_ne a m b n w hm hn ka kb⟩
    | false =>
      cases x2 : (op.toList == [60]) with
      | true =>
        obtain rfl := lit_of x2
        have hs : isc ⟨#[60]⟩ = true := by simp [isc, ByteArray.toList_eq]
        cases ka : kc a m with
        | false => exact ⟨_, _, fun w => k_badA _ a m b n w hs ka, fun w => rk_ltA a m b n w hm hn ka⟩
        | true =>
          cases kb : kc b n with
          | false => exact ⟨_, _, fun w => k_badB _ a m b n w hs ka kb, fun w => rk_ltB a m b n w hm hn ka kb⟩
          | true => exact ⟨_, _, fun w => k_good _ a m b n w hs ka kb _ (fun w => h_lt a m b n w), fun w => rk_lt a m b n w hm hn ka kb⟩
      | false =>
        cases x3 : (op.toList == [60, 61]) with
        | true =>
          obtain rfl := lit_of x3
          have hs : isc ⟨#[60, 61]⟩ = true := by simp [isc, ByteArray.toList_eq]
          cases ka : kc a m with
          | false => exact ⟨_, _, fun w => k_badA _ a m b n w hs ka, fun w => rk_leA a m b n w hm hn ka⟩
          | true =>
            cases kb : kc b n with
            | false => exact ⟨_, _, fun w => k_badB _ a m b n w hs ka kb, fun w => rk_leB a m b n w hm hn ka kb⟩
            | true => exact ⟨_, _, fun w => k_good _ a m b n w hs ka kb _ (fun w => h_le a m b n w), fun w => rk_le a m b n w hm hn ka kb⟩
        | false =>
          cases x4 : (op.toList == [62]) with
          | true =>
            obtain rfl := lit_of x4
            have hs : isc ⟨#[62]⟩ = true := by simp [isc, ByteArray.toList_eq]
            cases ka : kc a m with
            | false => exact ⟨_, _, fun w => k_badA _ a m b n w hs ka, fun w => rk_gtA a m b n w hm hn ka⟩
            | true =>
              cases kb : kc b n with
              | false => exact ⟨_, _, fun w => k_badB _ a m b n w hs ka kb, fun w => rk_gtB a m b n w hm hn ka kb⟩
              | true => exact ⟨_, _, fun w => k_good _ a m b n w hs ka kb _ (fun w => h_gt a m b n w), fun w => rk_gt a m b n w hm hn ka kb⟩
          | false =>
            cases x5 : (op.toList == [62, 61]) with
            | true =>
              obtain rfl := lit_of x5
              have hs : isc ⟨#[62, 61]⟩ = true := by simp [isc, ByteArray.toList_eq]
              cases ka : kc a m with
              | false => exact ⟨_, _, fun w => k_badA _ a m b n w hs ka, fun w => rk_geA a m b n w hm hn ka⟩
              | true =>
                cases kb : kc b n with
                | false => exact ⟨_, _, fun w => k_badB _ a m b n w hs ka kb, fun w => rk_geB a m b n w hm hn ka kb⟩
                | true => exact ⟨_, _, fun w => k_good _ a m b n w hs ka kb _ (fun w => h_ge a m b n w), fun w => rk_ge a m b n w hm hn ka kb⟩
            | false =>
              exact ⟨_, _, fun w => k_noop op a m b n w (by unfold isc; rw [x0, x1, x2, x3, x4, x5]; rfl), fun w => rk_noop op a m b n w hm hn x0 (bne_of x0) x1 (bne_of x1) x2 (bne_of x2) x3 (bne_of x3) x4 (bne_of x4) x5 (bne_of x5)⟩
set_option maxRecDepth 100000 in
set_option maxHeartbeats 6400000 in
theorem ones_of (op : ByteArray) (a : Bool) (m : Int) (b : Bool) (n : Int) (w : World) (ub : Bool) (un ue : Int) (cb : Bool) (ce : Int) (h1 : ∀ w, Calls Try.prog 12 #[.string op, .bool a, .int .u64 m] w fun e w' => e = .returned (.tuple #[.bool ub, .int .u64 un, .int .i64 ue]) ∧ Kp w w') (h2 : ∀ w, Calls Try.prog 13 #[.string op, .agg #[.bool a, .int .u64 m]] w fun e w' => e = .returned (.tuple #[.agg #[.bool ub, .int .u64 un], .int .i64 ue]) ∧ Kp w w') (h3 : ∀ w, Calls Try.prog 14 #[.string op, .bool a, .int .u64 m, .bool b, .int .u64 n] w fun e w' => e = .returned (.tuple #[.bool cb, .int .i64 ce]) ∧ Kp w w') (h4 : ∀ w, Calls Try.prog 15 #[.string op, .agg #[.bool a, .int .u64 m], .agg #[.bool b, .int .u64 n]] w fun e w' => e = .returned (.tuple #[.bool cb, .int .i64 ce]) ∧ Kp w w') :
    Calls Try.prog 4 #[.string op, .agg #[.bool a, .int .u64 m], .agg #[.bool b, .int .u64 n]] w fun e w' => e = .returned (.bool true) ∧ Kp w w' := by
  have H1 := Lib.hid h1
  have H2 := Lib.hid h2
  have H3 := Lib.hid h3
  have H4 := Lib.hid h4
  clear h1 h2 h3 h4
  go_enter Try.func4, Try.ntmps4
  go_wp2_with (first | ((go_at_call 12; with_reducible refine (H1.out _).mono ?_; rintro e w1 ⟨rfl, hk⟩; have hc00 := keepc hk (b := w.heap.size) (o := 0) (v := .bool a) (by first | assumption | (simp [go_sem]; done) | (simp [go_sem, *]; done)); have hc01 := keepc hk (b := w.heap.size) (o := 1) (v := .int .u64 m) (by first | assumption | (simp [go_sem]; done) | (simp [go_sem, *]; done)); have hc10 := keepc hk (b := w.heap.size + 1) (o := 0) (v := .bool b) (by first | assumption | (simp [go_sem]; done) | (simp [go_sem, *]; done)); have hc11 := keepc hk (b := w.heap.size + 1) (o := 1) (v := .int .u64 n) (by first | assumption | (simp [go_sem]; done) | (simp [go_sem, *]; done)); have hs1 : w.heap.size + 1 < w1.heap.size := (by have := hk.below.size; simp at this; omega))) | ((go_at_call 13; with_reducible refine (H2.out _).mono ?_; rintro e wu ⟨rfl, hk⟩; have hc00 := keepc hk (b := w.heap.size) (o := 0) (v := .bool a) (by first | assumption | (simp [go_sem]; done) | (simp [go_sem, *]; done)); have hc01 := keepc hk (b := w.heap.size) (o := 1) (v := .int .u64 m) (by first | assumption | (simp [go_sem]; done) | (simp [go_sem, *]; done)); have hc10 := keepc hk (b := w.heap.size + 1) (o := 0) (v := .bool b) (by first | assumption | (simp [go_sem]; done) | (simp [go_sem, *]; done)); have hc11 := keepc hk (b := w.heap.size + 1) (o := 1) (v := .int .u64 n) (by first | assumption | (simp [go_sem]; done) | (simp [go_sem, *]; done)); have hs2 : w.heap.size + 1 < wu.heap.size := (by have := hk.below.size; omega); have hs20 : w.heap.size < wu.heap.size := (by omega); have hn1 : ¬ w.heap.size + 1 = wu.heap.size := (by omega); have hn0 : ¬ w.heap.size = wu.heap.size := (by omega))) | ((go_at_call 14; with_reducible refine (H3.out _).mono ?_; rintro e w3 ⟨rfl, hk⟩; have hc00 := keepc hk (b := w.heap.size) (o := 0) (v := .bool a) (by first | assumption | (simp [go_sem]; done) | (simp [go_sem, *]; done)); have hc01 := keepc hk (b := w.heap.size) (o := 1) (v := .int .u64 m) (by first | assumption | (simp [go_sem]; done) | (simp [go_sem, *]; done)); have hc10 := keepc hk (b := w.heap.size + 1) (o := 0) (v := .bool b) (by first | assumption | (simp [go_sem]; done) | (simp [go_sem, *]; done)); have hc11 := keepc hk (b := w.heap.size + 1) (o := 1) (v := .int .u64 n) (by first | assumption | (simp [go_sem]; done) | (simp [go_sem, *]; done)); have hcu0 := keepc hk (b := wu.heap.size) (o := 0) (v := .bool ub) (by first | assumption | (simp [go_sem]; done) | (simp [go_sem]; assumption)); have hcu1 := keepc hk (b := wu.heap.size) (o := 1) (v := .int .u64 un) (by first | assumption | (simp [go_sem]; done) | (simp [go_sem]; assumption)))) | ((go_at_call 15; with_reducible refine (H4.out _).mono ?_; rintro e w4 ⟨rfl, hk⟩; have hc00 := keepc hk (b := w.heap.size) (o := 0) (v := .bool a) (by first | assumption | (simp [go_sem]; done) | (simp [go_sem, *]; done)); have hc01 := keepc hk (b := w.heap.size) (o := 1) (v := .int .u64 m) (by first | assumption | (simp [go_sem]; done) | (simp [go_sem, *]; done)); have hc10 := keepc hk (b := w.heap.size + 1) (o := 0) (v := .bool b) (by first | assumption | (simp [go_sem]; done) | (simp [go_sem, *]; done)); have hc11 := keepc hk (b := w.heap.size + 1) (o := 1) (v := .int .u64 n) (by first | assumption | (simp [go_sem]; done) | (simp [go_sem, *]; done)); have hcu0 := keepc hk (b := wu.heap.size) (o := 0) (v := .bool ub) (by first | assumption | (simp [go_sem]; done) | (simp [go_sem]; assumption)); have hcu1 := keepc hk (b := wu.heap.size) (o := 1) (v := .int .u64 un) (by first | assumption | (simp [go_sem]; done) | (simp [go_sem]; assumption)))) | ((go_at_call 11; with_reducible refine (c_answers _).mono ?_; rintro e w5 ⟨rfl, hk⟩; have hc00 := keepc hk (b := w.heap.size) (o := 0) (v := .bool a) (by first | assumption | (simp [go_sem]; done) | (simp [go_sem, *]; done)); have hc01 := keepc hk (b := w.heap.size) (o := 1) (v := .int .u64 m) (by first | assumption | (simp [go_sem]; done) | (simp [go_sem, *]; done)); have hc10 := keepc hk (b := w.heap.size + 1) (o := 0) (v := .bool b) (by first | assumption | (simp [go_sem]; done) | (simp [go_sem, *]; done)); have hc11 := keepc hk (b := w.heap.size + 1) (o := 1) (v := .int .u64 n) (by first | assumption | (simp [go_sem]; done) | (simp [go_sem, *]; done)); have hcu0 := keepc hk (b := wu.heap.size) (o := 0) (v := .bool ub) (by first | assumption | (simp [go_sem]; done) | (simp [go_sem]; assumption)); have hcu1 := keepc hk (b := wu.heap.size) (o := 1) (v := .int .u64 un) (by first | assumption | (simp [go_sem]; done) | (simp [go_sem]; assumption)))))
  go_ret
  exact ⟨rfl, (by (repeat (first | exact Kp.refl _ | refine kback (by assumption) ?_ | refine Kp.setCell ?_ (by first | omega | (simp; done) | (simp; omega)) _ | refine Kp.alloc ?_ _ _ | refine Kp.drewN ?_ _ | refine Kp.drew ?_)))⟩
end Go.Proofs.Ytihchlkoohficaa
