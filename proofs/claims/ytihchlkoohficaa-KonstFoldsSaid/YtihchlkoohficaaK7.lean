/- What Compare, Fits and Of of package konst answer. Condition: a size is between 0 and 2 to the 64. -/
import Derived.Test.YtihchlkoohficaaK6
namespace Go.Proofs.Ytihchlkoohficaa
open Go.RowKit Plain
set_option linter.unusedVariables false
/-- Is one number below another, by sign and size? -/
def lsB (a : Bool) (m : Int) (b : Bool) (n : Int) : Bool := if a != b then a else if a then decide (n < m) else decide (m < n)
def eqB (a : Bool) (m : Int) (b : Bool) (n : Int) : Bool := a == b && m == n
theorem c_less (a : Bool) (m : Int) (b : Bool) (n : Int) (w : World) : Calls Try.prog 46 #[.agg #[.bool a, .int .u64 m], .agg #[.bool b, .int .u64 n]] w fun e w' => e = .returned (.bool (lsB a m b n)) ∧ Kp w w' := by
  cases a <;> cases b <;> simp only [lsB, bne_self_eq_false, Bool.false_eq_true, if_false, if_true, Bool.true_bne, Bool.false_bne, Bool.not_false]
  all_goals
    go_enter Try.func46, Try.ntmps46
    go_wp2_with fail
    go_ret
    exact ⟨rfl, (by (repeat (first | exact Kp.refl _ | refine kback (by assumption) ?_ | refine Kp.setCell ?_ (by first | omega | (simp; done) | (simp; omega)) _ | refine Kp.alloc ?_ _ _ | refine Kp.drewN ?_ _ | refine Kp.drew ?_)))⟩
theorem h_eq (a : Bool) (m : Int) (b : Bool) (n : Int) (w : World) : Calls Try.prog 33 #[.string ⟨#[61, 61]⟩, .agg #[.bool a, .int .u64 m], .agg #[.bool b, .int .u64 n]] w fun e w' => e = .returned (.bool (eqB a m b n)) ∧ Kp w w' := by
  by_cases hab : a = b
  · subst hab
    by_cases hmn : m = n
    · subst hmn
      rw [show (eqB a m a m) = true by simp [eqB]]
      go_enter Try.func33, Try.ntmps33
      go_wp2_with (fail)
      go_ret
      exact ⟨rfl, (by (repeat (first | exact Kp.refl _ | refine kback (by assumption) ?_ | refine Kp.setCell ?_ (by first | omega | (simp; done) | (simp; omega)) _ | refine Kp.alloc ?_ _ _ | refine Kp.drewN ?_ _ | refine Kp.drew ?_)))⟩
    · rw [show (eqB a m a n) = false by simp [eqB, hmn]]
      go_enter Try.func33, Try.ntmps33
      go_wp2_with (fail)
      go_ret
      exact ⟨rfl, (by (repeat (first | exact Kp.refl _ | refine kback (by assumption) ?_ | refine Kp.setCell ?_ (by first | omega | (simp; done) | (simp; omega)) _ | refine Kp.alloc ?_ _ _ | refine Kp.drewN ?_ _ | refine Kp.drew ?_)))⟩
  · rw [show (eqB a m b n) = false by simp [eqB, hab]]
    go_enter Try.func33, Try.ntmps33
    go_wp2_with (fail)
    go_ret
    exact ⟨rfl, (by (repeat (first | exact Kp.refl _ | refine kback (by assumption) ?_ | refine Kp.setCell ?_ (by first | omega | (simp; done) | (simp; omega)) _ | refine Kp.alloc ?_ _ _ | refine Kp.drewN ?_ _ | refine Kp.drew ?_)))⟩
theorem h_ne (a : Bool) (m : Int) (b : Bool) (n : Int) (w : World) : Calls Try.prog 33 #[.string ⟨#[33, 61]⟩, .agg #[.bool a, .int .u64 m], .agg #[.bool b, .int .u64 n]] w fun e w' => e = .returned (.bool (!eqB a m b n)) ∧ Kp w w' := by
  by_cases hab : a = b
  · subst hab
    by_cases hmn : m = n
    · subst hmn
      rw [show (!eqB a m a m) = false by simp [eqB]]
      go_enter Try.func33, Try.ntmps33
      go_wp2_with (fail)
      go_ret
      exact ⟨rfl, (by (repeat (first | exact Kp.refl _ | refine kback (by assumption) ?_ | refine Kp.setCell ?_ (by first | omega | (simp; done) | (simp; omega)) _ | refine Kp.alloc ?_ _ _ | refine Kp.drewN ?_ _ | refine Kp.drew ?_)))⟩
    · rw [show (!eqB a m a n) = true by simp [eqB, hmn]]
      go_enter Try.func33, Try.ntmps33
      go_wp2_with (fail)
      go_ret
      exact ⟨rfl, (by (repeat (first | exact Kp.refl _ | refine kback (by assumption) ?_ | refine Kp.setCell ?_ (by first | omega | (simp; done) | (simp; omega)) _ | refine Kp.alloc ?_ _ _ | refine Kp.drewN ?_ _ | refine Kp.drew ?_)))⟩
  · rw [show (!eqB a m b n) = true by simp [eqB, hab]]
    go_enter Try.func33, Try.ntmps33
    go_wp2_with (fail)
    go_ret
    exact ⟨rfl, (by (repeat (first | exact Kp.refl _ | refine kback (by assumption) ?_ | refine Kp.setCell ?_ (by first | omega | (simp; done) | (simp; omega)) _ | refine Kp.alloc ?_ _ _ | refine Kp.drewN ?_ _ | refine Kp.drew ?_)))⟩
theorem h_lt (a : Bool) (m : Int) (b : Bool) (n : Int) (w : World) : Calls Try.prog 33 #[.string ⟨#[60]⟩, .agg #[.bool a, .int .u64 m], .agg #[.bool b, .int .u64 n]] w fun e w' => e = .returned (.bool (lsB a m b n)) ∧ Kp w w' := by
  go_enter Try.func33, Try.ntmps33
  go_wp2_with (((go_at_call 46; with_reducible refine (c_less _ _ _ _ _).mono ?_; rintro e w1 ⟨rfl, hk⟩)))
  go_ret
  exact ⟨rfl, (by (repeat (first | exact Kp.refl _ | refine kback (by assumption) ?_ | refine Kp.setCell ?_ (by first | omega | (simp; done) | (simp; omega)) _ | refine Kp.alloc ?_ _ _ | refine Kp.drewN ?_ _ | refine Kp.drew ?_)))⟩
theorem h_le (a : Bool) (m : Int) (b : Bool) (n : Int) (w : World) : Calls Try.prog 33 #[.string ⟨#[60, 61]⟩, .agg #[.bool a, .int .u64 m], .agg #[.bool b, .int .u64 n]] w fun e w' => e = .returned (.bool (!lsB b n a m)) ∧ Kp w w' := by
  go_enter Try.func33, Try.ntmps33
  go_wp2_with (((go_at_call 46; with_reducible refine (c_less _ _ _ _ _).mono ?_; rintro e w1 ⟨rfl, hk⟩)))
  go_ret
  exact ⟨rfl, (by (repeat (first | exact Kp.refl _ | refine kback (by assumption) ?_ | refine Kp.setCell ?_ (by first | omega | (simp; done) | (simp; omega)) _ | refine Kp.alloc ?_ _ _ | refine Kp.drewN ?_ _ | refine Kp.drew ?_)))⟩
theorem h_gt (a : Bool) (m : Int) (b : Bool) (n : Int) (w : World) : Calls Try.prog 33 #[.string ⟨#[62]⟩, .agg #[.bool a, .int .u64 m], .agg #[.bool b, .int .u64 n]] w fun e w' => e = .returned (.bool (lsB b n a m)) ∧ Kp w w' := by
  go_enter Try.func33, Try.ntmps33
  go_wp2_with (((go_at_call 46; with_reducible refine (c_less _ _ _ _ _).mono ?_; rintro e w1 ⟨rfl, hk⟩)))
  go_ret
  exact ⟨rfl, (by (repeat (first | exact Kp.refl _ | refine kback (by assumption) ?_ | refine Kp.setCell ?_ (by first | omega | (simp; done) | (simp; omega)) _ | refine Kp.alloc ?_ _ _ | refine Kp.drewN ?_ _ | refine Kp.drew ?_)))⟩
theorem h_ge (a : Bool) (m : Int) (b : Bool) (n : Int) (w : World) : Calls Try.prog 33 #[.string ⟨#[62, 61]⟩, .agg #[.bool a, .int .u64 m], .agg #[.bool b, .int .u64 n]] w fun e w' => e = .returned (.bool (!lsB a m b n)) ∧ Kp w w' := by
  go_enter Try.func33, Try.ntmps33
  go_wp2_with (((go_at_call 46; with_reducible refine (c_less _ _ _ _ _).mono ?_; rintro e w1 ⟨rfl, hk⟩)))
  go_ret
  exact ⟨rfl, (by (repeat (first | exact Kp.refl _ | refine kback (by assumption) ?_ | refine Kp.setCell ?_ (by first | omega | (simp; done) | (simp; omega)) _ | refine Kp.alloc ?_ _ _ | refine Kp.drewN ?_ _ | refine Kp.drew ?_)))⟩
set_option maxHeartbeats 1600000 in
theorem k_noop (op : ByteArray) (a : Bool) (m : Int) (b : Bool) (n : Int) (w : World) (hf : isc op = false) :
    Calls Try.prog 14 #[.string op, .bool a, .int .u64 m, .bool b, .int .u64 n] w fun e w' => e = .returned (.tuple #[.bool false, .int .i64 2]) ∧ Kp w w' := by
  go_enter Try.func14, Try.ntmps14
  go_wp2_with (first | ((go_at_call 32; with_reducible refine (c_isCompare _ _).mono ?_; rintro e w1 ⟨rfl, rfl⟩)))
  go_returns
  exact ⟨rfl, (by (repeat (first | exact Kp.refl _ | refine kback (by assumption) ?_ | refine Kp.setCell ?_ (by first | omega | (simp; done) | (simp; omega)) _ | refine Kp.alloc ?_ _ _ | refine Kp.drewN ?_ _ | refine Kp.drew ?_)))⟩
set_option maxHeartbeats 1600000 in
theorem k_badA (op : ByteArray) (a : Bool) (m : Int) (b : Bool) (n : Int) (w : World) (hf : isc op = true) (ka : kc a m = false) :
    Calls Try.prog 14 #[.string op, .bool a, .int .u64 m, .bool b, .int .u64 n] w fun e w' => e = .returned (.tuple #[.bool false, .int .i64 1]) ∧ Kp w w' := by
  go_enter Try.func14, Try.ntmps14
  go_wp2_with (first | ((go_at_call 32; with_reducible refine (c_isCompare _ _).mono ?_; rintro e w1 ⟨rfl, rfl⟩)) | ((go_at_call 21; with_reducible refine (c_sound a m _).mono ?_; rintro e w1 ⟨rfl, hk⟩; have hc00 := keepc hk (b := w.heap.size) (o := 0) (v := .bool a) (by first | assumption | (simp [go_sem]; done) | (simp [go_sem]; assumption)); have hc01 := keepc hk (b := w.heap.size) (o := 1) (v := .int .u64 m) (by first | assumption | (simp [go_sem]; done) | (simp [go_sem]; assumption)); have hc10 := keepc hk (b := w.heap.size + 1) (o := 0) (v := .bool b) (by first | assumption | (simp [go_sem]; done) | (simp [go_sem]; assumption)); have hc11 := keepc hk (b := w.heap.size + 1) (o := 1) (v := .int .u64 n) (by first | assumption | (simp [go_sem]; done) | (simp [go_sem]; assumption)))))
  go_returns
  exact ⟨rfl, (by (repeat (first | exact Kp.refl _ | refine kback (by assumption) ?_ | refine Kp.setCell ?_ (by first | omega | (simp; done) | (simp; omega)) _ | refine Kp.alloc ?_ _ _ | refine Kp.drewN ?_ _ | refine Kp.drew ?_)))⟩
set_option maxHeartbeats 1600000 in
theorem k_badB (op : ByteArray) (a : Bool) (m : Int) (b : Bool) (n : Int) (w : World) (hf : isc op = true) (ka : kc a m = true) (kb : kc b n = false) :
    Calls Try.prog 14 #[.string op, .bool a, .int .u64 m, .bool b, .int .u64 n] w fun e w' => e = .returned (.tuple #[.bool false, .int .i64 1]) ∧ Kp w w' := by
  go_enter Try.func14, Try.ntmps14
  go_wp2_with (first | ((go_at_call 32; with_reducible refine (c_isCompare _ _).mono ?_; rintro e w1 ⟨rfl, rfl⟩)) | ((go_at_call 21; with_reducible refine (c_sound a m _).mono ?_; rintro e w1 ⟨rfl, hk⟩; have hc00 := keepc hk (b := w.heap.size) (o := 0) (v := .bool a) (by first | assumption | (simp [go_sem]; done) | (simp [go_sem]; assumption)); have hc01 := keepc hk (b := w.heap.size) (o := 1) (v := .int .u64 m) (by first | assumption | (simp [go_sem]; done) | (simp [go_sem]; assumption)); have hc10 := keepc hk (b := w.heap.size + 1) (o := 0) (v := .bool b) (by first | assumption | (simp [go_sem]; done) | (simp [go_sem]; assumption)); have hc11 := keepc hk (b := w.heap.size + 1) (o := 1) (v := .int .u64 n) (by first | assumption | (simp [go_sem]; done) | (simp [go_sem]; assumption)))) | ((go_at_call 21; with_reducible refine (c_sound b n _).mono ?_; rintro e w1 ⟨rfl, hk⟩; have hc00 := keepc hk (b := w.heap.size) (o := 0) (v := .bool a) (by first | assumption | (simp [go_sem]; done) | (simp [go_sem]; assumption)); have hc01 := keepc hk (b := w.heap.size) (o := 1) (v := .int .u64 m) (by first | assumption | (simp [go_sem]; done) | (simp [go_sem]; assumption)); have hc10 := keepc hk (b := w.heap.size + 1) (o := 0) (v := .bool b) (by first | assumption | (simp [go_sem]; done) | (simp [go_sem]; assumption)); have hc11 := keepc hk (b := w.heap.size + 1) (o := 1) (v := .int .u64 n) (by first | assumption | (simp [go_sem]; done) | (simp [go_sem]; assumption)))))
  go_returns
  exact ⟨rfl, (by (repeat (first | exact Kp.refl _ | refine kback (by assumption) ?_ | refine Kp.setCell ?_ (by first | omega | (simp; done) | (simp; omega)) _ | refine Kp.alloc ?_ _ _ | refine Kp.drewN ?_ _ | refine Kp.drew ?_)))⟩
set_option maxHeartbeats 1600000 in
theorem k_good (op : ByteArray) (a : Bool) (m : Int) (b : Bool) (n : Int) (w : World) (hf : isc op = true) (ka : kc a m = true) (kb : kc b n = true) (v : Bool) (h1 : ∀ w, Calls Try.prog 33 #[.string op, .agg #[.bool a, .int .u64 m], .agg #[.bool b, .int .u64 n]] w fun e w' => e = .returned (.bool v) ∧ Kp w w') :
    Calls Try.prog 14 #[.string op, .bool a, .int .u64 m, .bool b, .int .u64 n] w fun e w' => e = .returned (.tuple #[.bool v, .int .i64 0]) ∧ Kp w w' := by
  have H1 := Lib.hid h1
  clear h1
  go_enter Try.func14, Try.ntmps14
  go_wp2_with (first | ((go_at_call 32; with_reducible refine (c_isCompare _ _).mono ?_; rintro e w1 ⟨rfl, rfl⟩)) | ((go_at_call 21; with_reducible refine (c_sound a m _).mono ?_; rintro e w1 ⟨rfl, hk⟩; have hc00 := keepc hk (b := w.heap.size) (o := 0) (v := .bool a) (by first | assumption | (simp [go_sem]; done) | (simp [go_sem]; assumption)); have hc01 := keepc hk (b := w.heap.size) (o := 1) (v := .int .u64 m) (by first | assumption | (simp [go_sem]; done) | (simp [go_sem]; assumption)); have hc10 := keepc hk (b := w.heap.size + 1) (o := 0) (v := .bool b) (by first | assumption | (simp [go_sem]; done) | (simp [go_sem]; assumption)); have hc11 := keepc hk (b := w.heap.size + 1) (o := 1) (v := .int .u64 n) (by first | assumption | (simp [go_sem]; done) | (simp [go_sem]; assumption)))) | ((go_at_call 21; with_reducible refine (c_sound b n _).mono ?_; rintro e w1 ⟨rfl, hk⟩; have hc00 := keepc hk (b := w.heap.size) (o := 0) (v := .bool a) (by first | assumption | (simp [go_sem]; done) | (simp [go_sem]; assumption)); have hc01 := keepc hk (b := w.heap.size) (o := 1) (v := .int .u64 m) (by first | assumption | (simp [go_sem]; done) | (simp [go_sem]; assumption)); have hc10 := keepc hk (b := w.heap.size + 1) (o := 0) (v := .bool b) (by first | assumption | (simp [go_sem]; done) | (simp [go_sem]; assumption)); have hc11 := keepc hk (b := w.heap.size + 1) (o := 1) (v := .int .u64 n) (by first | assumption | (simp [go_sem]; done) | (simp [go_sem]; assumption)))) | ((go_at_call 33; with_reducible refine (H1.out _).mono ?_; rintro e w1 ⟨rfl, hk⟩)))
  go_returns
  exact ⟨rfl, (by (repeat (first | exact Kp.refl _ | refine kback (by assumption) ?_ | refine Kp.setCell ?_ (by first | omega | (simp; done) | (simp; omega)) _ | refine Kp.alloc ?_ _ _ | refine Kp.drewN ?_ _ | refine Kp.drew ?_)))⟩
/-- The word of a constant. -/
def wd (b : Bool) (n : Int) : Int := if b then IntKind.u64.wrap (-n) else n
theorem wd_r {b : Bool} {n : Int} (hn : 0 ≤ n ∧ n < 18446744073709551616) : 0 ≤ wd b n ∧ wd b n < 18446744073709551616 := by
  unfold wd; split
  · exact u64_r _
  · exact hn
theorem c_wordOf (b : Bool) (n : Int) (w : World) : Calls Try.prog 40 #[.agg #[.bool b, .int .u64 n]] w fun e w' => e = .returned (.int .u64 (wd b n)) ∧ Kp w w' := by
  cases b with
  | false =>
    show Calls Try.prog 40 #[.agg #[.bool false, .int .u64 n]] w fun e w' => e = .returned (.int .u64 n) ∧ Kp w w'
    go_enter Try.func40, Try.ntmps40
    go_wp2_with fail
    go_ret
    exact ⟨rfl, (by (repeat (first | exact Kp.refl _ | refine kback (by assumption) ?_ | refine Kp.setCell ?_ (by first | omega | (simp; done) | (simp; omega)) _ | refine Kp.alloc ?_ _ _ | refine Kp.drewN ?_ _ | refine Kp.drew ?_)))⟩
  | true =>
    show Calls Try.prog 40 #[.agg #[.bool true, .int .u64 n]] w fun e w' => e = .returned (.int .u64 (IntKind.u64.wrap (-n))) ∧ Kp w w'
    go_enter Try.func40, Try.ntmps40
    go_wp2_with fail
    go_ret
    exact ⟨rfl, (by (repeat (first | exact Kp.refl _ | refine kback (by assumption) ?_ | refine Kp.setCell ?_ (by first | omega | (simp; done) | (simp; omega)) _ | refine Kp.alloc ?_ _ _ | refine Kp.drewN ?_ _ | refine Kp.drew ?_)))⟩
theorem c_numberOf (k n : Int) (w : World) (hn : 0 ≤ n ∧ n < 18446744073709551616) : Calls Try.prog 37 #[.bool (sg k), .int .u64 n] w fun e w' => e = .returned (.agg #[.bool (ng k n), .int .u64 (sz k n)]) ∧ Kp w w' := by
  cases hs : sg k with
  | true =>
    by_cases hb : 9223372036854775808 ≤ n
    · have e1 : ng k n = true := by simp [ng, hs, hb]
      have e2 : sz k n = IntKind.u64.wrap (-n) := by simp [sz, e1, IntKind.wrap_u64]; omega
      have e3 : (n / 9223372036854775808 == 1) = true := by simp; omega
      rw [e1, e2]; clear e1 e2 hn hb
      go_enter Try.func37, Try.ntmps37
      go_wp2_with fail
      go_returns
      exact ⟨rfl, (by (repeat (first | exact Kp.refl _ | refine kback (by assumption) ?_ | refine Kp.setCell ?_ (by first | omega | (simp; done) | (simp; omega)) _ | refine Kp.alloc ?_ _ _ | refine Kp.drewN ?_ _ | refine Kp.drew ?_)))⟩
    · have e1 : ng k n = false := by simp [ng, hs]; omega
      have e2 : sz k n = n := by simp [sz, e1]
      have e3 : (n / 9223372036854775808 == 1) = false := by simp; omega
      rw [e1, e2]; clear e1 e2 hn hb
      go_enter Try.func37, Try.ntmps37
      go_wp2_with fail
      go_returns
      exact ⟨rfl, (by (repeat (first | exact Kp.refl _ | refine kback (by assumption) ?_ | refine Kp.setCell ?_ (by first | omega | (simp; done) | (simp; omega)) _ | refine Kp.alloc ?_ _ _ | refine Kp.drewN ?_ _ | refine Kp.drew ?_)))⟩
  | false =>
    have e1 : ng k n = false := by simp [ng, hs]
    have e2 : sz k n = n := by simp [sz, e1]
    rw [e1, e2]; clear e1 e2 hn
    go_enter Try.func37, Try.ntmps37
    go_wp2_with fail
    go_returns
    exact ⟨rfl, (by (repeat (first | exact Kp.refl _ | refine kback (by assumption) ?_ | refine Kp.setCell ?_ (by first | omega | (simp; done) | (simp; omega)) _ | refine Kp.alloc ?_ _ _ | refine Kp.drewN ?_ _ | refine Kp.drew ?_)))⟩
set_option maxHeartbeats 1600000 in
theorem o_kind (k n : Int) (w : World) (hn : 0 ≤ n ∧ n < 18446744073709551616) (h : wh k = false) :
    Calls Try.prog 16 #[.int .i64 k, .int .u64 n] w fun e w' => e = .returned (.tuple #[.bool false, .int .u64 0, .int .i64 2]) ∧ Kp w w' := by
  have HN := Lib.hid hn
  have he : e0 k = 2 := by simp [e0, h]
  clear hn
  go_enter Try.func16, Try.ntmps16
  go_wp2_with (first | ((go_at_call 35; with_reducible refine (c_Signed _ _).mono ?_; rintro e w1 ⟨rfl, rfl⟩)))
  go_returns
  exact ⟨rfl, (by (repeat (first | exact Kp.refl _ | refine kback (by assumption) ?_ | refine Kp.setCell ?_ (by first | omega | (simp; done) | (simp; omega)) _ | refine Kp.alloc ?_ _ _ | refine Kp.drewN ?_ _ | refine Kp.drew ?_)))⟩
set_option maxHeartbeats 1600000 in
theorem o_form (k n : Int) (w : World) (hn : 0 ≤ n ∧ n < 18446744073709551616) (h : wh k = true) (hi : iz k n = false) :
    Calls Try.prog 16 #[.int .i64 k, .int .u64 n] w fun e w' => e = .returned (.tuple #[.bool false, .int .u64 0, .int .i64 1]) ∧ Kp w w' := by
  have HN := Lib.hid hn
  have he : e0 k = 0 := by simp [e0, h]
  clear hn
  go_enter Try.func16, Try.ntmps16
  go_wp2_with (first | ((go_at_call 35; with_reducible refine (c_Signed _ _).mono ?_; rintro e w1 ⟨rfl, rfl⟩)) | ((go_at_call 36; with_reducible refine (c_Is k n _ HN.out).mono ?_; rintro e w1 ⟨rfl, hk⟩)))
  go_returns
  exact ⟨rfl, (by (repeat (first | exact Kp.refl _ | refine kback (by assumption) ?_ | refine Kp.setCell ?_ (by first | omega | (simp; done) | (simp; omega)) _ | refine Kp.alloc ?_ _ _ | refine Kp.drewN ?_ _ | refine Kp.drew ?_)))⟩
theorem sz_r {k n : Int} (hn : 0 ≤ n ∧ n < 18446744073709551616) : 0 ≤ sz k n ∧ sz k n < 18446744073709551616 := by
  unfold sz ng; split
  · rename_i h; simp at h; omega
  · exact hn
theorem kc_of {k n : Int} (hn : 0 ≤ n ∧ n < 18446744073709551616) : kc (ng k n) (sz k n) = true := by
  cases h : ng k n with
  | false => rfl
  | true =>
    have e : sz k n = 18446744073709551616 - n := by simp [sz, h]
    simp [ng] at h
    rw [e]; simp [kc]; omega
set_option maxHeartbeats 1600000 in
theorem o_good (k n : Int) (w : World) (hn : 0 ≤ n ∧ n < 18446744073709551616) (h : wh k = true) (hi : iz k n = true) :
    Calls Try.prog 16 #[.int .i64 k, .int .u64 n] w fun e w' => e = .returned (.tuple #[.bool (ng k n), .int .u64 (sz k n), .int .i64 0]) ∧ Kp w w' := by
  have HN := Lib.hid hn
  have he : e0 k = 0 := by simp [e0, h]
  have HR := Lib.hid (show rn (tv (ng k n) (sz k n) true) = ng k n ∧ rs (tv (ng k n) (sz k n) true) = sz k n ∧ re (tv (ng k n) (sz k n) true) = 0 from kc_rn (kc_of (k := k) hn) (sz_r hn))
  have HZ := Lib.hid (sz_r (k := k) hn)
  clear hn
  go_enter Try.func16, Try.ntmps16
  go_wp2_with (first | ((go_at_call 35; with_reducible refine (c_Signed _ _).mono ?_; rintro e w1 ⟨rfl, rfl⟩)) | ((go_at_call 36; with_reducible refine (c_Is k n _ HN.out).mono ?_; rintro e w1 ⟨rfl, hk⟩)) | ((go_at_call 37; with_reducible refine (c_numberOf k n _ HN.out).mono ?_; rintro e w1 ⟨rfl, hk⟩)) | ((go_at_call 23; with_reducible refine (c_tell (ng k n) true (sz k n) _ HZ.out).mono ?_; rintro e w1 ⟨rfl, hk⟩)))
  go_returns
  exact ⟨by obtain ⟨h1, h2, h3⟩ := HR.out; rw [h1, h2, h3]; rfl, (by (repeat (first | exact Kp.refl _ | refine kback (by assumption) ?_ | refine Kp.setCell ?_ (by first | omega | (simp; done) | (simp; omega)) _ | refine Kp.alloc ?_ _ _ | refine Kp.drewN ?_ _ | refine Kp.drew ?_)))⟩
set_option maxHeartbeats 1600000 in
theorem t_kind (k : Int) (b : Bool) (n : Int) (w : World) (hn : 0 ≤ n ∧ n < 18446744073709551616) (h : wh k = false) :
    Calls Try.prog 18 #[.int .i64 k, .bool b, .int .u64 n] w fun e w' => e = .returned (.tuple #[.int .u64 0, .int .i64 2]) ∧ Kp w w' := by
  have he : e0 k = 2 := by simp [e0, h]
  have HW := Lib.hid (wd_r (b := b) hn)
  clear hn
  go_enter Try.func18, Try.ntmps18
  go_wp2_with (first | ((go_at_call 35; with_reducible refine (c_Signed _ _).mono ?_; rintro e w1 ⟨rfl, rfl⟩)))
  go_returns
  exact ⟨rfl, (by (repeat (first | exact Kp.refl _ | refine kback (by assumption) ?_ | refine Kp.setCell ?_ (by first | omega | (simp; done) | (simp; omega)) _ | refine Kp.alloc ?_ _ _ | refine Kp.drewN ?_ _ | refine Kp.drew ?_)))⟩
set_option maxHeartbeats 1600000 in
theorem t_form (k : Int) (b : Bool) (n : Int) (w : World) (hn : 0 ≤ n ∧ n < 18446744073709551616) (h : wh k = true) (hk : kc b n = false) :
    Calls Try.prog 18 #[.int .i64 k, .bool b, .int .u64 n] w fun e w' => e = .returned (.tuple #[.int .u64 0, .int .i64 1]) ∧ Kp w w' := by
  have he : e0 k = 0 := by simp [e0, h]
  have HW := Lib.hid (wd_r (b := b) hn)
  clear hn
  go_enter Try.func18, Try.ntmps18
  go_wp2_with (first | ((go_at_call 35; with_reducible refine (c_Signed _ _).mono ?_; rintro e w1 ⟨rfl, rfl⟩)) | ((go_at_call 21; with_reducible refine (c_sound b n _).mono ?_; rintro e w1 ⟨rfl, hk⟩; have hc00 := keepc hk (b := w.heap.size) (o := 0) (v := .bool b) (by first | assumption | (simp [go_sem]; done) | (simp [go_sem]; assumption)); have hc01 := keepc hk (b := w.heap.size) (o := 1) (v := .int .u64 n) (by first | assumption | (simp [go_sem]; done) | (simp [go_sem]; assumption)))))
  go_returns
  exact ⟨rfl, (by (repeat (first | exact Kp.refl _ | refine kback (by assumption) ?_ | refine Kp.setCell ?_ (by first | omega | (simp; done) | (simp; omega)) _ | refine Kp.alloc ?_ _ _ | refine Kp.drewN ?_ _ | refine Kp.drew ?_)))⟩
set_option maxHeartbeats 1600000 in
theorem t_is (k : Int) (b : Bool) (n : Int) (w : World) (hn : 0 ≤ n ∧ n < 18446744073709551616) (h : wh k = true) (hk : kc b n = true) (hi : iz k (wd b n) = false) :
    Calls Try.prog 18 #[.int .i64 k, .bool b, .int .u64 n] w fun e w' => e = .returned (.tuple #[.int .u64 0, .int .i64 10]) ∧ Kp w w' := by
  have he : e0 k = 0 := by simp [e0, h]
  have HW := Lib.hid (wd_r (b := b) hn)
  clear hn
  go_enter Try.func18, Try.ntmps18
  go_wp2_with (first | ((go_at_call 35; with_reducible refine (c_Signed _ _).mono ?_; rintro e w1 ⟨rfl, rfl⟩)) | ((go_at_call 21; with_reducible refine (c_sound b n _).mono ?_; rintro e w1 ⟨rfl, hk⟩; have hc00 := keepc hk (b := w.heap.size) (o := 0) (v := .bool b) (by first | assumption | (simp [go_sem]; done) | (simp [go_sem]; assumption)); have hc01 := keepc hk (b := w.heap.size) (o := 1) (v := .int .u64 n) (by first | assumption | (simp [go_sem]; done) | (simp [go_sem]; assumption)))) | ((go_at_call 40; with_reducible refine (c_wordOf b n _).mono ?_; rintro e w1 ⟨rfl, hk⟩; have hc00 := keepc hk (b := w.heap.size) (o := 0) (v := .bool b) (by first | assumption | (simp [go_sem]; done) | (simp [go_sem]; assumption)); have hc01 := keepc hk (b := w.heap.size) (o := 1) (v := .int .u64 n) (by first | assumption | (simp [go_sem]; done) | (simp [go_sem]; assumption)))))
  refine wp_region_held_drew (S := fun w'' => w''.cell? ⟨w.heap.size, 0, none⟩ = some (.bool b) ∧ w''.cell? ⟨w.heap.size, 1, none⟩ = some (.int .u64 n)) (by kernel_rfl) (by first | exact ⟨by assumption, by assumption⟩ | (simp [go_sem]; exact ⟨by assumption, by assumption⟩)) (fun hHeld0 => ?_)
  refine wpAnyH_take (i := 0) (oi := { dst := some 28, op := Op.move (Operand.tmp 0), type := 3, pos := "konst.go:62", after := #[], guard := none }) (v := ?_) rfl (by kernel_rfl) (by kernel_rfl) (by kernel_rfl) (fun _ _ _ h => h) (Or.inl ⟨by rfl, ?_⟩) (by assumption) ?_
  rotate_left
  · (intro wz hSw; (try dsimp only at hSw); go_simp; first | done | with_reducible rfl)
  try simp only [Act.put, List.setIfInBounds_toArray, List.set_cons_zero, List.set_cons_succ]
  refine wpAnyH_take (i := 1) (oi := { dst := some 29, op := Op.move (Operand.tmp 11), type := 22, pos := "konst.go:62", after := #[], guard := none }) (v := ?_) rfl (by kernel_rfl) (by kernel_rfl) (by kernel_rfl) (fun _ _ _ h => h) (Or.inl ⟨by rfl, ?_⟩) (by assumption) ?_
  rotate_left
  · (intro wz hSw; (try dsimp only at hSw); go_simp; first | done | with_reducible rfl)
  try simp only [Act.put, List.setIfInBounds_toArray, List.set_cons_zero, List.set_cons_succ]
  refine wpAnyH_ready (rs := [2]) (by kernel_rfl) (by simp) ?_
  refine AllReadyH.cons (o := { dst := some 30, op := Op.call { callee := Callee.value (Operand.func 36), args := #[Operand.tmp 28, Operand.tmp 29], argTypes := #[3, 22] }, type := 4, pos := "konst.go:62", after := #[{ on := 0, ground := Ground.data }, { on := 1, ground := Ground.data }], guard := none }) rfl (fun Kw hKw => ?_) AllReadyH.nil
  go_simp
  ((go_at_call 36; with_reducible refine (c_Is k (wd b n) _ HW.out).mono ?_; rintro e w1 ⟨rfl, hk⟩; have hc00 := keepc hk (b := w.heap.size) (o := 0) (v := .bool b) (by first | assumption | (simp [go_sem]; done) | (simp [go_sem]; assumption)); have hc01 := keepc hk (b := w.heap.size) (o := 1) (v := .int .u64 n) (by first | assumption | (simp [go_sem]; done) | (simp [go_sem]; assumption))))
  (try go_wp2_with fail)
  refine hKw.out _ _ ?_ (fun hHeld1 => ?_)
  · exact ⟨hc00, hc01⟩
  clear hKw Kw hHeld0
  try simp only [Act.put, List.setIfInBounds_toArray, List.set_cons_zero, List.set_cons_succ]
  refine wpAnyH_take (i := 3) (oi := { dst := some 31, op := Op.unOp UnOp.not 4 (Operand.tmp 30), type := 4, pos := "konst.go:62", after := #[{ on := 2, ground := Ground.data }], guard := none }) (v := ?_) rfl (by kernel_rfl) (by kernel_rfl) (by kernel_rfl) (fun _ _ _ h => h) (Or.inl ⟨by rfl, ?_⟩) (by assumption) ?_
  rotate_left
  · (intro wz hSw; (try dsimp only at hSw); go_simp; first | done | with_reducible rfl)
  try simp only [Act.put, List.setIfInBounds_toArray, List.set_cons_zero, List.set_cons_succ]
  refine wpAnyH_take (i := 4) (oi := { dst := some 32, op := Op.move (Operand.tmp 31), type := 4, pos := "konst.go:62", after := #[{ on := 3, ground := Ground.data }, { on := 2, ground := Ground.chain }], guard := none }) (v := ?_) rfl (by kernel_rfl) (by kernel_rfl) (by kernel_rfl) (fun _ _ _ h => h) (Or.inl ⟨by rfl, ?_⟩) (by assumption) ?_
  rotate_left
  · (intro wz hSw; (try dsimp only at hSw); go_simp; first | done | with_reducible rfl)
  try simp only [Act.put, List.setIfInBounds_toArray, List.set_cons_zero, List.set_cons_succ]
  refine wpAnyH_take (i := 5) (oi := { dst := some 33, op := Op.move (Operand.tmp 8), type := 4, pos := "konst.go:62", after := #[{ on := 4, ground := Ground.guard }], guard := some (4, false) }) (v := undef) rfl (by kernel_rfl) (by kernel_rfl) (by kernel_rfl) (fun _ _ _ h => h) (Or.inr ⟨by rfl, rfl⟩) (by assumption) ?_
  try simp only [Act.put, List.setIfInBounds_toArray, List.set_cons_zero, List.set_cons_succ]
  refine wpAnyH_take (i := 6) (oi := { dst := some 34, op := Op.move (Operand.tmp 11), type := 22, pos := "konst.go:62", after := #[{ on := 4, ground := Ground.guard }], guard := some (4, false) }) (v := undef) rfl (by kernel_rfl) (by kernel_rfl) (by kernel_rfl) (fun _ _ _ h => h) (Or.inr ⟨by rfl, rfl⟩) (by assumption) ?_
  try simp only [Act.put, List.setIfInBounds_toArray, List.set_cons_zero, List.set_cons_succ]
  refine wpAnyH_take (i := 7) (oi := { dst := some 35, op := Op.call { callee := Callee.value (Operand.func 37), args := #[Operand.tmp 33, Operand.tmp 34], argTypes := #[4, 22] }, type := 46, pos := "konst.go:62", after := #[{ on := 5, ground := Ground.data }, { on := 6, ground := Ground.data }, { on := 4, ground := Ground.chain }, { on := 4, ground := Ground.guard }], guard := some (4, false) }) (v := undef) rfl (by kernel_rfl) (by kernel_rfl) (by kernel_rfl) (fun _ _ _ h => h) (Or.inr ⟨by rfl, rfl⟩) (by assumption) ?_
  try simp only [Act.put, List.setIfInBounds_toArray, List.set_cons_zero, List.set_cons_succ]
  refine wpAnyH_take (i := 8) (oi := { dst := some 36, op := Op.load 46 (Operand.tmp 10), type := 46, pos := "konst.go:62", after := #[{ on := 4, ground := Ground.guard }], guard := some (4, false) }) (v := undef) rfl (by kernel_rfl) (by kernel_rfl) (by kernel_rfl) (fun _ _ _ h => h) (Or.inr ⟨by rfl, rfl⟩) (by assumption) ?_
  try simp only [Act.put, List.setIfInBounds_toArray, List.set_cons_zero, List.set_cons_succ]
  refine wpAnyH_take (i := 9) (oi := { dst := some 37, op := Op.binOp BinOp.neq 46 (Operand.tmp 35) (Operand.tmp 36) 46, type := 4, pos := "konst.go:62", after := #[{ on := 7, ground := Ground.data }, { on := 8, ground := Ground.data }, { on := 4, ground := Ground.guard }], guard := some (4, false) }) (v := undef) rfl (by kernel_rfl) (by kernel_rfl) (by kernel_rfl) (fun _ _ _ h => h) (Or.inr ⟨by rfl, rfl⟩) (by assumption) ?_
  try simp only [Act.put, List.setIfInBounds_toArray, List.set_cons_zero, List.set_cons_succ]
  refine wpAnyH_take (i := 10) (oi := { dst := some 38, op := Op.pick (Operand.tmp 32) (Operand.const (Value.bool true)) (Operand.tmp 37), type := 4, pos := "konst.go:62", after := #[{ on := 4, ground := Ground.data }, { on := 9, ground := Ground.data }], guard := none }) (v := ?_) rfl (by kernel_rfl) (by kernel_rfl) (by kernel_rfl) (fun _ _ _ h => h) (Or.inl ⟨by rfl, ?_⟩) (by assumption) ?_
  rotate_left
  · (intro wz hSw; (try dsimp only at hSw); go_simp; first | done | with_reducible rfl)
  try simp only [Act.put, List.setIfInBounds_toArray, List.set_cons_zero, List.set_cons_succ]
  refine wpAnyH_done (by kernel_rfl) ?_ _
  go_wp2_with fail
  go_returns
  exact ⟨rfl, (by (repeat (first | exact Kp.refl _ | refine kback (by assumption) ?_ | refine Kp.setCell ?_ (by first | omega | (simp; done) | (simp; omega)) _ | refine Kp.alloc ?_ _ _ | refine Kp.drewN ?_ _ | refine Kp.drew ?_)))⟩
set_option maxHeartbeats 1600000 in
theorem t_ng (k : Int) (b : Bool) (n : Int) (w : World) (hn : 0 ≤ n ∧ n < 18446744073709551616) (h : wh k = true) (hk : kc b n = true) (hi : iz k (wd b n) = true) (hg : (ng k (wd b n) == b) = false) :
    Calls Try.prog 18 #[.int .i64 k, .bool b, .int .u64 n] w fun e w' => e = .returned (.tuple #[.int .u64 0, .int .i64 10]) ∧ Kp w w' := by
  have he : e0 k = 0 := by simp [e0, h]
  have HW := Lib.hid (wd_r (b := b) hn)
  clear hn
  go_enter Try.func18, Try.ntmps18
  go_wp2_with (first | ((go_at_call 35; with_reducible refine (c_Signed _ _).mono ?_; rintro e w1 ⟨rfl, rfl⟩)) | ((go_at_call 21; with_reducible refine (c_sound b n _).mono ?_; rintro e w1 ⟨rfl, hk⟩; have hc00 := keepc hk (b := w.heap.size) (o := 0) (v := .bool b) (by first | assumption | (simp [go_sem]; done) | (simp [go_sem]; assumption)); have hc01 := keepc hk (b := w.heap.size) (o := 1) (v := .int .u64 n) (by first | assumption | (simp [go_sem]; done) | (simp [go_sem]; assumption)))) | ((go_at_call 40; with_reducible refine (c_wordOf b n _).mono ?_; rintro e w1 ⟨rfl, hk⟩; have hc00 := keepc hk (b := w.heap.size) (o := 0) (v := .bool b) (by first | assumption | (simp [go_sem]; done) | (simp [go_sem]; assumption)); have hc01 := keepc hk (b := w.heap.size) (o := 1) (v := .int .u64 n) (by first | assumption | (simp [go_sem]; done) | (simp [go_sem]; assumption)))))
  go_region_with (first | ((go_at_call 36; with_reducible refine (c_Is k (wd b n) _ HW.out).mono ?_; rintro e w1 ⟨rfl, hk⟩; have hc00 := keepc hk (b := w.heap.size) (o := 0) (v := .bool b) (by first | assumption | (simp [go_sem]; done) | (simp [go_sem]; assumption)); have hc01 := keepc hk (b := w.heap.size) (o := 1) (v := .int .u64 n) (by first | assumption | (simp [go_sem]; done) | (simp [go_sem]; assumption)))) | ((go_at_call 37; with_reducible refine (c_numberOf k (wd b n) _ HW.out).mono ?_; rintro e w1 ⟨rfl, hk⟩; have hc00 := keepc hk (b := w.heap.size) (o := 0) (v := .bool b) (by first | assumption | (simp [go_sem]; done) | (simp [go_sem]; assumption)); have hc01 := keepc hk (b := w.heap.size) (o := 1) (v := .int .u64 n) (by first | assumption | (simp [go_sem]; done) | (simp [go_sem]; assumption)))))
  all_goals (go_wp2_with fail; go_returns; exact ⟨rfl, (by (repeat (first | exact Kp.refl _ | refine kback (by assumption) ?_ | refine Kp.setCell ?_ (by first | omega | (simp; done) | (simp; omega)) _ | refine Kp.alloc ?_ _ _ | refine Kp.drewN ?_ _ | refine Kp.drew ?_)))⟩)
set_option maxHeartbeats 1600000 in
theorem t_sz (k : Int) (b : Bool) (n : Int) (w : World) (hn : 0 ≤ n ∧ n < 18446744073709551616) (h : wh k = true) (hk : kc b n = true) (hi : iz k (wd b n) = true) (hg : ng k (wd b n) = b) (hz : (sz k (wd b n) == n) = false) :
    Calls Try.prog 18 #[.int .i64 k, .bool b, .int .u64 n] w fun e w' => e = .returned (.tuple #[.int .u64 0, .int .i64 10]) ∧ Kp w w' := by
  have he : e0 k = 0 := by simp [e0, h]
  have HW := Lib.hid (wd_r (b := b) hn)
  clear hn
  go_enter Try.func18, Try.ntmps18
  go_wp2_with (first | ((go_at_call 35; with_reducible refine (c_Signed _ _).mono ?_; rintro e w1 ⟨rfl, rfl⟩)) | ((go_at_call 21; with_reducible refine (c_sound b n _).mono ?_; rintro e w1 ⟨rfl, hk⟩; have hc00 := keepc hk (b := w.heap.size) (o := 0) (v := .bool b) (by first | assumption | (simp [go_sem]; done) | (simp [go_sem]; assumption)); have hc01 := keepc hk (b := w.heap.size) (o := 1) (v := .int .u64 n) (by first | assumption | (simp [go_sem]; done) | (simp [go_sem]; assumption)))) | ((go_at_call 40; with_reducible refine (c_wordOf b n _).mono ?_; rintro e w1 ⟨rfl, hk⟩; have hc00 := keepc hk (b := w.heap.size) (o := 0) (v := .bool b) (by first | assumption | (simp [go_sem]; done) | (simp [go_sem]; assumption)); have hc01 := keepc hk (b := w.heap.size) (o := 1) (v := .int .u64 n) (by first | assumption | (simp [go_sem]; done) | (simp [go_sem]; assumption)))))
  go_region_with (first | ((go_at_call 36; with_reducible refine (c_Is k (wd b n) _ HW.out).mono ?_; rintro e w1 ⟨rfl, hk⟩; have hc00 := keepc hk (b := w.heap.size) (o := 0) (v := .bool b) (by first | assumption | (simp [go_sem]; done) | (simp [go_sem]; assumption)); have hc01 := keepc hk (b := w.heap.size) (o := 1) (v := .int .u64 n) (by first | assumption | (simp [go_sem]; done) | (simp [go_sem]; assumption)))) | ((go_at_call 37; with_reducible refine (c_numberOf k (wd b n) _ HW.out).mono ?_; rintro e w1 ⟨rfl, hk⟩; have hc00 := keepc hk (b := w.heap.size) (o := 0) (v := .bool b) (by first | assumption | (simp [go_sem]; done) | (simp [go_sem]; assumption)); have hc01 := keepc hk (b := w.heap.size) (o := 1) (v := .int .u64 n) (by first | assumption | (simp [go_sem]; done) | (simp [go_sem]; assumption)))))
  all_goals (go_wp2_with fail; go_returns; exact ⟨rfl, (by (repeat (first | exact Kp.refl _ | refine kback (by assumption) ?_ | refine Kp.setCell ?_ (by first | omega | (simp; done) | (simp; omega)) _ | refine Kp.alloc ?_ _ _ | refine Kp.drewN ?_ _ | refine Kp.drew ?_)))⟩)
set_option maxHeartbeats 1600000 in
theorem t_good (k : Int) (b : Bool) (n : Int) (w : World) (hn : 0 ≤ n ∧ n < 18446744073709551616) (h : wh k = true) (hk : kc b n = true) (hi : iz k (wd b n) = true) (hg : ng k (wd b n) = b) (hz : sz k (wd b n) = n) :
    Calls Try.prog 18 #[.int .i64 k, .bool b, .int .u64 n] w fun e w' => e = .returned (.tuple #[.int .u64 (wd b n), .int .i64 0]) ∧ Kp w w' := by
  have he : e0 k = 0 := by simp [e0, h]
  have HW := Lib.hid (wd_r (b := b) hn)
  clear hn
  go_enter Try.func18, Try.ntmps18
  go_wp2_with (first | ((go_at_call 35; with_reducible refine (c_Signed _ _).mono ?_; rintro e w1 ⟨rfl, rfl⟩)) | ((go_at_call 21; with_reducible refine (c_sound b n _).mono ?_; rintro e w1 ⟨rfl, hk⟩; have hc00 := keepc hk (b := w.heap.size) (o := 0) (v := .bool b) (by first | assumption | (simp [go_sem]; done) | (simp [go_sem]; assumption)); have hc01 := keepc hk (b := w.heap.size) (o := 1) (v := .int .u64 n) (by first | assumption | (simp [go_sem]; done) | (simp [go_sem]; assumption)))) | ((go_at_call 40; with_reducible refine (c_wordOf b n _).mono ?_; rintro e w1 ⟨rfl, hk⟩; have hc00 := keepc hk (b := w.heap.size) (o := 0) (v := .bool b) (by first | assumption | (simp [go_sem]; done) | (simp [go_sem]; assumption)); have hc01 := keepc hk (b := w.heap.size) (o := 1) (v := .int .u64 n) (by first | assumption | (simp [go_sem]; done) | (simp [go_sem]; assumption)))))
  go_region_with (first | ((go_at_call 36; with_reducible refine (c_Is k (wd b n) _ HW.out).mono ?_; rintro e w1 ⟨rfl, hk⟩; have hc00 := keepc hk (b := w.heap.size) (o := 0) (v := .bool b) (by first | assumption | (simp [go_sem]; done) | (simp [go_sem]; assumption)); have hc01 := keepc hk (b := w.heap.size) (o := 1) (v := .int .u64 n) (by first | assumption | (simp [go_sem]; done) | (simp [go_sem]; assumption)))) | ((go_at_call 37; with_reducible refine (c_numberOf k (wd b n) _ HW.out).mono ?_; rintro e w1 ⟨rfl, hk⟩; have hc00 := keepc hk (b := w.heap.size) (o := 0) (v := .bool b) (by first | assumption | (simp [go_sem]; done) | (simp [go_sem]; assumption)); have hc01 := keepc hk (b := w.heap.size) (o := 1) (v := .int .u64 n) (by first | assumption | (simp [go_sem]; done) | (simp [go_sem]; assumption)))))
  all_goals (go_wp2_with fail; go_returns; exact ⟨rfl, (by (repeat (first | exact Kp.refl _ | refine kback (by assumption) ?_ | refine Kp.setCell ?_ (by first | omega | (simp; done) | (simp; omega)) _ | refine Kp.alloc ?_ _ _ | refine Kp.drewN ?_ _ | refine Kp.drew ?_)))⟩)
end Go.Proofs.Ytihchlkoohficaa
