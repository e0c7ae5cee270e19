/- What told, sum, Below, Unary and Compare of the reference answer: the same as konst. Conditions: those each theorem names. -/
import Derived.Test.YtihchlkoohficaaK8
namespace Go.Proofs.Ytihchlkoohficaa
open Go.RowKit Plain
set_option linter.unusedVariables false
set_option linter.unusedSimpArgs false
/-- What the reference tells of a number. -/
def toldR (v : Int) : Ending := .returned (.tuple #[.agg #[.bool (rn v), .int .u64 (rs v)], .int .i64 (re v)])
theorem toldR_eq {u v : Int} (h : u = v ∨ (ft u = false ∧ ft v = false)) : toldR u = toldR v := by
  obtain ⟨h1, h2, h3⟩ := tell_same h
  unfold toldR; rw [h1, h2, h3]
theorem toldR_of {v : Int} {b : Bool} {n e : Int} (h : rn v = b ∧ rs v = n ∧ re v = e) : toldR v = .returned (.tuple #[.agg #[.bool b, .int .u64 n], .int .i64 e]) := by
  unfold toldR; rw [h.1, h.2.1, h.2.2]
set_option maxHeartbeats 1600000 in
theorem c_told (b over : Bool) (n : Int) (w : World) (hn : 0 ≤ n ∧ n < 18446744073709551616) : Calls Try.prog 27 #[.agg #[.bool b, .int .u64 n], .bool over] w fun e w' => e = toldR (tv b n (!over)) ∧ Kp w w' := by
  have HN0 := Lib.hid hn.1
  cases over with
  | true =>
    cases b with
    | false =>
      rw [Bool.not_true, toldR_of (tv_no _ _)]
      clear hn
      go_enter Try.func27, Try.ntmps27
      go_wp2_with fail
      go_returns
      exact ⟨rfl, (by (repeat (first | exact Kp.refl _ | refine kback (by assumption) ?_ | refine Kp.setCell ?_ (by first | omega | (simp; done) | (simp; omega)) _ | refine Kp.alloc ?_ _ _ | refine Kp.drewN ?_ _ | refine Kp.drew ?_)))⟩
    | true =>
      by_cases h1 : 0 < n
      · rw [Bool.not_true, toldR_of (tv_no _ _)]
        clear hn
        go_enter Try.func27, Try.ntmps27
        go_wp2_with fail
        go_returns
        exact ⟨rfl, (by (repeat (first | exact Kp.refl _ | refine kback (by assumption) ?_ | refine Kp.setCell ?_ (by first | omega | (simp; done) | (simp; omega)) _ | refine Kp.alloc ?_ _ _ | refine Kp.drewN ?_ _ | refine Kp.drew ?_)))⟩
      · rw [Bool.not_true, toldR_of (tv_no _ _)]
        clear hn
        go_enter Try.func27, Try.ntmps27
        go_wp2_with fail
        go_returns
        exact ⟨rfl, (by (repeat (first | exact Kp.refl _ | refine kback (by assumption) ?_ | refine Kp.setCell ?_ (by first | omega | (simp; done) | (simp; omega)) _ | refine Kp.alloc ?_ _ _ | refine Kp.drewN ?_ _ | refine Kp.drew ?_)))⟩
  | false =>
    cases b with
    | false =>
      have k : kc false n = true := rfl
      rw [Bool.not_false, toldR_of (tv_pos hn)]
      clear hn
      go_enter Try.func27, Try.ntmps27
      go_wp2_with ((go_at_call 19; with_reducible refine (c_Const _ _ _ HN0.out).mono ?_; rintro e w1 ⟨rfl, hk⟩; have hc00 := keepc hk (b := w.heap.size) (o := 0) (v := .bool false) (by first | assumption | (simp [go_sem]; done) | (simp [go_sem]; assumption)); have hc01 := keepc hk (b := w.heap.size) (o := 1) (v := .int .u64 n) (by first | assumption | (simp [go_sem]; done) | (simp [go_sem]; assumption)); have hf00 : w1.frozen? ⟨w.heap.size, 0, none⟩ = false := (by rw [hk.frozen]; first | assumption | (simp [go_sem]; done) | (simp [go_sem]; assumption)); have hf01 : w1.frozen? ⟨w.heap.size, 1, none⟩ = false := (by rw [hk.frozen]; first | assumption | (simp [go_sem]; done) | (simp [go_sem]; assumption)); have hc10 := keepc hk (b := w.heap.size + 1) (o := 0) (v := .bool false) (by first | assumption | (simp [go_sem]; done) | (simp [go_sem]; assumption)); have hc11 := keepc hk (b := w.heap.size + 1) (o := 1) (v := .int .u64 0) (by first | assumption | (simp [go_sem]; done) | (simp [go_sem]; assumption)); have hf10 : w1.frozen? ⟨w.heap.size + 1, 0, none⟩ = false := (by rw [hk.frozen]; first | assumption | (simp [go_sem]; done) | (simp [go_sem]; assumption)); have hf11 : w1.frozen? ⟨w.heap.size + 1, 1, none⟩ = false := (by rw [hk.frozen]; first | assumption | (simp [go_sem]; done) | (simp [go_sem]; assumption))))
      refine bodyPost_ret (by simp [results, Try.results27, go_sem, hc00, hc01, hc10, hc11]; try rfl) rfl ?_
      exact ⟨rfl, (by (repeat (first | exact Kp.refl _ | refine kback (by assumption) ?_ | refine Kp.setCell ?_ (by first | omega | (simp; done) | (simp; omega)) _ | refine Kp.alloc ?_ _ _ | refine Kp.drewN ?_ _ | refine Kp.drew ?_)))⟩
    | true =>
      by_cases h0 : 0 < n
      · by_cases h1 : n ≤ 9223372036854775808
        · have k : kc true n = true := by simp [kc]; omega
          rw [Bool.not_false, toldR_of (tv_neg (n := n) (by omega))]
          clear hn
          go_enter Try.func27, Try.ntmps27
          go_wp2_with ((go_at_call 19; with_reducible refine (c_Const _ _ _ HN0.out).mono ?_; rintro e w1 ⟨rfl, hk⟩; have hc00 := keepc hk (b := w.heap.size) (o := 0) (v := .bool true) (by first | assumption | (simp [go_sem]; done) | (simp [go_sem]; assumption)); have hc01 := keepc hk (b := w.heap.size) (o := 1) (v := .int .u64 n) (by first | assumption | (simp [go_sem]; done) | (simp [go_sem]; assumption)); have hf00 : w1.frozen? ⟨w.heap.size, 0, none⟩ = false := (by rw [hk.frozen]; first | assumption | (simp [go_sem]; done) | (simp [go_sem]; assumption)); have hf01 : w1.frozen? ⟨w.heap.size, 1, none⟩ = false := (by rw [hk.frozen]; first | assumption | (simp [go_sem]; done) | (simp [go_sem]; assumption)); have hc10 := keepc hk (b := w.heap.size + 1) (o := 0) (v := .bool false) (by first | assumption | (simp [go_sem]; done) | (simp [go_sem]; assumption)); have hc11 := keepc hk (b := w.heap.size + 1) (o := 1) (v := .int .u64 0) (by first | assumption | (simp [go_sem]; done) | (simp [go_sem]; assumption)); have hf10 : w1.frozen? ⟨w.heap.size + 1, 0, none⟩ = false := (by rw [hk.frozen]; first | assumption | (simp [go_sem]; done) | (simp [go_sem]; assumption)); have hf11 : w1.frozen? ⟨w.heap.size + 1, 1, none⟩ = false := (by rw [hk.frozen]; first | assumption | (simp [go_sem]; done) | (simp [go_sem]; assumption))))
          refine bodyPost_ret (by simp [results, Try.results27, go_sem, hc00, hc01, hc10, hc11]; try rfl) rfl ?_
          exact ⟨rfl, (by (repeat (first | exact Kp.refl _ | refine kback (by assumption) ?_ | refine Kp.setCell ?_ (by first | omega | (simp; done) | (simp; omega)) _ | refine Kp.alloc ?_ _ _ | refine Kp.drewN ?_ _ | refine Kp.drew ?_)))⟩
        · have k : kc true n = false := by simp [kc]; omega
          rw [Bool.not_false, toldR_of (tv_low (n := n) (by omega))]
          clear hn
          go_enter Try.func27, Try.ntmps27
          go_wp2_with ((go_at_call 19; with_reducible refine (c_Const _ _ _ HN0.out).mono ?_; rintro e w1 ⟨rfl, hk⟩; have hc00 := keepc hk (b := w.heap.size) (o := 0) (v := .bool true) (by first | assumption | (simp [go_sem]; done) | (simp [go_sem]; assumption)); have hc01 := keepc hk (b := w.heap.size) (o := 1) (v := .int .u64 n) (by first | assumption | (simp [go_sem]; done) | (simp [go_sem]; assumption)); have hf00 : w1.frozen? ⟨w.heap.size, 0, none⟩ = false := (by rw [hk.frozen]; first | assumption | (simp [go_sem]; done) | (simp [go_sem]; assumption)); have hf01 : w1.frozen? ⟨w.heap.size, 1, none⟩ = false := (by rw [hk.frozen]; first | assumption | (simp [go_sem]; done) | (simp [go_sem]; assumption)); have hc10 := keepc hk (b := w.heap.size + 1) (o := 0) (v := .bool false) (by first | assumption | (simp [go_sem]; done) | (simp [go_sem]; assumption)); have hc11 := keepc hk (b := w.heap.size + 1) (o := 1) (v := .int .u64 0) (by first | assumption | (simp [go_sem]; done) | (simp [go_sem]; assumption)); have hf10 : w1.frozen? ⟨w.heap.size + 1, 0, none⟩ = false := (by rw [hk.frozen]; first | assumption | (simp [go_sem]; done) | (simp [go_sem]; assumption)); have hf11 : w1.frozen? ⟨w.heap.size + 1, 1, none⟩ = false := (by rw [hk.frozen]; first | assumption | (simp [go_sem]; done) | (simp [go_sem]; assumption))))
          refine bodyPost_ret (by simp [results, Try.results27, go_sem, hc10, hc11]; try rfl) rfl ?_
          exact ⟨rfl, (by (repeat (first | exact Kp.refl _ | refine kback (by assumption) ?_ | refine Kp.setCell ?_ (by first | omega | (simp; done) | (simp; omega)) _ | refine Kp.alloc ?_ _ _ | refine Kp.drewN ?_ _ | refine Kp.drew ?_)))⟩
      · obtain rfl : n = 0 := by omega
        have k : kc false 0 = true := rfl
        rw [Bool.not_false, toldR_of (tv_zero)]
        clear hn
        go_enter Try.func27, Try.ntmps27
        go_wp2_with ((go_at_call 19; with_reducible refine (c_Const _ _ _ HN0.out).mono ?_; rintro e w1 ⟨rfl, hk⟩; have hc00 := keepc hk (b := w.heap.size) (o := 0) (v := .bool false) (by first | assumption | (simp [go_sem]; done) | (simp [go_sem]; assumption)); have hc01 := keepc hk (b := w.heap.size) (o := 1) (v := .int .u64 0) (by first | assumption | (simp [go_sem]; done) | (simp [go_sem]; assumption)); have hf00 : w1.frozen? ⟨w.heap.size, 0, none⟩ = false := (by rw [hk.frozen]; first | assumption | (simp [go_sem]; done) | (simp [go_sem]; assumption)); have hf01 : w1.frozen? ⟨w.heap.size, 1, none⟩ = false := (by rw [hk.frozen]; first | assumption | (simp [go_sem]; done) | (simp [go_sem]; assumption)); have hc10 := keepc hk (b := w.heap.size + 1) (o := 0) (v := .bool false) (by first | assumption | (simp [go_sem]; done) | (simp [go_sem]; assumption)); have hc11 := keepc hk (b := w.heap.size + 1) (o := 1) (v := .int .u64 0) (by first | assumption | (simp [go_sem]; done) | (simp [go_sem]; assumption)); have hf10 : w1.frozen? ⟨w.heap.size + 1, 0, none⟩ = false := (by rw [hk.frozen]; first | assumption | (simp [go_sem]; done) | (simp [go_sem]; assumption)); have hf11 : w1.frozen? ⟨w.heap.size + 1, 1, none⟩ = false := (by rw [hk.frozen]; first | assumption | (simp [go_sem]; done) | (simp [go_sem]; assumption))))
        refine bodyPost_ret (by simp [results, Try.results27, go_sem, hc00, hc01, hc10, hc11]; try rfl) rfl ?_
        exact ⟨rfl, (by (repeat (first | exact Kp.refl _ | refine kback (by assumption) ?_ | refine Kp.setCell ?_ (by first | omega | (simp; done) | (simp; omega)) _ | refine Kp.alloc ?_ _ _ | refine Kp.drewN ?_ _ | refine Kp.drew ?_)))⟩
theorem c_toldX (b over : Bool) (n : Int) (w : World) (hn : 0 ≤ n ∧ n < 18446744073709551616) : Calls Try.prog 27 #[.agg #[.bool b, .int .u64 n], .bool over] w fun e w' => e = .returned (.tuple #[.agg #[.bool (rn (tv b n (!over))), .int .u64 (rs (tv b n (!over)))], .int .i64 (re (tv b n (!over)))]) ∧ Kp w w' := c_told b over n w hn
theorem sum_v {a : Bool} {m n : Int} (hm : 0 ≤ m ∧ m < 18446744073709551616) (hn : 0 ≤ n ∧ n < 18446744073709551616) : tv a (IntKind.u64.wrap (m + n)) (!decide (IntKind.u64.wrap (m + n) < m)) = vl a m + vl a n ∨ (ft (tv a (IntKind.u64.wrap (m + n)) (!decide (IntKind.u64.wrap (m + n) < m))) = false ∧ ft (vl a m + vl a n) = false) := by
  rw [IntKind.wrap_u64]
  by_cases h : m + n < 18446744073709551616
  · left
    have e1 : (m + n) % 18446744073709551616 = m + n := by omega
    have e2 : decide (m + n < m) = false := by simp; omega
    rw [e1, e2]; cases a <;> simp [tv, vl]; omega
  · right
    have e2 : decide ((m + n) % 18446744073709551616 < m) = true := by simp; omega
    rw [e2]
    refine ⟨ft_tvno _ _, ?_⟩
    have : vl a m + vl a n = vl a (m + n) := by cases a <;> simp [vl]; omega
    rw [this]; exact ft_big (by omega)
set_option maxHeartbeats 1600000 in
theorem s_same_false (m n : Int) (w : World) (hm : 0 ≤ m ∧ m < 18446744073709551616) (hn : 0 ≤ n ∧ n < 18446744073709551616) : Calls Try.prog 26 #[.agg #[.bool false, .int .u64 m], .agg #[.bool false, .int .u64 n]] w fun e w' => e = toldR (tv false (IntKind.u64.wrap (m + n)) (!(decide (IntKind.u64.wrap (m + n) < m)))) ∧ Kp w w' := by
  have HM := Lib.hid hm
  have HN := Lib.hid hn
  clear hm hn
  go_enter Try.func26, Try.ntmps26
  go_wp2_with ((go_at_call 27; with_reducible refine (c_toldX false (decide (IntKind.u64.wrap (m + n) < m)) (IntKind.u64.wrap (m + n)) _ (u64_r _)).mono ?_; rintro e w1 ⟨rfl, hk⟩; have hc20 := keepc hk (b := w.heap.size + 1 + 1) (o := 0) (v := .bool false) (by first | assumption | (simp [go_sem]; done) | (simp [go_sem]; assumption)); have hc21 := keepc hk (b := w.heap.size + 1 + 1) (o := 1) (v := .int .u64 0) (by first | assumption | (simp [go_sem]; done) | (simp [go_sem]; assumption)); have hf20 : w1.frozen? ⟨w.heap.size + 1 + 1, 0, none⟩ = false := (by rw [hk.frozen]; first | assumption | (simp [go_sem]; done) | (simp [go_sem]; assumption)); have hf21 : w1.frozen? ⟨w.heap.size + 1 + 1, 1, none⟩ = false := (by rw [hk.frozen]; first | assumption | (simp [go_sem]; done) | (simp [go_sem]; assumption))))
  refine bodyPost_ret (by simp [results, Try.results26, go_sem, hc20, hc21]; try rfl) rfl ?_
  exact ⟨rfl, (by (repeat (first | exact Kp.refl _ | refine kback (by assumption) ?_ | refine Kp.setCell ?_ (by first | omega | (simp; done) | (simp; omega)) _ | refine Kp.alloc ?_ _ _ | refine Kp.drewN ?_ _ | refine Kp.drew ?_)))⟩
set_option maxHeartbeats 1600000 in
theorem s_more_false (m n : Int) (w : World) (hm : 0 ≤ m ∧ m < 18446744073709551616) (hn : 0 ≤ n ∧ n < 18446744073709551616) (hl : n ≤ m) : Calls Try.prog 26 #[.agg #[.bool false, .int .u64 m], .agg #[.bool true, .int .u64 n]] w fun e w' => e = toldR (tv false (m - n) (!false)) ∧ Kp w w' := by
  have HM := Lib.hid hm
  have HN := Lib.hid hn
  have hw : IntKind.u64.wrap (m - n) = m - n := u64_id (by omega)
  have HR := Lib.hid (show 0 ≤ m - n ∧ m - n < 18446744073709551616 by omega)
  clear hm hn
  go_enter Try.func26, Try.ntmps26
  go_wp2_with ((go_at_call 27; with_reducible refine (c_toldX false false (m - n) _ HR.out).mono ?_; rintro e w1 ⟨rfl, hk⟩; have hc20 := keepc hk (b := w.heap.size + 1 + 1) (o := 0) (v := .bool false) (by first | assumption | (simp [go_sem]; done) | (simp [go_sem]; assumption)); have hc21 := keepc hk (b := w.heap.size + 1 + 1) (o := 1) (v := .int .u64 0) (by first | assumption | (simp [go_sem]; done) | (simp [go_sem]; assumption)); have hf20 : w1.frozen? ⟨w.heap.size + 1 + 1, 0, none⟩ = false := (by rw [hk.frozen]; first | assumption | (simp [go_sem]; done) | (simp [go_sem]; assumption)); have hf21 : w1.frozen? ⟨w.heap.size + 1 + 1, 1, none⟩ = false := (by rw [hk.frozen]; first | assumption | (simp [go_sem]; done) | (simp [go_sem]; assumption))))
  refine bodyPost_ret (by simp [results, Try.results26, go_sem, hc20, hc21]; try rfl) rfl ?_
  exact ⟨rfl, (by (repeat (first | exact Kp.refl _ | refine kback (by assumption) ?_ | refine Kp.setCell ?_ (by first | omega | (simp; done) | (simp; omega)) _ | refine Kp.alloc ?_ _ _ | refine Kp.drewN ?_ _ | refine Kp.drew ?_)))⟩
set_option maxHeartbeats 1600000 in
theorem s_less_false (m n : Int) (w : World) (hm : 0 ≤ m ∧ m < 18446744073709551616) (hn : 0 ≤ n ∧ n < 18446744073709551616) (hl : m < n) : Calls Try.prog 26 #[.agg #[.bool false, .int .u64 m], .agg #[.bool true, .int .u64 n]] w fun e w' => e = toldR (tv true (n - m) (!false)) ∧ Kp w w' := by
  have HM := Lib.hid hm
  have HN := Lib.hid hn
  have hw : IntKind.u64.wrap (n - m) = n - m := u64_id (by omega)
  have HR := Lib.hid (show 0 ≤ n - m ∧ n - m < 18446744073709551616 by omega)
  clear hm hn
  go_enter Try.func26, Try.ntmps26
  go_wp2_with ((go_at_call 27; with_reducible refine (c_toldX true false (n - m) _ HR.out).mono ?_; rintro e w1 ⟨rfl, hk⟩; have hc20 := keepc hk (b := w.heap.size + 1 + 1) (o := 0) (v := .bool false) (by first | assumption | (simp [go_sem]; done) | (simp [go_sem]; assumption)); have hc21 := keepc hk (b := w.heap.size + 1 + 1) (o := 1) (v := .int .u64 0) (by first | assumption | (simp [go_sem]; done) | (simp [go_sem]; assumption)); have hf20 : w1.frozen? ⟨w.heap.size + 1 + 1, 0, none⟩ = false := (by rw [hk.frozen]; first | assumption | (simp [go_sem]; done) | (simp [go_sem]; assumption)); have hf21 : w1.frozen? ⟨w.heap.size + 1 + 1, 1, none⟩ = false := (by rw [hk.frozen]; first | assumption | (simp [go_sem]; done) | (simp [go_sem]; assumption))))
  refine bodyPost_ret (by simp [results, Try.results26, go_sem, hc20, hc21]; try rfl) rfl ?_
  exact ⟨rfl, (by (repeat (first | exact Kp.refl _ | refine kback (by assumption) ?_ | refine Kp.setCell ?_ (by first | omega | (simp; done) | (simp; omega)) _ | refine Kp.alloc ?_ _ _ | refine Kp.drewN ?_ _ | refine Kp.drew ?_)))⟩
set_option maxHeartbeats 1600000 in
theorem s_same_true (m n : Int) (w : World) (hm : 0 ≤ m ∧ m < 18446744073709551616) (hn : 0 ≤ n ∧ n < 18446744073709551616) : Calls Try.prog 26 #[.agg #[.bool true, .int .u64 m], .agg #[.bool true, .int .u64 n]] w fun e w' => e = toldR (tv true (IntKind.u64.wrap (m + n)) (!(decide (IntKind.u64.wrap (m + n) < m)))) ∧ Kp w w' := by
  have HM := Lib.hid hm
  have HN := Lib.hid hn
  clear hm hn
  go_enter Try.func26, Try.ntmps26
  go_wp2_with ((go_at_call 27; with_reducible refine (c_toldX true (decide (IntKind.u64.wrap (m + n) < m)) (IntKind.u64.wrap (m + n)) _ (u64_r _)).mono ?_; rintro e w1 ⟨rfl, hk⟩; have hc20 := keepc hk (b := w.heap.size + 1 + 1) (o := 0) (v := .bool false) (by first | assumption | (simp [go_sem]; done) | (simp [go_sem]; assumption)); have hc21 := keepc hk (b := w.heap.size + 1 + 1) (o := 1) (v := .int .u64 0) (by first | assumption | (simp [go_sem]; done) | (simp [go_sem]; assumption)); have hf20 : w1.frozen? ⟨w.heap.size + 1 + 1, 0, none⟩ = false := (by rw [hk.frozen]; first | assumption | (simp [go_sem]; done) | (simp [go_sem]; assumption)); have hf21 : w1.frozen? ⟨w.heap.size + 1 + 1, 1, none⟩ = false := (by rw [hk.frozen]; first | assumption | (simp [go_sem]; done) | (simp [go_sem]; assumption))))
  refine bodyPost_ret (by simp [results, Try.results26, go_sem, hc20, hc21]; try rfl) rfl ?_
  exact ⟨rfl, (by (repeat (first | exact Kp.refl _ | refine kback (by assumption) ?_ | refine Kp.setCell ?_ (by first | omega | (simp; done) | (simp; omega)) _ | refine Kp.alloc ?_ _ _ | refine Kp.drewN ?_ _ | refine Kp.drew ?_)))⟩
set_option maxHeartbeats 1600000 in
theorem s_more_true (m n : Int) (w : World) (hm : 0 ≤ m ∧ m < 18446744073709551616) (hn : 0 ≤ n ∧ n < 18446744073709551616) (hl : n ≤ m) : Calls Try.prog 26 #[.agg #[.bool true, .int .u64 m], .agg #[.bool false, .int .u64 n]] w fun e w' => e = toldR (tv true (m - n) (!false)) ∧ Kp w w' := by
  have HM := Lib.hid hm
  have HN := Lib.hid hn
  have hw : IntKind.u64.wrap (m - n) = m - n := u64_id (by omega)
  have HR := Lib.hid (show 0 ≤ m - n ∧ m - n < 18446744073709551616 by omega)
  clear hm hn
  go_enter Try.func26, Try.ntmps26
  go_wp2_with ((go_at_call 27; with_reducible refine (c_toldX true false (m - n) _ HR.out).mono ?_; rintro e w1 ⟨rfl, hk⟩; have hc20 := keepc hk (b := w.heap.size + 1 + 1) (o := 0) (v := .bool false) (by first | assumption | (simp [go_sem]; done) | (simp [go_sem]; assumption)); have hc21 := keepc hk (b := w.heap.size + 1 + 1) (o := 1) (v := .int .u64 0) (by first | assumption | (simp [go_sem]; done) | (simp [go_sem]; assumption)); have hf20 : w1.frozen? ⟨w.heap.size + 1 + 1, 0, none⟩ = false := (by rw [hk.frozen]; first | assumption | (simp [go_sem]; done) | (simp [go_sem]; assumption)); have hf21 : w1.frozen? ⟨w.heap.size + 1 + 1, 1, none⟩ = false := (by rw [hk.frozen]; first | assumption | (simp [go_sem]; done) | (simp [go_sem]; assumption))))
  refine bodyPost_ret (by simp [results, Try.results26, go_sem, hc20, hc21]; try rfl) rfl ?_
  exact ⟨rfl, (by (repeat (first | exact Kp.refl _ | refine kback (by assumption) ?_ | refine Kp.setCell ?_ (by first | omega | (simp; done) | (simp; omega)) _ | refine Kp.alloc ?_ _ _ | refine Kp.drewN ?_ _ | refine Kp.drew ?_)))⟩
set_option maxHeartbeats 1600000 in
theorem s_less_true (m n : Int) (w : World) (hm : 0 ≤ m ∧ m < 18446744073709551616) (hn : 0 ≤ n ∧ n < 18446744073709551616) (hl : m < n) : Calls Try.prog 26 #[.agg #[.bool true, .int .u64 m], .agg #[.bool false, .int .u64 n]] w fun e w' => e = toldR (tv false (n - m) (!false)) ∧ Kp w w' := by
  have HM := Lib.hid hm
  have HN := Lib.hid hn
  have hw : IntKind.u64.wrap (n - m) = n - m := u64_id (by omega)
  have HR := Lib.hid (show 0 ≤ n - m ∧ n - m < 18446744073709551616 by omega)
  clear hm hn
  go_enter Try.func26, Try.ntmps26
  go_wp2_with ((go_at_call 27; with_reducible refine (c_toldX false false (n - m) _ HR.out).mono ?_; rintro e w1 ⟨rfl, hk⟩; have hc20 := keepc hk (b := w.heap.size + 1 + 1) (o := 0) (v := .bool false) (by first | assumption | (simp [go_sem]; done) | (simp [go_sem]; assumption)); have hc21 := keepc hk (b := w.heap.size + 1 + 1) (o := 1) (v := .int .u64 0) (by first | assumption | (simp [go_sem]; done) | (simp [go_sem]; assumption)); have hf20 : w1.frozen? ⟨w.heap.size + 1 + 1, 0, none⟩ = false := (by rw [hk.frozen]; first | assumption | (simp [go_sem]; done) | (simp [go_sem]; assumption)); have hf21 : w1.frozen? ⟨w.heap.size + 1 + 1, 1, none⟩ = false := (by rw [hk.frozen]; first | assumption | (simp [go_sem]; done) | (simp [go_sem]; assumption))))
  refine bodyPost_ret (by simp [results, Try.results26, go_sem, hc20, hc21]; try rfl) rfl ?_
  exact ⟨rfl, (by (repeat (first | exact Kp.refl _ | refine kback (by assumption) ?_ | refine Kp.setCell ?_ (by first | omega | (simp; done) | (simp; omega)) _ | refine Kp.alloc ?_ _ _ | refine Kp.drewN ?_ _ | refine Kp.drew ?_)))⟩
theorem c_sum (a : Bool) (m : Int) (b : Bool) (n : Int) (w : World) (hm : 0 ≤ m ∧ m < 18446744073709551616) (hn : 0 ≤ n ∧ n < 18446744073709551616) : Calls Try.prog 26 #[.agg #[.bool a, .int .u64 m], .agg #[.bool b, .int .u64 n]] w fun e w' => e = .returned (.tuple #[.agg #[.bool (rn (vl a m + vl b n)), .int .u64 (rs (vl a m + vl b n))], .int .i64 (re (vl a m + vl b n))]) ∧ Kp w w' := by
  have main : Calls Try.prog 26 #[.agg #[.bool a, .int .u64 m], .agg #[.bool b, .int .u64 n]] w fun e w' => e = toldR (vl a m + vl b n) ∧ Kp w w' := by
    cases a <;> cases b
    · exact (s_same_false m n w hm hn).mono fun e w' q => ⟨q.1.trans (toldR_eq (sum_v hm hn)), q.2⟩
    · by_cases h : n ≤ m
      · exact (s_more_false m n w hm hn h).mono fun e w' q => ⟨q.1.trans (toldR_eq (Or.inl (by simp [tv, vl]; omega))), q.2⟩
      · exact (s_less_false m n w hm hn (by omega)).mono fun e w' q => ⟨q.1.trans (toldR_eq (Or.inl (by simp [tv, vl]; omega))), q.2⟩
    · by_cases h : n ≤ m
      · exact (s_more_true m n w hm hn h).mono fun e w' q => ⟨q.1.trans (toldR_eq (Or.inl (by simp [tv, vl]; omega))), q.2⟩
      · exact (s_less_true m n w hm hn (by omega)).mono fun e w' q => ⟨q.1.trans (toldR_eq (Or.inl (by simp [tv, vl]; omega))), q.2⟩
    · exact (s_same_true m n w hm hn).mono fun e w' q => ⟨q.1.trans (toldR_eq (sum_v hm hn)), q.2⟩
  exact main
theorem c_Below (a : Bool) (m : Int) (b : Bool) (n : Int) (w : World) : Calls Try.prog 34 #[.agg #[.bool a, .int .u64 m], .agg #[.bool b, .int .u64 n]] w fun e w' => e = .returned (.bool (lsB a m b n)) ∧ Kp w w' := by
  cases a <;> cases b <;> simp only [lsB, bne_self_eq_false, Bool.false_eq_true, if_false, if_true, Bool.true_bne, Bool.false_bne, Bool.not_false]
  all_goals
    go_enter Try.func34, Try.ntmps34
    go_wp2_with fail
    go_ret
    exact ⟨rfl, (by (repeat (first | exact Kp.refl _ | refine kback (by assumption) ?_ | refine Kp.setCell ?_ (by first | omega | (simp; done) | (simp; omega)) _ | refine Kp.alloc ?_ _ _ | refine Kp.drewN ?_ _ | refine Kp.drew ?_)))⟩
set_option maxHeartbeats 1600000 in
theorem ru_noop (op : ByteArray) (a : Bool) (m : Int) (w : World) (hm : 0 ≤ m ∧ m < 18446744073709551616) (x0 : (op.toList == [45]) = false) (x1 : (op.toList == [94]) = false) (y0 : (op.toList != [45]) = true) (y1 : (op.toList != [94]) = true) : Calls Try.prog 13 #[.string op, .agg #[.bool a, .int .u64 m]] w fun e w' => e = .returned (.tuple #[.agg #[.bool false, .int .u64 0], .int .i64 2]) ∧ Kp w w' := by
  have HM := Lib.hid hm
  clear hm
  go_enter Try.func13, Try.ntmps13
  go_wp2_with (first | fail)
  go_returns
  exact ⟨rfl, (by (repeat (first | exact Kp.refl _ | refine kback (by assumption) ?_ | refine Kp.setCell ?_ (by first | omega | (simp; done) | (simp; omega)) _ | refine Kp.alloc ?_ _ _ | refine Kp.drewN ?_ _ | refine Kp.drew ?_)))⟩
set_option maxHeartbeats 1600000 in
theorem ru_bad_m (a : Bool) (m : Int) (w : World) (hm : 0 ≤ m ∧ m < 18446744073709551616) (ka : kc a m = false) : Calls Try.prog 13 #[.string ⟨#[45]⟩, .agg #[.bool a, .int .u64 m]] w fun e w' => e = .returned (.tuple #[.agg #[.bool false, .int .u64 0], .int .i64 1]) ∧ Kp w w' := by
  have HM := Lib.hid hm
  clear hm
  go_enter Try.func13, Try.ntmps13
  go_wp2_with (first | ((go_at_call 19; with_reducible refine (c_Const a m _ HM.out.1).mono ?_; rintro e w1 ⟨rfl, hk⟩; have hc00 := keepc hk (b := w.heap.size) (o := 0) (v := .bool a) (by first | assumption | (simp [go_sem]; done) | (simp [go_sem]; assumption)); have hc01 := keepc hk (b := w.heap.size) (o := 1) (v := .int .u64 m) (by first | assumption | (simp [go_sem]; done) | (simp [go_sem]; assumption)); have hf00 : w1.frozen? ⟨w.heap.size, 0, none⟩ = false := (by rw [hk.frozen]; first | assumption | (simp [go_sem]; done) | (simp [go_sem]; assumption)); have hf01 : w1.frozen? ⟨w.heap.size, 1, none⟩ = false := (by rw [hk.frozen]; first | assumption | (simp [go_sem]; done) | (simp [go_sem]; assumption)); have hc10 := keepc hk (b := w.heap.size + 1) (o := 0) (v := .bool false) (by first | assumption | (simp [go_sem]; done) | (simp [go_sem]; assumption)); have hc11 := keepc hk (b := w.heap.size + 1) (o := 1) (v := .int .u64 0) (by first | assumption | (simp [go_sem]; done) | (simp [go_sem]; assumption)); have hf10 : w1.frozen? ⟨w.heap.size + 1, 0, none⟩ = false := (by rw [hk.frozen]; first | assumption | (simp [go_sem]; done) | (simp [go_sem]; assumption)); have hf11 : w1.frozen? ⟨w.heap.size + 1, 1, none⟩ = false := (by rw [hk.frozen]; first | assumption | (simp [go_sem]; done) | (simp [go_sem]; assumption)))))
  refine bodyPost_ret (by simp [results, Try.results13, go_sem, hc10, hc11]; try rfl) rfl ?_
  exact ⟨rfl, (by (repeat (first | exact Kp.refl _ | refine kback (by assumption) ?_ | refine Kp.setCell ?_ (by first | omega | (simp; done) | (simp; omega)) _ | refine Kp.alloc ?_ _ _ | refine Kp.drewN ?_ _ | refine Kp.drew ?_)))⟩
set_option maxHeartbeats 1600000 in
theorem ru_bad_x (a : Bool) (m : Int) (w : World) (hm : 0 ≤ m ∧ m < 18446744073709551616) (ka : kc a m = false) : Calls Try.prog 13 #[.string ⟨#[94]⟩, .agg #[.bool a, .int .u64 m]] w fun e w' => e = .returned (.tuple #[.agg #[.bool false, .int .u64 0], .int .i64 1]) ∧ Kp w w' := by
  have HM := Lib.hid hm
  clear hm
  go_enter Try.func13, Try.ntmps13
  go_wp2_with (first | ((go_at_call 19; with_reducible refine (c_Const a m _ HM.out.1).mono ?_; rintro e w1 ⟨rfl, hk⟩; have hc00 := keepc hk (b := w.heap.size) (o := 0) (v := .bool a) (by first | assumption | (simp [go_sem]; done) | (simp [go_sem]; assumption)); have hc01 := keepc hk (b := w.heap.size) (o := 1) (v := .int .u64 m) (by first | assumption | (simp [go_sem]; done) | (simp [go_sem]; assumption)); have hf00 : w1.frozen? ⟨w.heap.size, 0, none⟩ = false := (by rw [hk.frozen]; first | assumption | (simp [go_sem]; done) | (simp [go_sem]; assumption)); have hf01 : w1.frozen? ⟨w.heap.size, 1, none⟩ = false := (by rw [hk.frozen]; first | assumption | (simp [go_sem]; done) | (simp [go_sem]; assumption)); have hc10 := keepc hk (b := w.heap.size + 1) (o := 0) (v := .bool false) (by first | assumption | (simp [go_sem]; done) | (simp [go_sem]; assumption)); have hc11 := keepc hk (b := w.heap.size + 1) (o := 1) (v := .int .u64 0) (by first | assumption | (simp [go_sem]; done) | (simp [go_sem]; assumption)); have hf10 : w1.frozen? ⟨w.heap.size + 1, 0, none⟩ = false := (by rw [hk.frozen]; first | assumption | (simp [go_sem]; done) | (simp [go_sem]; assumption)); have hf11 : w1.frozen? ⟨w.heap.size + 1, 1, none⟩ = false := (by rw [hk.frozen]; first | assumption | (simp [go_sem]; done) | (simp [go_sem]; assumption)))))
  refine bodyPost_ret (by simp [results, Try.results13, go_sem, hc10, hc11]; try rfl) rfl ?_
  exact ⟨rfl, (by (repeat (first | exact Kp.refl _ | refine kback (by assumption) ?_ | refine Kp.setCell ?_ (by first | omega | (simp; done) | (simp; omega)) _ | refine Kp.alloc ?_ _ _ | refine Kp.drewN ?_ _ | refine Kp.drew ?_)))⟩
set_option maxHeartbeats 1600000 in
theorem ru_minus (a : Bool) (m : Int) (w : World) (hm : 0 ≤ m ∧ m < 18446744073709551616) (ka : kc a m = true) : Calls Try.prog 13 #[.string ⟨#[45]⟩, .agg #[.bool a, .int .u64 m]] w fun e w' => e = .returned (.tuple #[.agg #[.bool (rn (tv (!a) m (!false))), .int .u64 (rs (tv (!a) m (!false)))], .int .i64 (re (tv (!a) m (!false)))]) ∧ Kp w w' := by
  have HM := Lib.hid hm
  clear hm
  go_enter Try.func13, Try.ntmps13
  go_wp2_with (first | ((go_at_call 19; with_reducible refine (c_Const a m _ HM.out.1).mono ?_; rintro e w1 ⟨rfl, hk⟩; have hc00 := keepc hk (b := w.heap.size) (o := 0) (v := .bool a) (by first | assumption | (simp [go_sem]; done) | (simp [go_sem]; assumption)); have hc01 := keepc hk (b := w.heap.size) (o := 1) (v := .int .u64 m) (by first | assumption | (simp [go_sem]; done) | (simp [go_sem]; assumption)); have hf00 : w1.frozen? ⟨w.heap.size, 0, none⟩ = false := (by rw [hk.frozen]; first | assumption | (simp [go_sem]; done) | (simp [go_sem]; assumption)); have hf01 : w1.frozen? ⟨w.heap.size, 1, none⟩ = false := (by rw [hk.frozen]; first | assumption | (simp [go_sem]; done) | (simp [go_sem]; assumption)); have hc10 := keepc hk (b := w.heap.size + 1) (o := 0) (v := .bool false) (by first | assumption | (simp [go_sem]; done) | (simp [go_sem]; assumption)); have hc11 := keepc hk (b := w.heap.size + 1) (o := 1) (v := .int .u64 0) (by first | assumption | (simp [go_sem]; done) | (simp [go_sem]; assumption)); have hf10 : w1.frozen? ⟨w.heap.size + 1, 0, none⟩ = false := (by rw [hk.frozen]; first | assumption | (simp [go_sem]; done) | (simp [go_sem]; assumption)); have hf11 : w1.frozen? ⟨w.heap.size + 1, 1, none⟩ = false := (by rw [hk.frozen]; first | assumption | (simp [go_sem]; done) | (simp [go_sem]; assumption)); have hs : w.heap.size + 1 < w1.heap.size := (by have := keeps hk; simp at this; omega))) | ((go_at_call 27; with_reducible refine (c_toldX (!a) false m _ HM.out).mono ?_; rintro e w1 ⟨rfl, hk⟩; have hc10 := keepc hk (b := w.heap.size + 1) (o := 0) (v := .bool false) (by first | assumption | (simp [go_sem]; done) | (simp [go_sem, hs, *]; done) | (simp [go_sem, hs]; assumption)); have hc11 := keepc hk (b := w.heap.size + 1) (o := 1) (v := .int .u64 0) (by first | assumption | (simp [go_sem]; done) | (simp [go_sem, hs, *]; done) | (simp [go_sem, hs]; assumption)); have hf10 : w1.frozen? ⟨w.heap.size + 1, 0, none⟩ = false := (by rw [hk.frozen]; first | assumption | (simp [go_sem]; done) | (simp [go_sem, hs, *]; done) | (simp [go_sem, hs]; assumption)); have hf11 : w1.frozen? ⟨w.heap.size + 1, 1, none⟩ = false := (by rw [hk.frozen]; first | assumption | (simp [go_sem]; done) | (simp [go_sem, hs, *]; done) | (simp [go_sem, hs]; assumption)))))
  refine bodyPost_ret (by simp [results, Try.results13, go_sem, hc10, hc11]; try rfl) rfl ?_
  exact ⟨rfl, (by (repeat (first | exact Kp.refl _ | refine kback (by assumption) ?_ | refine Kp.setCell ?_ (by first | omega | (simp; done) | (simp; omega)) _ | refine Kp.alloc ?_ _ _ | refine Kp.drewN ?_ _ | refine Kp.drew ?_)))⟩
set_option maxHeartbeats 1600000 in
theorem ru_turn (a : Bool) (m : Int) (w : World) (hm : 0 ≤ m ∧ m < 18446744073709551616) (ka : kc a m = true) : Calls Try.prog 13 #[.string ⟨#[94]⟩, .agg #[.bool a, .int .u64 m]] w fun e w' => e = .returned (.tuple #[.agg #[.bool (rn (vl (!a) m + vl true 1)), .int .u64 (rs (vl (!a) m + vl true 1))], .int .i64 (re (vl (!a) m + vl true 1))]) ∧ Kp w w' := by
  have HM := Lib.hid hm
  clear hm
  go_enter Try.func13, Try.ntmps13
  go_wp2_with (first | ((go_at_call 19; with_reducible refine (c_Const a m _ HM.out.1).mono ?_; rintro e w1 ⟨rfl, hk⟩; have hc00 := keepc hk (b := w.heap.size) (o := 0) (v := .bool a) (by first | assumption | (simp [go_sem]; done) | (simp [go_sem]; assumption)); have hc01 := keepc hk (b := w.heap.size) (o := 1) (v := .int .u64 m) (by first | assumption | (simp [go_sem]; done) | (simp [go_sem]; assumption)); have hf00 : w1.frozen? ⟨w.heap.size, 0, none⟩ = false := (by rw [hk.frozen]; first | assumption | (simp [go_sem]; done) | (simp [go_sem]; assumption)); have hf01 : w1.frozen? ⟨w.heap.size, 1, none⟩ = false := (by rw [hk.frozen]; first | assumption | (simp [go_sem]; done) | (simp [go_sem]; assumption)); have hc10 := keepc hk (b := w.heap.size + 1) (o := 0) (v := .bool false) (by first | assumption | (simp [go_sem]; done) | (simp [go_sem]; assumption)); have hc11 := keepc hk (b := w.heap.size + 1) (o := 1) (v := .int .u64 0) (by first | assumption | (simp [go_sem]; done) | (simp [go_sem]; assumption)); have hf10 : w1.frozen? ⟨w.heap.size + 1, 0, none⟩ = false := (by rw [hk.frozen]; first | assumption | (simp [go_sem]; done) | (simp [go_sem]; assumption)); have hf11 : w1.frozen? ⟨w.heap.size + 1, 1, none⟩ = false := (by rw [hk.frozen]; first | assumption | (simp [go_sem]; done) | (simp [go_sem]; assumption)); have hs : w.heap.size + 1 < w1.heap.size := (by have := keeps hk; simp at this; omega))) | ((go_at_call 26; with_reducible refine (c_sum (!a) m true 1 _ HM.out (by omega)).mono ?_; rintro e w1 ⟨rfl, hk⟩; have hc10 := keepc hk (b := w.heap.size + 1) (o := 0) (v := .bool false) (by first | assumption | (simp [go_sem]; done) | (simp [go_sem, hs, *]; done) | (simp [go_sem, hs]; assumption)); have hc11 := keepc hk (b := w.heap.size + 1) (o := 1) (v := .int .u64 0) (by first | assumption | (simp [go_sem]; done) | (simp [go_sem, hs, *]; done) | (simp [go_sem, hs]; assumption)); have hf10 : w1.frozen? ⟨w.heap.size + 1, 0, none⟩ = false := (by rw [hk.frozen]; first | assumption | (simp [go_sem]; done) | (simp [go_sem, hs, *]; done) | (simp [go_sem, hs]; assumption)); have hf11 : w1.frozen? ⟨w.heap.size + 1, 1, none⟩ = false := (by rw [hk.frozen]; first | assumption | (simp [go_sem]; done) | (simp [go_sem, hs, *]; done) | (simp [go_sem, hs]; assumption)))))
  refine bodyPost_ret (by simp [results, Try.results13, go_sem, hc10, hc11]; try rfl) rfl ?_
  exact ⟨rfl, (by (repeat (first | exact Kp.refl _ | refine kback (by assumption) ?_ | refine Kp.setCell ?_ (by first | omega | (simp; done) | (simp; omega)) _ | refine Kp.alloc ?_ _ _ | refine Kp.drewN ?_ _ | refine Kp.drew ?_)))⟩
end Go.Proofs.Ytihchlkoohficaa
