/- What combine, forbids and isFold of package konst answer, by each operator. Condition: a size is between 0 and 2 to the 64. -/
import Derived.Test.YtihchlkoohficaaK4
namespace Go.Proofs.Ytihchlkoohficaa
open Go.RowKit Plain
set_option linter.unusedVariables false
theorem tdiv_r {a b : Int} (ha : 0 ≤ a ∧ a < 18446744073709551616) (hb : 0 ≤ b ∧ b < 18446744073709551616) : 0 ≤ a.tdiv b ∧ a.tdiv b < 18446744073709551616 := by
  rw [Int.tdiv_eq_ediv_of_nonneg ha.1]
  have h1 := Int.ediv_nonneg ha.1 hb.1
  have h2 := Int.ediv_le_self b ha.1
  omega
set_option maxHeartbeats 1600000 in
theorem co_add (a : Bool) (m : Int) (b : Bool) (n : Int) (w : World) (hm : 0 ≤ m ∧ m < 18446744073709551616) (hn : 0 ≤ n ∧ n < 18446744073709551616) : Calls Try.prog 24 #[.string ⟨#[43]⟩, .agg #[.bool a, .int .u64 m], .agg #[.bool b, .int .u64 n]] w fun e w' =>
    e = .returned (.tuple #[.agg #[.bool (aB a m b n), .int .u64 (aN a m b n)], .bool (aK a m b n)]) ∧ Kp w w' := by
  have HM := Lib.hid hm
  have HN := Lib.hid hn
  clear hm hn
  go_enter Try.func24, Try.ntmps24
  go_wp2_with (((go_at_call 31; with_reducible refine (c_add a m b n _ HM.out HN.out).mono ?_; rintro e w1 ⟨rfl, hk⟩; have hc10 := keepc hk (b := w.heap.size + 1 + 1) (o := 0) (v := .bool false) (by first | assumption | simp [go_sem]); have hc11 := keepc hk (b := w.heap.size + 1 + 1) (o := 1) (v := .int .u64 0) (by first | assumption | simp [go_sem]); have hf0 : w1.frozen? ⟨w.heap.size + 1 + 1, 0, none⟩ = false := (by rw [hk.frozen]; first | assumption | simp [go_sem]); have hf1 : w1.frozen? ⟨w.heap.size + 1 + 1, 1, none⟩ = false := (by rw [hk.frozen]; first | assumption | simp [go_sem]))))
  refine bodyPost_ret (by simp [results, Try.results24, go_sem, hc10, hc11]; try rfl) rfl ?_
  exact ⟨rfl, (by (repeat (first | exact Kp.refl _ | refine kback (by assumption) ?_ | refine Kp.setCell ?_ (by first | omega | (simp; done) | (simp; omega)) _ | refine Kp.alloc ?_ _ _ | refine Kp.drewN ?_ _ | refine Kp.drew ?_)))⟩
set_option maxHeartbeats 1600000 in
theorem co_sub (a : Bool) (m : Int) (b : Bool) (n : Int) (w : World) (hm : 0 ≤ m ∧ m < 18446744073709551616) (hn : 0 ≤ n ∧ n < 18446744073709551616) : Calls Try.prog 24 #[.string ⟨#[45]⟩, .agg #[.bool a, .int .u64 m], .agg #[.bool b, .int .u64 n]] w fun e w' =>
    e = .returned (.tuple #[.agg #[.bool (aB a m (!b) n), .int .u64 (aN a m (!b) n)], .bool (aK a m (!b) n)]) ∧ Kp w w' := by
  have HM := Lib.hid hm
  have HN := Lib.hid hn
  clear hm hn
  go_enter Try.func24, Try.ntmps24
  go_wp2_with (fail)
  go_region_with (first | ((go_at_call 30; with_reducible refine (c_minus b n _).mono ?_; rintro e w1 ⟨rfl, hk⟩; have hc00 := keepc hk (b := w.heap.size) (o := 0) (v := .bool a) (by first | assumption | simp [go_sem]); have hc01 := keepc hk (b := w.heap.size) (o := 1) (v := .int .u64 m) (by first | assumption | simp [go_sem]); have hc90 := keepc hk (b := w.heap.size + 1) (o := 0) (v := .bool b) (by first | assumption | simp [go_sem]); have hc91 := keepc hk (b := w.heap.size + 1) (o := 1) (v := .int .u64 n) (by first | assumption | simp [go_sem]); have hc10 := keepc hk (b := w.heap.size + 1 + 1) (o := 0) (v := .bool false) (by first | assumption | simp [go_sem]); have hc11 := keepc hk (b := w.heap.size + 1 + 1) (o := 1) (v := .int .u64 0) (by first | assumption | simp [go_sem]); have hf0 : w1.frozen? ⟨w.heap.size + 1 + 1, 0, none⟩ = false := (by rw [hk.frozen]; first | assumption | simp [go_sem]); have hf1 : w1.frozen? ⟨w.heap.size + 1 + 1, 1, none⟩ = false := (by rw [hk.frozen]; first | assumption | simp [go_sem]))) | ((go_at_call 31; with_reducible refine (c_add a m (!b) n _ HM.out HN.out).mono ?_; rintro e w1 ⟨rfl, hk⟩; have hc00 := keepc hk (b := w.heap.size) (o := 0) (v := .bool a) (by first | assumption | simp [go_sem]); have hc01 := keepc hk (b := w.heap.size) (o := 1) (v := .int .u64 m) (by first | assumption | simp [go_sem]); have hc90 := keepc hk (b := w.heap.size + 1) (o := 0) (v := .bool b) (by first | assumption | simp [go_sem]); have hc91 := keepc hk (b := w.heap.size + 1) (o := 1) (v := .int .u64 n) (by first | assumption | simp [go_sem]); have hc10 := keepc hk (b := w.heap.size + 1 + 1) (o := 0) (v := .bool false) (by first | assumption | simp [go_sem]); have hc11 := keepc hk (b := w.heap.size + 1 + 1) (o := 1) (v := .int .u64 0) (by first | assumption | simp [go_sem]); have hf0 : w1.frozen? ⟨w.heap.size + 1 + 1, 0, none⟩ = false := (by rw [hk.frozen]; first | assumption | simp [go_sem]); have hf1 : w1.frozen? ⟨w.heap.size + 1 + 1, 1, none⟩ = false := (by rw [hk.frozen]; first | assumption | simp [go_sem]))))
  all_goals (go_wp2_with fail; refine bodyPost_ret (by simp [results, Try.results24, go_sem, hc10, hc11]; try rfl) rfl ?_; exact ⟨rfl, (by (repeat (first | exact Kp.refl _ | refine kback (by assumption) ?_ | refine Kp.setCell ?_ (by first | omega | (simp; done) | (simp; omega)) _ | refine Kp.alloc ?_ _ _ | refine Kp.drewN ?_ _ | refine Kp.drew ?_)))⟩)
 set_option maxHeartbeats 1600000 in
theorem co_mul (a : Bool) (m : Int) (b : Bool) (n : Int) (w : World) (hm : 0 ≤ m ∧ m < 18446744073709551616) (hn : 0 ≤ n ∧ n < 18446744073709551616) : Calls Try.prog 24 #[.string ⟨#[42]⟩, .agg #[.bool a, .int .u64 m], .agg #[.bool b, .int .u64 n]] w fun e w' =>
    e = .returned (.tuple #[.agg #[.bool (a != b), .int .u64 (m * n % 18446744073709551616)], .bool (m * n / 18446744073709551616 == 0)]) ∧ Kp w w' := by
  have HM := Lib.hid hm
  have HN := Lib.hid hn
  clear hm hn
  go_enter Try.func24, Try.ntmps24
  go_wp2_with (((go_at_call 41; with_reducible refine (c_Mul64 m n HM.out HN.out _).mono ?_; rintro e w1 ⟨rfl, rfl⟩)))
  go_returns
  exact ⟨rfl, (by (repeat (first | exact Kp.refl _ | refine kback (by assumption) ?_ | refine Kp.setCell ?_ (by first | omega | (simp; done) | (simp; omega)) _ | refine Kp.alloc ?_ _ _ | refine Kp.drewN ?_ _ | refine Kp.drew ?_)))⟩
set_option maxHeartbeats 1600000 in
theorem co_quo (a : Bool) (m : Int) (b : Bool) (n : Int) (w : World) (hm : 0 ≤ m ∧ m < 18446744073709551616) (hn : 0 ≤ n ∧ n < 18446744073709551616) (h0 : n ≠ 0) : Calls Try.prog 24 #[.string ⟨#[47]⟩, .agg #[.bool a, .int .u64 m], .agg #[.bool b, .int .u64 n]] w fun e w' =>
    e = .returned (.tuple #[.agg #[.bool (a != b), .int .u64 (m.tdiv n)], .bool true]) ∧ Kp w w' := by
  have HM := Lib.hid hm
  have HN := Lib.hid hn
  have hw : IntKind.u64.wrap (m.tdiv n) = m.tdiv n := u64_id (tdiv_r hm hn)
  clear hm hn
  go_enter Try.func24, Try.ntmps24
  go_wp2_with (fail)
  go_region
  all_goals (go_wp2_with fail; go_returns; exact ⟨rfl, (by (repeat (first | exact Kp.refl _ | refine kback (by assumption) ?_ | refine Kp.setCell ?_ (by first | omega | (simp; done) | (simp; omega)) _ | refine Kp.alloc ?_ _ _ | refine Kp.drewN ?_ _ | refine Kp.drew ?_)))⟩)
 set_option maxHeartbeats 1600000 in
theorem co_rem (a : Bool) (m : Int) (b : Bool) (n : Int) (w : World) (hm : 0 ≤ m ∧ m < 18446744073709551616) (hn : 0 ≤ n ∧ n < 18446744073709551616) (h0 : n ≠ 0) : Calls Try.prog 24 #[.string ⟨#[37]⟩, .agg #[.bool a, .int .u64 m], .agg #[.bool b, .int .u64 n]] w fun e w' =>
    e = .returned (.tuple #[.agg #[.bool a, .int .u64 (m.tmod n)], .bool true]) ∧ Kp w w' := by
  have HM := Lib.hid hm
  have HN := Lib.hid hn
  clear hm hn
  go_enter Try.func24, Try.ntmps24
  go_wp2_with (fail)
  go_region
  all_goals (go_wp2_with fail; go_returns; exact ⟨rfl, (by (repeat (first | exact Kp.refl _ | refine kback (by assumption) ?_ | refine Kp.setCell ?_ (by first | omega | (simp; done) | (simp; omega)) _ | refine Kp.alloc ?_ _ _ | refine Kp.drewN ?_ _ | refine Kp.drew ?_)))⟩)
 set_option maxHeartbeats 1600000 in
theorem co_shl (a : Bool) (m : Int) (b : Bool) (n : Int) (w : World) (hm : 0 ≤ m ∧ m < 18446744073709551616) (hn : 0 ≤ n ∧ n < 18446744073709551616) : Calls Try.prog 24 #[.string ⟨#[60, 60]⟩, .agg #[.bool a, .int .u64 m], .agg #[.bool b, .int .u64 n]] w fun e w' =>
    e = .returned (.tuple #[.agg #[.bool a, .int .u64 (uN m n)], .bool (uK m n)]) ∧ Kp w w' := by
  have HM := Lib.hid hm
  have HN := Lib.hid hn
  clear hm hn
  go_enter Try.func24, Try.ntmps24
  go_wp2_with (((go_at_call 42; with_reducible refine (c_shiftUp a m n _ HN.out.1).mono ?_; rintro e w1 ⟨rfl, hk⟩; have hc10 := keepc hk (b := w.heap.size + 1 + 1) (o := 0) (v := .bool false) (by first | assumption | simp [go_sem]); have hc11 := keepc hk (b := w.heap.size + 1 + 1) (o := 1) (v := .int .u64 0) (by first | assumption | simp [go_sem]); have hf0 : w1.frozen? ⟨w.heap.size + 1 + 1, 0, none⟩ = false := (by rw [hk.frozen]; first | assumption | simp [go_sem]); have hf1 : w1.frozen? ⟨w.heap.size + 1 + 1, 1, none⟩ = false := (by rw [hk.frozen]; first | assumption | simp [go_sem]))))
  refine bodyPost_ret (by simp [results, Try.results24, go_sem, hc10, hc11]; try rfl) rfl ?_
  exact ⟨rfl, (by (repeat (first | exact Kp.refl _ | refine kback (by assumption) ?_ | refine Kp.setCell ?_ (by first | omega | (simp; done) | (simp; omega)) _ | refine Kp.alloc ?_ _ _ | refine Kp.drewN ?_ _ | refine Kp.drew ?_)))⟩
set_option maxHeartbeats 1600000 in
theorem co_shr (a : Bool) (m : Int) (b : Bool) (n : Int) (w : World) (hm : 0 ≤ m ∧ m < 18446744073709551616) (hn : 0 ≤ n ∧ n < 18446744073709551616) (hkc : kc a m = true) : Calls Try.prog 24 #[.string ⟨#[62, 62]⟩, .agg #[.bool a, .int .u64 m], .agg #[.bool b, .int .u64 n]] w fun e w' =>
    e = .returned (.tuple #[.agg #[.bool a, .int .u64 (dN a m n)], .bool true]) ∧ Kp w w' := by
  have HM := Lib.hid hm
  have HN := Lib.hid hn
  have HKC := Lib.hid hkc
  clear hkc
  clear hm hn
  go_enter Try.func24, Try.ntmps24
  go_wp2_with (((go_at_call 43; with_reducible refine (c_shiftDown a m n _ HN.out.1 HM.out HKC.out).mono ?_; rintro e w1 ⟨rfl, hk⟩; have hc10 := keepc hk (b := w.heap.size + 1 + 1) (o := 0) (v := .bool false) (by first | assumption | simp [go_sem]); have hc11 := keepc hk (b := w.heap.size + 1 + 1) (o := 1) (v := .int .u64 0) (by first | assumption | simp [go_sem]); have hf0 : w1.frozen? ⟨w.heap.size + 1 + 1, 0, none⟩ = false := (by rw [hk.frozen]; first | assumption | simp [go_sem]); have hf1 : w1.frozen? ⟨w.heap.size + 1 + 1, 1, none⟩ = false := (by rw [hk.frozen]; first | assumption | simp [go_sem]))))
  refine bodyPost_ret (by simp [results, Try.results24, go_sem, hc10, hc11]; try rfl) rfl ?_
  exact ⟨rfl, (by (repeat (first | exact Kp.refl _ | refine kback (by assumption) ?_ | refine Kp.setCell ?_ (by first | omega | (simp; done) | (simp; omega)) _ | refine Kp.alloc ?_ _ _ | refine Kp.drewN ?_ _ | refine Kp.drew ?_)))⟩
set_option maxHeartbeats 1600000 in
theorem co_and (a : Bool) (m : Int) (b : Bool) (n : Int) (w : World) (hm : 0 ≤ m ∧ m < 18446744073709551616) (hn : 0 ≤ n ∧ n < 18446744073709551616) : Calls Try.prog 24 #[.string ⟨#[38]⟩, .agg #[.bool a, .int .u64 m], .agg #[.bool b, .int .u64 n]] w fun e w' =>
    e = .returned (.tuple #[.agg #[.bool false, .int .u64 (ban m n)], .bool true]) ∧ Kp w w' := by
  have HM := Lib.hid hm
  have HN := Lib.hid hn
  clear hm hn
  go_enter Try.func24, Try.ntmps24
  go_wp2_with (((go_at_call 44; with_reducible refine (cb_and m n _ HM.out HN.out).mono ?_; rintro e w1 ⟨rfl, rfl⟩)))
  go_returns
  exact ⟨rfl, (by (repeat (first | exact Kp.refl _ | refine kback (by assumption) ?_ | refine Kp.setCell ?_ (by first | omega | (simp; done) | (simp; omega)) _ | refine Kp.alloc ?_ _ _ | refine Kp.drewN ?_ _ | refine Kp.drew ?_)))⟩
set_option maxHeartbeats 1600000 in
theorem co_or (a : Bool) (m : Int) (b : Bool) (n : Int) (w : World) (hm : 0 ≤ m ∧ m < 18446744073709551616) (hn : 0 ≤ n ∧ n < 18446744073709551616) : Calls Try.prog 24 #[.string ⟨#[124]⟩, .agg #[.bool a, .int .u64 m], .agg #[.bool b, .int .u64 n]] w fun e w' =>
    e = .returned (.tuple #[.agg #[.bool false, .int .u64 (bor m n)], .bool true]) ∧ Kp w w' := by
  have HM := Lib.hid hm
  have HN := Lib.hid hn
  clear hm hn
  go_enter Try.func24, Try.ntmps24
  go_wp2_with (((go_at_call 44; with_reducible refine (cb_or m n _ HM.out HN.out).mono ?_; rintro e w1 ⟨rfl, rfl⟩)))
  go_returns
  exact ⟨rfl, (by (repeat (first | exact Kp.refl _ | refine kback (by assumption) ?_ | refine Kp.setCell ?_ (by first | omega | (simp; done) | (simp; omega)) _ | refine Kp.alloc ?_ _ _ | refine Kp.drewN ?_ _ | refine Kp.drew ?_)))⟩
set_option maxHeartbeats 1600000 in
theorem co_xor (a : Bool) (m : Int) (b : Bool) (n : Int) (w : World) (hm : 0 ≤ m ∧ m < 18446744073709551616) (hn : 0 ≤ n ∧ n < 18446744073709551616) : Calls Try.prog 24 #[.string ⟨#[94]⟩, .agg #[.bool a, .int .u64 m], .agg #[.bool b, .int .u64 n]] w fun e w' =>
    e = .returned (.tuple #[.agg #[.bool false, .int .u64 (bxo m n)], .bool true]) ∧ Kp w w' := by
  have HM := Lib.hid hm
  have HN := Lib.hid hn
  clear hm hn
  go_enter Try.func24, Try.ntmps24
  go_wp2_with (((go_at_call 44; with_reducible refine (cb_xor m n _ HM.out HN.out).mono ?_; rintro e w1 ⟨rfl, rfl⟩)))
  go_returns
  exact ⟨rfl, (by (repeat (first | exact Kp.refl _ | refine kback (by assumption) ?_ | refine Kp.setCell ?_ (by first | omega | (simp; done) | (simp; omega)) _ | refine Kp.alloc ?_ _ _ | refine Kp.drewN ?_ _ | refine Kp.drew ?_)))⟩
set_option maxHeartbeats 1600000 in
theorem co_not (a : Bool) (m : Int) (b : Bool) (n : Int) (w : World) (hm : 0 ≤ m ∧ m < 18446744073709551616) (hn : 0 ≤ n ∧ n < 18446744073709551616) : Calls Try.prog 24 #[.string ⟨#[38, 94]⟩, .agg #[.bool a, .int .u64 m], .agg #[.bool b, .int .u64 n]] w fun e w' =>
    e = .returned (.tuple #[.agg #[.bool false, .int .u64 (bnt m n)], .bool true]) ∧ Kp w w' := by
  have HM := Lib.hid hm
  have HN := Lib.hid hn
  clear hm hn
  go_enter Try.func24, Try.ntmps24
  go_wp2_with (((go_at_call 44; with_reducible refine (cb_not m n _ HM.out HN.out).mono ?_; rintro e w1 ⟨rfl, rfl⟩)))
  go_returns
  exact ⟨rfl, (by (repeat (first | exact Kp.refl _ | refine kback (by assumption) ?_ | refine Kp.setCell ?_ (by first | omega | (simp; done) | (simp; omega)) _ | refine Kp.alloc ?_ _ _ | refine Kp.drewN ?_ _ | refine Kp.drew ?_)))⟩
theorem fo_add (a : Bool) (m : Int) (b : Bool) (n : Int) (w : World) : Calls Try.prog 22 #[.string ⟨#[43]⟩, .agg #[.bool a, .int .u64 m], .agg #[.bool b, .int .u64 n]] w fun e w' =>
    e = .returned (.int .i64 0) ∧ Kp w w' := by
  go_enter Try.func22, Try.ntmps22
  go_wp2_with fail
  go_ret
  exact ⟨rfl, (by (repeat (first | exact Kp.refl _ | refine kback (by assumption) ?_ | refine Kp.setCell ?_ (by first | omega | (simp; done) | (simp; omega)) _ | refine Kp.alloc ?_ _ _ | refine Kp.drewN ?_ _ | refine Kp.drew ?_)))⟩
theorem fo_sub (a : Bool) (m : Int) (b : Bool) (n : Int) (w : World) : Calls Try.prog 22 #[.string ⟨#[45]⟩, .agg #[.bool a, .int .u64 m], .agg #[.bool b, .int .u64 n]] w fun e w' =>
    e = .returned (.int .i64 0) ∧ Kp w w' := by
  go_enter Try.func22, Try.ntmps22
  go_wp2_with fail
  go_ret
  exact ⟨rfl, (by (repeat (first | exact Kp.refl _ | refine kback (by assumption) ?_ | refine Kp.setCell ?_ (by first | omega | (simp; done) | (simp; omega)) _ | refine Kp.alloc ?_ _ _ | refine Kp.drewN ?_ _ | refine Kp.drew ?_)))⟩
theorem fo_mul (a : Bool) (m : Int) (b : Bool) (n : Int) (w : World) : Calls Try.prog 22 #[.string ⟨#[42]⟩, .agg #[.bool a, .int .u64 m], .agg #[.bool b, .int .u64 n]] w fun e w' =>
    e = .returned (.int .i64 0) ∧ Kp w w' := by
  go_enter Try.func22, Try.ntmps22
  go_wp2_with fail
  go_ret
  exact ⟨rfl, (by (repeat (first | exact Kp.refl _ | refine kback (by assumption) ?_ | refine Kp.setCell ?_ (by first | omega | (simp; done) | (simp; omega)) _ | refine Kp.alloc ?_ _ _ | refine Kp.drewN ?_ _ | refine Kp.drew ?_)))⟩
theorem fo_quo0 (a : Bool) (m : Int) (b : Bool) (n : Int) (w : World) (h0 : n = 0) : Calls Try.prog 22 #[.string ⟨#[47]⟩, .agg #[.bool a, .int .u64 m], .agg #[.bool b, .int .u64 n]] w fun e w' =>
    e = .returned (.int .i64 18) ∧ Kp w w' := by
  subst h0
  go_enter Try.func22, Try.ntmps22
  go_wp2_with fail
  go_ret
  exact ⟨rfl, (by (repeat (first | exact Kp.refl _ | refine kback (by assumption) ?_ | refine Kp.setCell ?_ (by first | omega | (simp; done) | (simp; omega)) _ | refine Kp.alloc ?_ _ _ | refine Kp.drewN ?_ _ | refine Kp.drew ?_)))⟩
theorem fo_quo (a : Bool) (m : Int) (b : Bool) (n : Int) (w : World) (h0 : n ≠ 0) : Calls Try.prog 22 #[.string ⟨#[47]⟩, .agg #[.bool a, .int .u64 m], .agg #[.bool b, .int .u64 n]] w fun e w' =>
    e = .returned (.int .i64 0) ∧ Kp w w' := by
  have z : (n == 0) = false := by simp [h0]
  go_enter Try.func22, Try.ntmps22
  go_wp2_with fail
  go_ret
  exact ⟨rfl, (by (repeat (first | exact Kp.refl _ | refine kback (by assumption) ?_ | refine Kp.setCell ?_ (by first | omega | (simp; done) | (simp; omega)) _ | refine Kp.alloc ?_ _ _ | refine Kp.drewN ?_ _ | refine Kp.drew ?_)))⟩
theorem fo_rem0 (a : Bool) (m : Int) (b : Bool) (n : Int) (w : World) (h0 : n = 0) : Calls Try.prog 22 #[.string ⟨#[37]⟩, .agg #[.bool a, .int .u64 m], .agg #[.bool b, .int .u64 n]] w fun e w' =>
    e = .returned (.int .i64 18) ∧ Kp w w' := by
  subst h0
  go_enter Try.func22, Try.ntmps22
  go_wp2_with fail
  go_ret
  exact ⟨rfl, (by (repeat (first | exact Kp.refl _ | refine kback (by assumption) ?_ | refine Kp.setCell ?_ (by first | omega | (simp; done) | (simp; omega)) _ | refine Kp.alloc ?_ _ _ | refine Kp.drewN ?_ _ | refine Kp.drew ?_)))⟩
theorem fo_rem (a : Bool) (m : Int) (b : Bool) (n : Int) (w : World) (h0 : n ≠ 0) : Calls Try.prog 22 #[.string ⟨#[37]⟩, .agg #[.bool a, .int .u64 m], .agg #[.bool b, .int .u64 n]] w fun e w' =>
    e = .returned (.int .i64 0) ∧ Kp w w' := by
  have z : (n == 0) = false := by simp [h0]
  go_enter Try.func22, Try.ntmps22
  go_wp2_with fail
  go_ret
  exact ⟨rfl, (by (repeat (first | exact Kp.refl _ | refine kback (by assumption) ?_ | refine Kp.setCell ?_ (by first | omega | (simp; done) | (simp; omega)) _ | refine Kp.alloc ?_ _ _ | refine Kp.drewN ?_ _ | refine Kp.drew ?_)))⟩
theorem fo_shl1 (a : Bool) (m : Int) (b : Bool) (n : Int) (w : World) (h0 : b = true) : Calls Try.prog 22 #[.string ⟨#[60, 60]⟩, .agg #[.bool a, .int .u64 m], .agg #[.bool b, .int .u64 n]] w fun e w' =>
    e = .returned (.int .i64 19) ∧ Kp w w' := by
  subst h0
  go_enter Try.func22, Try.ntmps22
  go_wp2_with fail
  go_ret
  exact ⟨rfl, (by (repeat (first | exact Kp.refl _ | refine kback (by assumption) ?_ | refine Kp.setCell ?_ (by first | omega | (simp; done) | (simp; omega)) _ | refine Kp.alloc ?_ _ _ | refine Kp.drewN ?_ _ | refine Kp.drew ?_)))⟩
theorem fo_shl (a : Bool) (m : Int) (b : Bool) (n : Int) (w : World) (h0 : b = false) : Calls Try.prog 22 #[.string ⟨#[60, 60]⟩, .agg #[.bool a, .int .u64 m], .agg #[.bool b, .int .u64 n]] w fun e w' =>
    e = .returned (.int .i64 0) ∧ Kp w w' := by
  subst h0
  go_enter Try.func22, Try.ntmps22
  go_wp2_with fail
  go_ret
  exact ⟨rfl, (by (repeat (first | exact Kp.refl _ | refine kback (by assumption) ?_ | refine Kp.setCell ?_ (by first | omega | (simp; done) | (simp; omega)) _ | refine Kp.alloc ?_ _ _ | refine Kp.drewN ?_ _ | refine Kp.drew ?_)))⟩
theorem fo_shr1 (a : Bool) (m : Int) (b : Bool) (n : Int) (w : World) (h0 : b = true) : Calls Try.prog 22 #[.string ⟨#[62, 62]⟩, .agg #[.bool a, .int .u64 m], .agg #[.bool b, .int .u64 n]] w fun e w' =>
    e = .returned (.int .i64 19) ∧ Kp w w' := by
  subst h0
  go_enter Try.func22, Try.ntmps22
  go_wp2_with fail
  go_ret
  exact ⟨rfl, (by (repeat (first | exact Kp.refl _ | refine kback (by assumption) ?_ | refine Kp.setCell ?_ (by first | omega | (simp; done) | (simp; omega)) _ | refine Kp.alloc ?_ _ _ | refine Kp.drewN ?_ _ | refine Kp.drew ?_)))⟩
theorem fo_shr (a : Bool) (m : Int) (b : Bool) (n : Int) (w : World) (h0 : b = false) : Calls Try.prog 22 #[.string ⟨#[62, 62]⟩, .agg #[.bool a, .int .u64 m], .agg #[.bool b, .int .u64 n]] w fun e w' =>
    e = .returned (.int .i64 0) ∧ Kp w w' := by
  subst h0
  go_enter Try.func22, Try.ntmps22
  go_wp2_with fail
  go_ret
  exact ⟨rfl, (by (repeat (first | exact Kp.refl _ | refine kback (by assumption) ?_ | refine Kp.setCell ?_ (by first | omega | (simp; done) | (simp; omega)) _ | refine Kp.alloc ?_ _ _ | refine Kp.drewN ?_ _ | refine Kp.drew ?_)))⟩
theorem fo_and1 (a : Bool) (m : Int) (b : Bool) (n : Int) (w : World) (h0 : (a || b) = true) : Calls Try.prog 22 #[.string ⟨#[38]⟩, .agg #[.bool a, .int .u64 m], .agg #[.bool b, .int .u64 n]] w fun e w' =>
    e = .returned (.int .i64 10) ∧ Kp w w' := by
  cases a <;> cases b <;> (try exact absurd h0 (by decide)) <;> clear h0
  · go_enter Try.func22, Try.ntmps22
    go_wp2_with fail
    go_ret
    exact ⟨rfl, (by (repeat (first | exact Kp.refl _ | refine kback (by assumption) ?_ | refine Kp.setCell ?_ (by first | omega | (simp; done) | (simp; omega)) _ | refine Kp.alloc ?_ _ _ | refine Kp.drewN ?_ _ | refine Kp.drew ?_)))⟩
  · go_enter Try.func22, Try.ntmps22
    go_wp2_with fail
    go_ret
    exact ⟨rfl, (by (repeat (first | exact Kp.refl _ | refine kback (by assumption) ?_ | refine Kp.setCell ?_ (by first | omega | (simp; done) | (simp; omega)) _ | refine Kp.alloc ?_ _ _ | refine Kp.drewN ?_ _ | refine Kp.drew ?_)))⟩
  · go_enter Try.func22, Try.ntmps22
    go_wp2_with fail
    go_ret
    exact ⟨rfl, (by (repeat (first | exact Kp.refl _ | refine kback (by assumption) ?_ | refine Kp.setCell ?_ (by first | omega | (simp; done) | (simp; omega)) _ | refine Kp.alloc ?_ _ _ | refine Kp.drewN ?_ _ | refine Kp.drew ?_)))⟩
theorem fo_and (a : Bool) (m : Int) (b : Bool) (n : Int) (w : World) (h0 : (a || b) = false) : Calls Try.prog 22 #[.string ⟨#[38]⟩, .agg #[.bool a, .int .u64 m], .agg #[.bool b, .int .u64 n]] w fun e w' =>
    e = .returned (.int .i64 0) ∧ Kp w w' := by
  cases a <;> cases b <;> (try exact absurd h0 (by decide))
  clear h0
  go_enter Try.func22, Try.ntmps22
  go_wp2_with fail
  go_ret
  exact ⟨rfl, (by (repeat (first | exact Kp.refl _ | refine kback (by assumption) ?_ | refine Kp.setCell ?_ (by first | omega | (simp; done) | (simp; omega)) _ | refine Kp.alloc ?_ _ _ | refine Kp.drewN ?_ _ | refine Kp.drew ?_)))⟩
theorem fo_or1 (a : Bool) (m : Int) (b : Bool) (n : Int) (w : World) (h0 : (a || b) = true) : Calls Try.prog 22 #[.string ⟨#[124]⟩, .agg #[.bool a, .int .u64 m], .agg #[.bool b, .int .u64 n]] w fun e w' =>
    e = .returned (.int .i64 10) ∧ Kp w w' := by
  cases a <;> cases b <;> (try exact absurd h0 (by decide)) <;> clear h0
  · go_enter Try.func22, Try.ntmps22
    go_wp2_with fail
    go_ret
    exact ⟨rfl, (by (repeat (first | exact Kp.refl _ | refine kback (by assumption) ?_ | refine Kp.setCell ?_ (by first | omega | (simp; done) | (simp; omega)) _ | refine Kp.alloc ?_ _ _ | refine Kp.drewN ?_ _ | refine Kp.drew ?_)))⟩
  · go_enter Try.func22, Try.ntmps22
    go_wp2_with fail
    go_ret
    exact ⟨rfl, (by (repeat (first | exact Kp.refl _ | refine kback (by assumption) ?_ | refine Kp.setCell ?_ (by first | omega | (simp; done) | (simp; omega)) _ | refine Kp.alloc ?_ _ _ | refine Kp.drewN ?_ _ | refine Kp.drew ?_)))⟩
  · go_enter Try.func22, Try.ntmps22
    go_wp2_with fail
    go_ret
    exact ⟨rfl, (by (repeat (first | exact Kp.refl _ | refine kback (by assumption) ?_ | refine Kp.setCell ?_ (by first | omega | (simp; done) | (simp; omega)) _ | refine Kp.alloc ?_ _ _ | refine Kp.drewN ?_ _ | refine Kp.drew ?_)))⟩
theorem fo_or (a : Bool) (m : Int) (b : Bool) (n : Int) (w : World) (h0 : (a || b) = false) : Calls Try.prog 22 #[.string ⟨#[124]⟩, .agg #[.bool a, .int .u64 m], .agg #[.bool b, .int .u64 n]] w fun e w' =>
    e = .returned (.int .i64 0) ∧ Kp w w' := by
  cases a <;> cases b <;> (try exact absurd h0 (by decide))
  clear h0
  go_enter Try.func22, Try.ntmps22
  go_wp2_with fail
  go_ret
  exact ⟨rfl, (by (repeat (first | exact Kp.refl _ | refine kback (by assumption) ?_ | refine Kp.setCell ?_ (by first | omega | (simp; done) | (simp; omega)) _ | refine Kp.alloc ?_ _ _ | refine Kp.drewN ?_ _ | refine Kp.drew ?_)))⟩
theorem fo_xor1 (a : Bool) (m : Int) (b : Bool) (n : Int) (w : World) (h0 : (a || b) = true) : Calls Try.prog 22 #[.string ⟨#[94]⟩, .agg #[.bool a, .int .u64 m], .agg #[.bool b, .int .u64 n]] w fun e w' =>
    e = .returned (.int .i64 10) ∧ Kp w w' := by
  cases a <;> cases b <;> (try exact absurd h0 (by decide)) <;> clear h0
  · go_enter Try.func22, Try.ntmps22
    go_wp2_with fail
    go_ret
    exact ⟨rfl, (by (repeat (first | exact Kp.refl _ | refine kback (by assumption) ?_ | refine Kp.setCell ?_ (by first | omega | (simp; done) | (simp; omega)) _ | refine Kp.alloc ?_ _ _ | refine Kp.drewN ?_ _ | refine Kp.drew ?_)))⟩
  · go_enter Try.func22, Try.ntmps22
    go_wp2_with fail
    go_ret
    exact ⟨rfl, (by (repeat (first | exact Kp.refl _ | refine kback (by assumption) ?_ | refine Kp.setCell ?_ (by first | omega | (simp; done) | (simp; omega)) _ | refine Kp.alloc ?_ _ _ | refine Kp.drewN ?_ _ | refine Kp.drew ?_)))⟩
  · go_enter Try.func22, Try.ntmps22
    go_wp2_with fail
    go_ret
    exact ⟨rfl, (by (repeat (first | exact Kp.refl _ | refine kback (by assumption) ?_ | refine Kp.setCell ?_ (by first | omega | (simp; done) | (simp; omega)) _ | refine Kp.alloc ?_ _ _ | refine Kp.drewN ?_ _ | refine Kp.drew ?_)))⟩
theorem fo_xor (a : Bool) (m : Int) (b : Bool) (n : Int) (w : World) (h0 : (a || b) = false) : Calls Try.prog 22 #[.string ⟨#[94]⟩, .agg #[.bool a, .int .u64 m], .agg #[.bool b, .int .u64 n]] w fun e w' =>
    e = .returned (.int .i64 0) ∧ Kp w w' := by
  cases a <;> cases b <;> (try exact absurd h0 (by decide))
  clear h0
  go_enter Try.func22, Try.ntmps22
  go_wp2_with fail
  go_ret
  exact ⟨rfl, (by (repeat (first | exact Kp.refl _ | refine kback (by assumption) ?_ | refine Kp.setCell ?_ (by first | omega | (simp; done) | (simp; omega)) _ | refine Kp.alloc ?_ _ _ | refine Kp.drewN ?_ _ | refine Kp.drew ?_)))⟩
theorem fo_not1 (a : Bool) (m : Int) (b : Bool) (n : Int) (w : World) (h0 : (a || b) = true) : Calls Try.prog 22 #[.string ⟨#[38, 94]⟩, .agg #[.bool a, .int .u64 m], .agg #[.bool b, .int .u64 n]] w fun e w' =>
    e = .returned (.int .i64 10) ∧ Kp w w' := by
  cases a <;> cases b <;> (try exact absurd h0 (by decide)) <;> clear h0
  · go_enter Try.func22, Try.ntmps22
    go_wp2_with fail
    go_ret
    exact ⟨rfl, (by (repeat (first | exact Kp.refl _ | refine kback (by assumption) ?_ | refine Kp.setCell ?_ (by first | omega | (simp; done) | (simp; omega)) _ | refine Kp.alloc ?_ _ _ | refine Kp.drewN ?_ _ | refine Kp.drew ?_)))⟩
  · go_enter Try.func22, Try.ntmps22
    go_wp2_with fail
    go_ret
    exact ⟨rfl, (by (repeat (first | exact Kp.refl _ | refine kback (by assumption) ?_ | refine Kp.setCell ?_ (by first | omega | (simp; done) | (simp; omega)) _ | refine Kp.alloc ?_ _ _ | refine Kp.drewN ?_ _ | refine Kp.drew ?_)))⟩
  · go_enter Try.func22, Try.ntmps22
    go_wp2_with fail
    go_ret
    exact ⟨rfl, (by (repeat (first | exact Kp.refl _ | refine kback (by assumption) ?_ | refine Kp.setCell ?_ (by first | omega | (simp; done) | (simp; omega)) _ | refine Kp.alloc ?_ _ _ | refine Kp.drewN ?_ _ | refine Kp.drew ?_)))⟩
theorem fo_not (a : Bool) (m : Int) (b : Bool) (n : Int) (w : World) (h0 : (a || b) = false) : Calls Try.prog 22 #[.string ⟨#[38, 94]⟩, .agg #[.bool a, .int .u64 m], .agg #[.bool b, .int .u64 n]] w fun e w' =>
    e = .returned (.int .i64 0) ∧ Kp w w' := by
  cases a <;> cases b <;> (try exact absurd h0 (by decide))
  clear h0
  go_enter Try.func22, Try.ntmps22
  go_wp2_with fail
  go_ret
  exact ⟨rfl, (by (repeat (first | exact Kp.refl _ | refine kback (by assumption) ?_ | refine Kp.setCell ?_ (by first | omega | (simp; done) | (simp; omega)) _ | refine Kp.alloc ?_ _ _ | refine Kp.drewN ?_ _ | refine Kp.drew ?_)))⟩
end Go.Proofs.Ytihchlkoohficaa
