/- What the small functions of package konst answer: isSound, tell, minus, add; and math/bits.Add64 and Mul64 at this translation. Condition: a size is between 0 and 2 to the 64. -/
import Derived.Test.YtihchlkoohficaaK2
import Derived.Test.YtihchlkoohficaaKP
import Derived.Deep.QuietTactic
import Derived.BigQuiet
import Derived.Laws.Externs
import Derived.Laws.Bits64b
import Derived.Shelf.Bits.Mul64
namespace Go.Proofs.Ytihchlkoohficaa
open Go.RowKit Plain
set_option linter.unusedVariables false
theorem ret_bool {a b : Bool} (h : a = b) : Ending.returned (.bool a) = .returned (.bool b) := by rw [h]
theorem c_sound (b : Bool) (n : Int) (w : World) : Calls Try.prog 21 #[.agg #[.bool b, .int .u64 n]] w fun e w' => e = .returned (.bool (kc b n)) ∧ Kp w w' := by
  cases b with
  | false =>
    have e : kc false n = true := rfl
    rw [e]; clear e
    go_enter Try.func21, Try.ntmps21
    go_wp2_with fail
    go_ret
    exact ⟨rfl, (Kp.refl w).alloc _ _⟩
  | true =>
    by_cases h1 : 1 ≤ n
    · have e : kc true n = decide (n ≤ 9223372036854775808) := by simp [kc, h1]
      rw [e]; clear e
      go_enter Try.func21, Try.ntmps21
      go_wp2_with fail
      go_ret
      exact ⟨rfl, (Kp.refl w).alloc _ _⟩
    · have e : kc true n = false := by simp [kc, h1]
      rw [e]; clear e
      go_enter Try.func21, Try.ntmps21
      go_wp2_with fail
      go_ret
      exact ⟨rfl, (Kp.refl w).alloc _ _⟩
theorem c_minus (b : Bool) (n : Int) (w : World) : Calls Try.prog 30 #[.agg #[.bool b, .int .u64 n]] w fun e w' => e = .returned (.agg #[.bool (!b), .int .u64 n]) ∧ Kp w w' := by
  go_enter Try.func30, Try.ntmps30
  go_wp2_with fail
  go_returns
  exact ⟨rfl, (by (repeat (first | exact Kp.refl _ | refine kback (by assumption) ?_ | refine Kp.setCell ?_ (by simp) _ | refine Kp.alloc ?_ _ _ | refine Kp.drewN ?_ _ | refine Kp.drew ?_)))⟩
/-- tell -/
theorem c_tell (b ok : Bool) (n : Int) (w : World) (hn : 0 ≤ n ∧ n < 18446744073709551616) : Calls Try.prog 23 #[.agg #[.bool b, .int .u64 n], .bool ok] w fun e w' =>
    e = .returned (.tuple #[.bool (rn (tv b n ok)), .int .u64 (rs (tv b n ok)), .int .i64 (re (tv b n ok))]) ∧ Kp w w' := by
  cases ok with
  | false =>
    have t := tv_no b n
    rw [t.1, t.2.1, t.2.2]; clear t hn
    cases b with
    | false =>
      go_enter Try.func23, Try.ntmps23
      go_wp2_with fail
      go_returns
      exact ⟨rfl, (by (repeat (first | exact Kp.refl _ | refine kback (by assumption) ?_ | refine Kp.setCell ?_ (by simp) _ | refine Kp.alloc ?_ _ _ | refine Kp.drewN ?_ _ | refine Kp.drew ?_)))⟩
    | true =>
      go_enter Try.func23, Try.ntmps23
      go_wp2_with fail
      go_returns
      exact ⟨rfl, (by (repeat (first | exact Kp.refl _ | refine kback (by assumption) ?_ | refine Kp.setCell ?_ (by simp) _ | refine Kp.alloc ?_ _ _ | refine Kp.drewN ?_ _ | refine Kp.drew ?_)))⟩
  | true =>
    cases b with
    | false =>
      have t := tv_pos hn
      have k : kc false n = true := rfl
      rw [t.1, t.2.1, t.2.2]; clear t hn
      go_enter Try.func23, Try.ntmps23
      go_wp2_with ((go_at_call 21; with_reducible refine (c_sound _ _ _).mono ?_; rintro e w' ⟨rfl, hk⟩; have hc0 := keepc hk (b := w.heap.size) (o := 0) (v := .bool false) (by simp [go_sem]); have hc1 := keepc hk (b := w.heap.size) (o := 1) (v := .int .u64 n) (by simp [go_sem])))
      go_quiet (fail)
      go_wp2_with fail
      go_returns
      exact ⟨rfl, (by (repeat (first | exact Kp.refl _ | refine kback (by assumption) ?_ | refine Kp.setCell ?_ (by simp) _ | refine Kp.alloc ?_ _ _ | refine Kp.drewN ?_ _ | refine Kp.drew ?_)))⟩
    | true =>
      by_cases h0 : n = 0
      · subst h0
        have t := tv_zero
        have k : kc false 0 = true := rfl
        rw [t.1, t.2.1, t.2.2]; clear t hn
        go_enter Try.func23, Try.ntmps23
        go_wp2_with ((go_at_call 21; with_reducible refine (c_sound _ _ _).mono ?_; rintro e w' ⟨rfl, hk⟩; have hc0 := keepc hk (b := w.heap.size) (o := 0) (v := .bool false) (by simp [go_sem]); have hc1 := keepc hk (b := w.heap.size) (o := 1) (v := .int .u64 0) (by simp [go_sem])))
        go_quiet (fail)
        go_wp2_with fail
        go_returns
        exact ⟨rfl, (by (repeat (first | exact Kp.refl _ | refine kback (by assumption) ?_ | refine Kp.setCell ?_ (by simp) _ | refine Kp.alloc ?_ _ _ | refine Kp.drewN ?_ _ | refine Kp.drew ?_)))⟩
      · have z1 : (n != 0) = true := by simp [h0]
        by_cases h1 : n ≤ 9223372036854775808
        · have t := tv_neg (n := n) (by omega)
          have k : kc true n = true := by simp [kc]; omega
          rw [t.1, t.2.1, t.2.2]; clear t hn h0 h1
          go_enter Try.func23, Try.ntmps23
          go_wp2_with ((go_at_call 21; with_reducible refine (c_sound _ _ _).mono ?_; rintro e w' ⟨rfl, hk⟩; have hc0 := keepc hk (b := w.heap.size) (o := 0) (v := .bool true) (by simp [go_sem]); have hc1 := keepc hk (b := w.heap.size) (o := 1) (v := .int .u64 n) (by simp [go_sem])))
          go_quiet (fail)
          go_wp2_with fail
          go_returns
          exact ⟨rfl, (by (repeat (first | exact Kp.refl _ | refine kback (by assumption) ?_ | refine Kp.setCell ?_ (by simp) _ | refine Kp.alloc ?_ _ _ | refine Kp.drewN ?_ _ | refine Kp.drew ?_)))⟩
        · have t := tv_low (n := n) (by omega)
          have k : kc true n = false := by simp [kc]; omega
          rw [t.1, t.2.1, t.2.2]; clear t hn h0 h1
          go_enter Try.func23, Try.ntmps23
          go_wp2_with (go_at_call 21; with_reducible refine (c_sound _ _ _).mono ?_; rintro e w' ⟨rfl, hk⟩)
          go_returns
          exact ⟨rfl, (by (repeat (first | exact Kp.refl _ | refine kback (by assumption) ?_ | refine Kp.setCell ?_ (by simp) _ | refine Kp.alloc ?_ _ _ | refine Kp.drewN ?_ _ | refine Kp.drew ?_)))⟩
/-! ### math/bits -/
set_option maxHeartbeats 1000000 in
theorem mul64 (x y : Nat) (hx : x < 18446744073709551616) (hy : y < 18446744073709551616) (w : World) :
    Calls Try.prog 41 #[.int .u64 x, .int .u64 y] w fun e w' => e = .returned (.tuple #[.int .u64 ((x * y / 18446744073709551616 : Nat) : Int), .int .u64 ((x * y % 18446744073709551616 : Nat) : Int)]) ∧ w' = w := by
  obtain ⟨bd, bt, bw, hhi⟩ := Lib.mul64_hi x y hx hy
  have ba := Lib.half_mul_le (a := x / 4294967296) (b := y / 4294967296) (by omega) (by omega)
  have bb := Lib.half_mul_le (a := x / 4294967296) (b := y % 4294967296) (by omega) (by omega)
  have bc := Lib.half_mul_le (a := x % 4294967296) (b := y / 4294967296) (by omega) (by omega)
  have ba' : x / 4294967296 * (y / 4294967296) < 18446744073709551616 := by omega
  have bb' : x / 4294967296 * (y % 4294967296) < 18446744073709551616 := by omega
  have bc' : x % 4294967296 * (y / 4294967296) < 18446744073709551616 := by omega
  have bh1 : x / 4294967296 * (y / 4294967296) + (x / 4294967296 * (y % 4294967296) + x % 4294967296 * (y % 4294967296) / 4294967296) / 4294967296 < 18446744073709551616 := by omega
  have bh : x / 4294967296 * (y / 4294967296) + (x / 4294967296 * (y % 4294967296) + x % 4294967296 * (y % 4294967296) / 4294967296) / 4294967296 + ((x / 4294967296 * (y % 4294967296) + x % 4294967296 * (y % 4294967296) / 4294967296) % 4294967296 + x % 4294967296 * (y / 4294967296)) / 4294967296 < 18446744073709551616 := by omega
  go_enter Try.func41, Try.ntmps41
  go_wp2
  simp only [Mul64.maskN x hx, Mul64.maskN y hy, Mul64.divN, Mul64.mulN, Mul64.addN, Mul64.wrapN _ bd, Mul64.wrapN _ bb', Mul64.wrapN _ bt, Mul64.maskN _ bt, Mul64.wrapN _ bc', Mul64.wrapN _ bw, Mul64.wrapN _ ba', Mul64.wrapN _ bh1, Mul64.wrapN _ bh, Mul64.wrapM (x * y)]
  rw [hhi]
  go_ret2
  exact ⟨rfl, rfl⟩
theorem c_Mul64 (x y : Int) (hx : 0 ≤ x ∧ x < 18446744073709551616) (hy : 0 ≤ y ∧ y < 18446744073709551616) (w : World) :
    Calls Try.prog 41 #[.int .u64 x, .int .u64 y] w fun e w' => e = .returned (.tuple #[.int .u64 (x * y / 18446744073709551616), .int .u64 (x * y % 18446744073709551616)]) ∧ w = w' := by
  obtain ⟨x, rfl⟩ := Int.eq_ofNat_of_zero_le hx.1
  obtain ⟨y, rfl⟩ := Int.eq_ofNat_of_zero_le hy.1
  have hx' : x < 18446744073709551616 := by omega
  have hy' : y < 18446744073709551616 := by omega
  clear hx hy
  have e1 : (x : Int) * (y : Int) / 18446744073709551616 = ((x * y / 18446744073709551616 : Nat) : Int) := by simp
  have e2 : (x : Int) * (y : Int) % 18446744073709551616 = ((x * y % 18446744073709551616 : Nat) : Int) := by simp
  rw [e1, e2]; clear e1 e2
  exact (mul64 x y hx' hy' w).mono fun e w' q => ⟨q.1, q.2.symm⟩
theorem add64 (x y : Int) (hx : 0 ≤ x ∧ x < 18446744073709551616) (hy : 0 ≤ y ∧ y < 18446744073709551616) (w : World) :
    (callFunc 45 #[.int .u64 x, .int .u64 y, .int .u64 0]).run Try.prog w =
      .ok (.value (.tuple #[.int .u64 ((x + y) % 18446744073709551616), .int .u64 ((x + y) / 18446744073709551616)])) w := by
  obtain ⟨x, rfl⟩ := Int.eq_ofNat_of_zero_le hx.1
  obtain ⟨y, rfl⟩ := Int.eq_ofNat_of_zero_le hy.1
  rw [run_callFunc_extern (P := Try.prog) (f := 45) (fn := Try.f45) (by kernel_rfl) (by kernel_rfl) (by kernel_rfl) (by kernel_rfl) (e := add64Entry) (by kernel_rfl), run_add64 x y 0 (by omega) (by omega) (by omega) (by omega)]
  simp only [Result.andThen]
  congr 5 <;> omega
end Go.Proofs.Ytihchlkoohficaa
