/- What add, shiftUp, shiftDown, combineBits and combine of package konst answer, by plain functions. Condition: a size is between 0 and 2 to the 64. -/
import Derived.Test.YtihchlkoohficaaK3
import Derived.Deep.RegionHeld3
namespace Go.Proofs.Ytihchlkoohficaa
open Go.RowKit Plain
set_option linter.unusedVariables false
theorem add_cc {m n : Int} (hm : 0 ≤ m ∧ m < 18446744073709551616) (hn : 0 ≤ n ∧ n < 18446744073709551616) : decide (m + n < 18446744073709551616) = ((m + n) / 18446744073709551616 == 0) := by
  rw [Bool.eq_iff_iff]; simp; omega
theorem ret_agg {a b : Bool} {x y : Int} {k l : Bool} (h1 : a = b) (h2 : x = y) (h3 : k = l) : Ending.returned (.tuple #[.agg #[.bool a, .int .u64 x], .bool k]) = .returned (.tuple #[.agg #[.bool b, .int .u64 y], .bool l]) := by rw [h1, h2, h3]
theorem c_add (a : Bool) (m : Int) (b : Bool) (n : Int) (w : World) (hm : 0 ≤ m ∧ m < 18446744073709551616) (hn : 0 ≤ n ∧ n < 18446744073709551616) : Calls Try.prog 31 #[.agg #[.bool a, .int .u64 m], .agg #[.bool b, .int .u64 n]] w fun e w' =>
    e = .returned (.tuple #[.agg #[.bool (aB a m b n), .int .u64 (aN a m b n)], .bool (aK a m b n)]) ∧ Kp w w' := by
  have HM := Lib.hid hm
  have HN := Lib.hid hn
  by_cases hab : a = b
  · subst hab
    have e1 : aB a m a n = a := by simp [aB]
    have e2 : aN a m a n = (m + n) % 18446744073709551616 := by simp [aN]
    have e3 : aK a m a n = ((m + n) / 18446744073709551616 == 0) := by rw [← add_cc hm hn]; simp [aK]
    rw [e1, e2, e3]; clear e1 e2 e3 hm hn
    cases a with
    | false =>
      go_enter Try.func31, Try.ntmps31
      go_wp2_with (simp only [add64 _ _ HM.out HN.out])
      go_returns
      exact ⟨rfl, (by (repeat (first | exact Kp.refl _ | refine kback (by assumption) ?_ | refine Kp.setCell ?_ (by simp) _ | refine Kp.alloc ?_ _ _ | refine Kp.drewN ?_ _ | refine Kp.drew ?_)))⟩
    | true =>
      go_enter Try.func31, Try.ntmps31
      go_wp2_with (simp only [add64 _ _ HM.out HN.out])
      go_returns
      exact ⟨rfl, (by (repeat (first | exact Kp.refl _ | refine kback (by assumption) ?_ | refine Kp.setCell ?_ (by simp) _ | refine Kp.alloc ?_ _ _ | refine Kp.drewN ?_ _ | refine Kp.drew ?_)))⟩
  · have e3 : aK a m b n = true := by simp [aK, hab]
    by_cases hl : m < n
    · have e1 : aB a m b n = b := by simp [aB, hab, hl]
      have e2 : aN a m b n = n - m := by simp [aN, hab, hl]
      have hw : IntKind.u64.wrap (n - m) = n - m := u64_id (by omega)
      rw [e1, e2, e3]; clear e1 e2 e3 hm hn
      cases a <;> cases b <;> (try exact absurd rfl hab)
      · clear hab
        go_enter Try.func31, Try.ntmps31
        go_wp2_with fail
        go_returns
        exact ⟨rfl, (by (repeat (first | exact Kp.refl _ | refine kback (by assumption) ?_ | refine Kp.setCell ?_ (by simp) _ | refine Kp.alloc ?_ _ _ | refine Kp.drewN ?_ _ | refine Kp.drew ?_)))⟩
      · clear hab
        go_enter Try.func31, Try.ntmps31
        go_wp2_with fail
        go_returns
        exact ⟨rfl, (by (repeat (first | exact Kp.refl _ | refine kback (by assumption) ?_ | refine Kp.setCell ?_ (by simp) _ | refine Kp.alloc ?_ _ _ | refine Kp.drewN ?_ _ | refine Kp.drew ?_)))⟩
    · have e1 : aB a m b n = a := by simp [aB, hab, hl]
      have e2 : aN a m b n = m - n := by simp [aN, hab, hl]
      have hw : IntKind.u64.wrap (m - n) = m - n := u64_id (by omega)
      rw [e1, e2, e3]; clear e1 e2 e3 hm hn
      cases a <;> cases b <;> (try exact absurd rfl hab)
      · clear hab
        go_enter Try.func31, Try.ntmps31
        go_wp2_with fail
        go_returns
        exact ⟨rfl, (by (repeat (first | exact Kp.refl _ | refine kback (by assumption) ?_ | refine Kp.setCell ?_ (by simp) _ | refine Kp.alloc ?_ _ _ | refine Kp.drewN ?_ _ | refine Kp.drew ?_)))⟩
      · clear hab
        go_enter Try.func31, Try.ntmps31
        go_wp2_with fail
        go_returns
        exact ⟨rfl, (by (repeat (first | exact Kp.refl _ | refine kback (by assumption) ?_ | refine Kp.setCell ?_ (by simp) _ | refine Kp.alloc ?_ _ _ | refine Kp.drewN ?_ _ | refine Kp.drew ?_)))⟩
/-- Shifted up, the lowest 64 bits. -/
def uN (m n : Int) : Int := IntKind.u64.wrap (m * 2 ^ min n.toNat 64)
def uK (m n : Int) : Bool := uN m n / 2 ^ min n.toNat 64 == m
/-- Shifted down, downwards. -/
def dN (a : Bool) (m n : Int) : Int := if a then (m - 1) / 2 ^ min n.toNat 64 + 1 else m / 2 ^ min n.toNat 64
theorem c_shiftUp (a : Bool) (m n : Int) (w : World) (hn : 0 ≤ n) : Calls Try.prog 42 #[.agg #[.bool a, .int .u64 m], .int .u64 n] w fun e w' =>
    e = .returned (.tuple #[.agg #[.bool a, .int .u64 (uN m n)], .bool (uK m n)]) ∧ Kp w w' := by
  unfold uK uN
  go_enter Try.func42, Try.ntmps42
  go_wp2_with fail
  go_region
  all_goals (go_wp2_with fail; go_returns; exact ⟨rfl, (by (repeat (first | exact Kp.refl _ | refine kback (by assumption) ?_ | refine Kp.setCell ?_ (by simp) _ | refine Kp.alloc ?_ _ _ | refine Kp.drewN ?_ _ | refine Kp.drew ?_)))⟩)
theorem dn_range {m : Int} (j : Nat) (hm : 0 ≤ m ∧ m < 18446744073709551616) : 0 ≤ m / 2 ^ j ∧ m / 2 ^ j ≤ m := ⟨Int.ediv_nonneg hm.1 (Int.le_of_lt (pow_pos2 j)), Int.ediv_le_self _ hm.1⟩
theorem c_shiftDown (a : Bool) (m n : Int) (w : World) (hn : 0 ≤ n) (hm : 0 ≤ m ∧ m < 18446744073709551616) (hk : kc a m = true) : Calls Try.prog 43 #[.agg #[.bool a, .int .u64 m], .int .u64 n] w fun e w' =>
    e = .returned (.agg #[.bool a, .int .u64 (dN a m n)]) ∧ Kp w w' := by
  cases a with
  | false =>
    have e1 : dN false m n = m / 2 ^ min n.toNat 64 := by simp [dN]
    rw [e1]; clear e1 hk
    go_enter Try.func43, Try.ntmps43
    go_wp2_with fail
    go_returns
    exact ⟨rfl, (by (repeat (first | exact Kp.refl _ | refine kback (by assumption) ?_ | refine Kp.setCell ?_ (by simp) _ | refine Kp.alloc ?_ _ _ | refine Kp.drewN ?_ _ | refine Kp.drew ?_)))⟩
  | true =>
    have e1 : dN true m n = (m - 1) / 2 ^ min n.toNat 64 + 1 := by simp [dN]
    have hk1 : 1 ≤ m ∧ m ≤ 9223372036854775808 := by simpa [kc] using hk
    have w1 : IntKind.u64.wrap (m - 1) = m - 1 := u64_id (by omega)
    have hd := dn_range (m := m - 1) (min n.toNat 64) (by omega)
    have w2 : IntKind.u64.wrap ((m - 1) / 2 ^ min n.toNat 64 + 1) = (m - 1) / 2 ^ min n.toNat 64 + 1 := u64_id (by omega)
    rw [e1]; clear e1 hk hd hk1
    go_enter Try.func43, Try.ntmps43
    go_wp2_with fail
    go_returns
    exact ⟨rfl, (by (repeat (first | exact Kp.refl _ | refine kback (by assumption) ?_ | refine Kp.setCell ?_ (by simp) _ | refine Kp.alloc ?_ _ _ | refine Kp.drewN ?_ _ | refine Kp.drew ?_)))⟩
theorem cb_and (m n : Int) (w : World) (hm : 0 ≤ m ∧ m < 18446744073709551616) (hn : 0 ≤ n ∧ n < 18446744073709551616) : Calls Try.prog 44 #[.string ⟨#[38]⟩, .int .u64 m, .int .u64 n] w fun e w' => e = .returned (.int .u64 (ban m n)) ∧ w = w' := by
  rw [← l_and hm hn]; clear hm hn
  go_enter Try.func44, Try.ntmps44
  go_wp2_with fail
  go_ret
  exact ⟨rfl, rfl⟩
theorem cb_or (m n : Int) (w : World) (hm : 0 ≤ m ∧ m < 18446744073709551616) (hn : 0 ≤ n ∧ n < 18446744073709551616) : Calls Try.prog 44 #[.string ⟨#[124]⟩, .int .u64 m, .int .u64 n] w fun e w' => e = .returned (.int .u64 (bor m n)) ∧ w = w' := by
  rw [← l_or hm hn]; clear hm hn
  go_enter Try.func44, Try.ntmps44
  go_wp2_with fail
  go_ret
  exact ⟨rfl, rfl⟩
theorem cb_xor (m n : Int) (w : World) (hm : 0 ≤ m ∧ m < 18446744073709551616) (hn : 0 ≤ n ∧ n < 18446744073709551616) : Calls Try.prog 44 #[.string ⟨#[94]⟩, .int .u64 m, .int .u64 n] w fun e w' => e = .returned (.int .u64 (bxo m n)) ∧ w = w' := by
  rw [← l_xor hm hn]; clear hm hn
  go_enter Try.func44, Try.ntmps44
  go_wp2_with fail
  go_ret
  exact ⟨rfl, rfl⟩
theorem cb_not (m n : Int) (w : World) (hm : 0 ≤ m ∧ m < 18446744073709551616) (hn : 0 ≤ n ∧ n < 18446744073709551616) : Calls Try.prog 44 #[.string ⟨#[38, 94]⟩, .int .u64 m, .int .u64 n] w fun e w' => e = .returned (.int .u64 (bnt m n)) ∧ w = w' := by
  rw [← l_not hm hn]; clear hm hn
  go_enter Try.func44, Try.ntmps44
  go_wp2_with fail
  go_ret
  exact ⟨rfl, rfl⟩
end Go.Proofs.Ytihchlkoohficaa
