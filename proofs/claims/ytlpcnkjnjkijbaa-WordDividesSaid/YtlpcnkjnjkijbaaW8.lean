/- What the reference's Of, signed, bitwise, Arith and Shift answer: the same plain functions. -/
import Derived.Test.YtlpcnkjnjkijbaaW4
import Derived.Test.YtlpcnkjnjkijbaaPlain2
namespace Go.Proofs.Ytlpcnkjnjkijbaa
open Go.RowKit Plain
set_option linter.unusedVariables false
theorem c_Of (k n : Int) (w : World) (hn : 0 ≤ n ∧ n < 18446744073709551616) :
    Calls Try.prog 27 #[.int .i64 k, .int .u64 n] w fun e w' => e = .returned (.agg #[.bool (ng k n), .int .u64 (sz k n)]) ∧ Kp w w' := by
  cases hs : sg k with
  | true =>
    by_cases hb : 9223372036854775808 ≤ n
    · have e1 : ng k n = true := by simp [ng, hs, hb]
      have e2 : sz k n = IntKind.u64.wrap (-n) := by simp [sz, e1, IntKind.wrap_u64]; omega
      rw [e1, e2]; clear e1 e2 hn
      go_enter Try.func27, Try.ntmps27
      go_wp2_with (go_at_call 19; with_reducible refine (c_rSigned _ _).mono ?_; rintro e w' ⟨rfl, rfl⟩)
      go_returns
      exact ⟨rfl, (Kp.refl w).alloc _ _⟩
    · have e1 : ng k n = false := by simp [ng, hs]; omega
      have e2 : sz k n = n := by simp [sz, e1]
      rw [e1, e2]; clear e1 e2 hn
      go_enter Try.func27, Try.ntmps27
      go_wp2_with (go_at_call 19; with_reducible refine (c_rSigned _ _).mono ?_; rintro e w' ⟨rfl, rfl⟩)
      go_returns
      exact ⟨rfl, (Kp.refl w).alloc _ _⟩
  | false =>
    have e1 : ng k n = false := by simp [ng, hs]
    have e2 : sz k n = n := by simp [sz, e1]
    rw [e1, e2]; clear e1 e2 hn
    go_enter Try.func27, Try.ntmps27
    go_wp2_with (go_at_call 19; with_reducible refine (c_rSigned _ _).mono ?_; rintro e w' ⟨rfl, rfl⟩)
    go_returns
    exact ⟨rfl, (Kp.refl w).alloc _ _⟩
/-- The reference's signed: a size with a sign, wrapped. -/
theorem c_signed (k n : Int) (neg : Bool) (w : World) (h : wh k = true) (hn : 0 ≤ n ∧ n < 18446744073709551616) :
    Calls Try.prog 38 #[.int .i64 k, .bool neg, .int .u64 n] w fun e w' => e = .returned (.int .u64 (wr k (if neg then -n else n))) ∧ w = w' := by
  have HN := Lib.hid hn
  cases neg with
  | true =>
    have hq : wr k (IntKind.u64.wrap (-n)) = wr k (if true = true then -n else n) := by rw [wr_u64 h]; simp
    have hr := u64_r (-n)
    rw [← hq]
    have HQ := Lib.hid hr
    clear hq hr hn
    go_enter Try.func38, Try.ntmps38
    go_wp2_with (go_at_call 20; with_reducible refine (c_rWrap _ _ _ h HQ.out).mono ?_; rintro e w' ⟨rfl, rfl⟩)
    go_ret
    exact ⟨rfl, rfl⟩
  | false =>
    have hq : wr k n = wr k (if false = true then -n else n) := by simp
    rw [← hq]
    clear hq hn
    go_enter Try.func38, Try.ntmps38
    go_wp2_with (go_at_call 20; with_reducible refine (c_rWrap _ _ _ h HN.out).mono ?_; rintro e w' ⟨rfl, rfl⟩)
    go_ret
    exact ⟨rfl, rfl⟩

/-- The reference's bitwise, of and. -/
theorem c_bw_and (a b : Int) (w : World) (ha : 0 ≤ a ∧ a < 18446744073709551616) (hb : 0 ≤ b ∧ b < 18446744073709551616) :
    Calls Try.prog 39 #[.string ⟨#[38]⟩, .int .u64 a, .int .u64 b] w fun e w' => e = .returned (.int .u64 (ban a b)) ∧ w = w' := by
  have HA := Lib.hid ha
  have HB := Lib.hid hb
  clear ha hb
  go_enter Try.func39, Try.ntmps39
  go_wp2_with fail
  go_loop [7, 8] (fun o i => ∃ j : Nat, j ≤ 64 ∧ i = .int .u64 j ∧ o = .int .u64 (low (ban a b) j)) (fun _ i => 64 - (intOf i).toNat)
  case atStart => exact ⟨0, by omega, rfl, by rw [← low_0 (ban a b)]⟩
  case round =>
    obtain ⟨j, hj, rfl, rfl⟩ := hrel
    by_cases hlt : j < 64
    · cases xa : ((a / 2 ^ j).tmod 2 == 1) with
      | true =>
        cases yb : ((b / 2 ^ j).tmod 2 == 1) with
        | true =>
          go_wp2_with fail
          go_round
          case rel => exact ⟨j + 1, by omega, by go_num, by rw [st_on hlt (ban_0 a b) (by rw [tb_and HA.out HB.out, xa, yb]; rfl)]⟩
          case measure => simp [intOf]; omega
        | false =>
          go_wp2_with fail
          go_round
          case rel => exact ⟨j + 1, by omega, by go_num, by rw [st_off (ban_0 a b) (by rw [tb_and HA.out HB.out, xa, yb]; rfl)]⟩
          case measure => simp [intOf]; omega
      | false =>
        cases yb : ((b / 2 ^ j).tmod 2 == 1) with
        | true =>
          go_wp2_with fail
          go_round
          case rel => exact ⟨j + 1, by omega, by go_num, by rw [st_off (ban_0 a b) (by rw [tb_and HA.out HB.out, xa, yb]; rfl)]⟩
          case measure => simp [intOf]; omega
        | false =>
          go_wp2_with fail
          go_round
          case rel => exact ⟨j + 1, by omega, by go_num, by rw [st_off (ban_0 a b) (by rw [tb_and HA.out HB.out, xa, yb]; rfl)]⟩
          case measure => simp [intOf]; omega
    · obtain rfl : j = 64 := by omega
      have hl := low_64 (ban_r (b := b) HA.out)
      go_wp2_with fail
      go_ret
      exact ⟨rfl, rfl⟩
/-- The reference's bitwise, of or. -/
theorem c_bw_or (a b : Int) (w : World) (ha : 0 ≤ a ∧ a < 18446744073709551616) (hb : 0 ≤ b ∧ b < 18446744073709551616) :
    Calls Try.prog 39 #[.string ⟨#[124]⟩, .int .u64 a, .int .u64 b] w fun e w' => e = .returned (.int .u64 (bor a b)) ∧ w = w' := by
  have HA := Lib.hid ha
  have HB := Lib.hid hb
  clear ha hb
  go_enter Try.func39, Try.ntmps39
  go_wp2_with fail
  go_loop [7, 8] (fun o i => ∃ j : Nat, j ≤ 64 ∧ i = .int .u64 j ∧ o = .int .u64 (low (bor a b) j)) (fun _ i => 64 - (intOf i).toNat)
  case atStart => exact ⟨0, by omega, rfl, by rw [← low_0 (bor a b)]⟩
  case round =>
    obtain ⟨j, hj, rfl, rfl⟩ := hrel
    by_cases hlt : j < 64
    · cases xa : ((a / 2 ^ j).tmod 2 == 1) with
      | true =>
        cases yb : ((b / 2 ^ j).tmod 2 == 1) with
        | true =>
          go_wp2_with fail
          go_round
          case rel => exact ⟨j + 1, by omega, by go_num, by rw [st_on hlt (bor_0 a b) (by rw [tb_or HA.out HB.out, xa, yb]; rfl)]⟩
          case measure => simp [intOf]; omega
        | false =>
          go_wp2_with fail
          go_round
          case rel => exact ⟨j + 1, by omega, by go_num, by rw [st_on hlt (bor_0 a b) (by rw [tb_or HA.out HB.out, xa, yb]; rfl)]⟩
          case measure => simp [intOf]; omega
      | false =>
        cases yb : ((b / 2 ^ j).tmod 2 == 1) with
        | true =>
          go_wp2_with fail
          go_round
          case rel => exact ⟨j + 1, by omega, by go_num, by rw [st_on hlt (bor_0 a b) (by rw [tb_or HA.out HB.out, xa, yb]; rfl)]⟩
          case measure => simp [intOf]; omega
        | false =>
          go_wp2_with fail
          go_round
          case rel => exact ⟨j + 1, by omega, by go_num, by rw [st_off (bor_0 a b) (by rw [tb_or HA.out HB.out, xa, yb]; rfl)]⟩
          case measure => simp [intOf]; omega
    · obtain rfl : j = 64 := by omega
      have hl := low_64 (bor_r HA.out HB.out)
      go_wp2_with fail
      go_ret
      exact ⟨rfl, rfl⟩
/-- The reference's bitwise, of xor. -/
theorem c_bw_xor (a b : Int) (w : World) (ha : 0 ≤ a ∧ a < 18446744073709551616) (hb : 0 ≤ b ∧ b < 18446744073709551616) :
    Calls Try.prog 39 #[.string ⟨#[94]⟩, .int .u64 a, .int .u64 b] w fun e w' => e = .returned (.int .u64 (bxo a b)) ∧ w = w' := by
  have HA := Lib.hid ha
  have HB := Lib.hid hb
  clear ha hb
  go_enter Try.func39, Try.ntmps39
  go_wp2_with fail
  go_loop [7, 8] (fun o i => ∃ j : Nat, j ≤ 64 ∧ i = .int .u64 j ∧ o = .int .u64 (low (bxo a b) j)) (fun _ i => 64 - (intOf i).toNat)
  case atStart => exact ⟨0, by omega, rfl, by rw [← low_0 (bxo a b)]⟩
  case round =>
    obtain ⟨j, hj, rfl, rfl⟩ := hrel
    by_cases hlt : j < 64
    · cases xa : ((a / 2 ^ j).tmod 2 == 1) with
      | true =>
        cases yb : ((b / 2 ^ j).tmod 2 == 1) with
        | true =>
          go_wp2_with fail
          go_round
          case rel => exact ⟨j + 1, by omega, by go_num, by rw [st_off (bxo_0 a b) (by rw [tb_xor HA.out HB.out, xa, yb]; rfl)]⟩
          case measure => simp [intOf]; omega
        | false =>
          go_wp2_with fail
          go_round
          case rel => exact ⟨j + 1, by omega, by go_num, by rw [st_on hlt (bxo_0 a b) (by rw [tb_xor HA.out HB.out, xa, yb]; rfl)]⟩
          case measure => simp [intOf]; omega
      | false =>
        cases yb : ((b / 2 ^ j).tmod 2 == 1) with
        | true =>
          go_wp2_with fail
          go_round
          case rel => exact ⟨j + 1, by omega, by go_num, by rw [st_on hlt (bxo_0 a b) (by rw [tb_xor HA.out HB.out, xa, yb]; rfl)]⟩
          case measure => simp [intOf]; omega
        | false =>
          go_wp2_with fail
          go_round
          case rel => exact ⟨j + 1, by omega, by go_num, by rw [st_off (bxo_0 a b) (by rw [tb_xor HA.out HB.out, xa, yb]; rfl)]⟩
          case measure => simp [intOf]; omega
    · obtain rfl : j = 64 := by omega
      have hl := low_64 (bxo_r HA.out HB.out)
      go_wp2_with fail
      go_ret
      exact ⟨rfl, rfl⟩
/-- The reference's bitwise, of not. -/
theorem c_bw_not (a b : Int) (w : World) (ha : 0 ≤ a ∧ a < 18446744073709551616) (hb : 0 ≤ b ∧ b < 18446744073709551616) :
    Calls Try.prog 39 #[.string ⟨#[38, 94]⟩, .int .u64 a, .int .u64 b] w fun e w' => e = .returned (.int .u64 (bnt a b)) ∧ w = w' := by
  have HA := Lib.hid ha
  have HB := Lib.hid hb
  clear ha hb
  go_enter Try.func39, Try.ntmps39
  go_wp2_with fail
  go_loop [7, 8] (fun o i => ∃ j : Nat, j ≤ 64 ∧ i = .int .u64 j ∧ o = .int .u64 (low (bnt a b) j)) (fun _ i => 64 - (intOf i).toNat)
  case atStart => exact ⟨0, by omega, rfl, by rw [← low_0 (bnt a b)]⟩
  case round =>
    obtain ⟨j, hj, rfl, rfl⟩ := hrel
    by_cases hlt : j < 64
    · cases xa : ((a / 2 ^ j).tmod 2 == 1) with
      | true =>
        cases yb : ((b / 2 ^ j).tmod 2 == 1) with
        | true =>
          go_wp2_with fail
          go_round
          case rel => exact ⟨j + 1, by omega, by go_num, by rw [st_off (bnt_0 a b) (by rw [tb_not HA.out HB.out, xa, yb]; rfl)]⟩
          case measure => simp [intOf]; omega
        | false =>
          go_wp2_with fail
          go_round
          case rel => exact ⟨j + 1, by omega, by go_num, by rw [st_on hlt (bnt_0 a b) (by rw [tb_not HA.out HB.out, xa, yb]; rfl)]⟩
          case measure => simp [intOf]; omega
      | false =>
        cases yb : ((b / 2 ^ j).tmod 2 == 1) with
        | true =>
          go_wp2_with fail
          go_round
          case rel => exact ⟨j + 1, by omega, by go_num, by rw [st_off (bnt_0 a b) (by rw [tb_not HA.out HB.out, xa, yb]; rfl)]⟩
          case measure => simp [intOf]; omega
        | false =>
          go_wp2_with fail
          go_round
          case rel => exact ⟨j + 1, by omega, by go_num, by rw [st_off (bnt_0 a b) (by rw [tb_not HA.out HB.out, xa, yb]; rfl)]⟩
          case measure => simp [intOf]; omega
    · obtain rfl : j = 64 := by omega
      have hl := low_64 (bnt_r (b := b) HA.out)
      go_wp2_with fail
      go_ret
      exact ⟨rfl, rfl⟩
end Go.Proofs.Ytlpcnkjnjkijbaa
