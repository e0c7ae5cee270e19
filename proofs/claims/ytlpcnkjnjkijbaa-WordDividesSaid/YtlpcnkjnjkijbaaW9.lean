/- What the reference's Shift answers, by plain functions. -/
import Derived.Test.YtlpcnkjnjkijbaaW8
import Derived.Test.YtlpcnkjnjkijbaaW5
namespace Go.Proofs.Ytlpcnkjnjkijbaa
open Go.RowKit Plain
set_option linter.unusedVariables false
theorem f_neg (b x : Value) (w : World) : (Instr.field 42 (.agg #[b, x]) 0).run Try.prog w = .ok b w := by kernel_rfl
theorem f_size (b x : Value) (w : World) : (Instr.field 42 (.agg #[b, x]) 1).run Try.prog w = .ok x w := by kernel_rfl
theorem r_noop (k a b n : Int) (op : ByteArray) (w : World) (x1 : (op.toList == [60, 60]) = false) (x2 : (op.toList == [62, 62]) = false) :
    Calls Try.prog 24 #[.int .i64 k, .string op, .int .u64 a, .int .i64 b, .int .u64 n] w fun e w' => e = .returned (.tuple #[.int .u64 0, .int .i64 2]) ∧ Kp w w' := by
  go_enter Try.func24, Try.ntmps24
  go_wp2_with (go_at_call 17; with_reducible refine (c_Whole _ _).mono ?_; rintro e w' ⟨rfl, rfl⟩)
  go_ret2
  exact ⟨rfl, Kp.refl w⟩
theorem r_shl_k (k a b n : Int) (w : World) (h : wh k = false) :
    Calls Try.prog 24 #[.int .i64 k, .string ⟨#[60, 60]⟩, .int .u64 a, .int .i64 b, .int .u64 n] w fun e w' => e = .returned (.tuple #[.int .u64 (0), .int .i64 2]) ∧ Kp w w' := by
  go_enter Try.func24, Try.ntmps24
  go_wp2_with (go_at_call 17; with_reducible refine (c_Whole _ _).mono ?_; rintro e w' ⟨rfl, rfl⟩)
  go_ret2
  exact ⟨rfl, Kp.refl w⟩
theorem r_shl_b (k a b n : Int) (w : World) (h : wh k = true) (hb : wh b = false) :
    Calls Try.prog 24 #[.int .i64 k, .string ⟨#[60, 60]⟩, .int .u64 a, .int .i64 b, .int .u64 n] w fun e w' => e = .returned (.tuple #[.int .u64 (0), .int .i64 2]) ∧ Kp w w' := by
  go_enter Try.func24, Try.ntmps24
  go_wp2_with (go_at_call 17; with_reducible refine (c_Whole _ _).mono ?_; rintro e w' ⟨rfl, rfl⟩)
  go_ret2
  exact ⟨rfl, Kp.refl w⟩
theorem r_shl_a (k a b n : Int) (w : World) (ha : 0 ≤ a ∧ a < 18446744073709551616) (hn : 0 ≤ n ∧ n < 18446744073709551616) (h : wh k = true) (hb : wh b = true) (hi : iz k a = false) :
    Calls Try.prog 24 #[.int .i64 k, .string ⟨#[60, 60]⟩, .int .u64 a, .int .i64 b, .int .u64 n] w fun e w' => e = .returned (.tuple #[.int .u64 (0), .int .i64 1]) ∧ Kp w w' := by
  have HA := Lib.hid ha
  have HN := Lib.hid hn
  clear ha hn
  go_enter Try.func24, Try.ntmps24
  go_wp2_with (first | (go_at_call 17; with_reducible refine (c_Whole _ _).mono ?_; rintro e w' ⟨rfl, rfl⟩) | (go_at_call 16; with_reducible refine (c_rIs k a _ HA.out).mono ?_; rintro e w' ⟨rfl, rfl⟩))
  go_ret2
  exact ⟨rfl, Kp.refl w⟩
theorem r_shl_n (k a b n : Int) (w : World) (ha : 0 ≤ a ∧ a < 18446744073709551616) (hn : 0 ≤ n ∧ n < 18446744073709551616) (h : wh k = true) (hb : wh b = true) (hi : iz k a = true) (hj : iz b n = false) :
    Calls Try.prog 24 #[.int .i64 k, .string ⟨#[60, 60]⟩, .int .u64 a, .int .i64 b, .int .u64 n] w fun e w' => e = .returned (.tuple #[.int .u64 (0), .int .i64 1]) ∧ Kp w w' := by
  have HA := Lib.hid ha
  have HN := Lib.hid hn
  clear ha hn
  go_enter Try.func24, Try.ntmps24
  go_wp2_with (first | (go_at_call 17; with_reducible refine (c_Whole _ _).mono ?_; rintro e w' ⟨rfl, rfl⟩) | (go_at_call 16; with_reducible refine (c_rIs k a _ HA.out).mono ?_; rintro e w' ⟨rfl, rfl⟩) | (go_at_call 16; with_reducible refine (c_rIs b n _ HN.out).mono ?_; rintro e w' ⟨rfl, rfl⟩))
  go_ret2
  exact ⟨rfl, Kp.refl w⟩
theorem r_shl_neg (k a b n : Int) (w : World) (ha : 0 ≤ a ∧ a < 18446744073709551616) (hn : 0 ≤ n ∧ n < 18446744073709551616) (h : wh k = true) (hb : wh b = true) (hi : iz k a = true) (hj : iz b n = true) (hg : ng b n = true) :
    Calls Try.prog 24 #[.int .i64 k, .string ⟨#[60, 60]⟩, .int .u64 a, .int .i64 b, .int .u64 n] w fun e w' => e = .returned (.tuple #[.int .u64 (0), .int .i64 19]) ∧ Kp w w' := by
  have HA := Lib.hid ha
  have HN := Lib.hid hn
  clear ha hn
  have fn := f_neg
  go_enter Try.func24, Try.ntmps24
  go_wp2_with (first | (go_at_call 17; with_reducible refine (c_Whole _ _).mono ?_; rintro e w' ⟨rfl, rfl⟩) | (go_at_call 16; with_reducible refine (c_rIs k a _ HA.out).mono ?_; rintro e w' ⟨rfl, rfl⟩) | (go_at_call 16; with_reducible refine (c_rIs b n _ HN.out).mono ?_; rintro e w' ⟨rfl, rfl⟩) | (go_at_call 27; with_reducible refine (c_Of b n _ HN.out).mono ?_; rintro e w' ⟨rfl, hk⟩))
  go_ret2
  exact ⟨rfl, hk⟩
theorem r_shr_k (k a b n : Int) (w : World) (h : wh k = false) :
    Calls Try.prog 24 #[.int .i64 k, .string ⟨#[62, 62]⟩, .int .u64 a, .int .i64 b, .int .u64 n] w fun e w' => e = .returned (.tuple #[.int .u64 (0), .int .i64 2]) ∧ Kp w w' := by
  go_enter Try.func24, Try.ntmps24
  go_wp2_with (go_at_call 17; with_reducible refine (c_Whole _ _).mono ?_; rintro e w' ⟨rfl, rfl⟩)
  go_ret2
  exact ⟨rfl, Kp.refl w⟩
theorem r_shr_b (k a b n : Int) (w : World) (h : wh k = true) (hb : wh b = false) :
    Calls Try.prog 24 #[.int .i64 k, .string ⟨#[62, 62]⟩, .int .u64 a, .int .i64 b, .int .u64 n] w fun e w' => e = .returned (.tuple #[.int .u64 (0), .int .i64 2]) ∧ Kp w w' := by
  go_enter Try.func24, Try.ntmps24
  go_wp2_with (go_at_call 17; with_reducible refine (c_Whole _ _).mono ?_; rintro e w' ⟨rfl, rfl⟩)
  go_ret2
  exact ⟨rfl, Kp.refl w⟩
theorem r_shr_a (k a b n : Int) (w : World) (ha : 0 ≤ a ∧ a < 18446744073709551616) (hn : 0 ≤ n ∧ n < 18446744073709551616) (h : wh k = true) (hb : wh b = true) (hi : iz k a = false) :
    Calls Try.prog 24 #[.int .i64 k, .string ⟨#[62, 62]⟩, .int .u64 a, .int .i64 b, .int .u64 n] w fun e w' => e = .returned (.tuple #[.int .u64 (0), .int .i64 1]) ∧ Kp w w' := by
  have HA := Lib.hid ha
  have HN := Lib.hid hn
  clear ha hn
  go_enter Try.func24, Try.ntmps24
  go_wp2_with (first | (go_at_call 17; with_reducible refine (c_Whole _ _).mono ?_; rintro e w' ⟨rfl, rfl⟩) | (go_at_call 16; with_reducible refine (c_rIs k a _ HA.out).mono ?_; rintro e w' ⟨rfl, rfl⟩))
  go_ret2
  exact ⟨rfl, Kp.refl w⟩
theorem r_shr_n (k a b n : Int) (w : World) (ha : 0 ≤ a ∧ a < 18446744073709551616) (hn : 0 ≤ n ∧ n < 18446744073709551616) (h : wh k = true) (hb : wh b = true) (hi : iz k a = true) (hj : iz b n = false) :
    Calls Try.prog 24 #[.int .i64 k, .string ⟨#[62, 62]⟩, .int .u64 a, .int .i64 b, .int .u64 n] w fun e w' => e = .returned (.tuple #[.int .u64 (0), .int .i64 1]) ∧ Kp w w' := by
  have HA := Lib.hid ha
  have HN := Lib.hid hn
  clear ha hn
  go_enter Try.func24, Try.ntmps24
  go_wp2_with (first | (go_at_call 17; with_reducible refine (c_Whole _ _).mono ?_; rintro e w' ⟨rfl, rfl⟩) | (go_at_call 16; with_reducible refine (c_rIs k a _ HA.out).mono ?_; rintro e w' ⟨rfl, rfl⟩) | (go_at_call 16; with_reducible refine (c_rIs b n _ HN.out).mono ?_; rintro e w' ⟨rfl, rfl⟩))
  go_ret2
  exact ⟨rfl, Kp.refl w⟩
theorem r_shr_neg (k a b n : Int) (w : World) (ha : 0 ≤ a ∧ a < 18446744073709551616) (hn : 0 ≤ n ∧ n < 18446744073709551616) (h : wh k = true) (hb : wh b = true) (hi : iz k a = true) (hj : iz b n = true) (hg : ng b n = true) :
    Calls Try.prog 24 #[.int .i64 k, .string ⟨#[62, 62]⟩, .int .u64 a, .int .i64 b, .int .u64 n] w fun e w' => e = .returned (.tuple #[.int .u64 (0), .int .i64 19]) ∧ Kp w w' := by
  have HA := Lib.hid ha
  have HN := Lib.hid hn
  clear ha hn
  have fn := f_neg
  go_enter Try.func24, Try.ntmps24
  go_wp2_with (first | (go_at_call 17; with_reducible refine (c_Whole _ _).mono ?_; rintro e w' ⟨rfl, rfl⟩) | (go_at_call 16; with_reducible refine (c_rIs k a _ HA.out).mono ?_; rintro e w' ⟨rfl, rfl⟩) | (go_at_call 16; with_reducible refine (c_rIs b n _ HN.out).mono ?_; rintro e w' ⟨rfl, rfl⟩) | (go_at_call 27; with_reducible refine (c_Of b n _ HN.out).mono ?_; rintro e w' ⟨rfl, hk⟩))
  go_ret2
  exact ⟨rfl, hk⟩
theorem r_shl (k a b n : Int) (w : World) (ha : 0 ≤ a ∧ a < 18446744073709551616) (hn : 0 ≤ n ∧ n < 18446744073709551616) (h : wh k = true) (hb : wh b = true) (hi : iz k a = true) (hj : iz b n = true) (hg : ng b n = false) :
    Calls Try.prog 24 #[.int .i64 k, .string ⟨#[60, 60]⟩, .int .u64 a, .int .i64 b, .int .u64 n] w fun e w' => e = .returned (.tuple #[.int .u64 (wr k (a * 2 ^ min n.toNat 64)), .int .i64 0]) ∧ Kp w w' := by
  have HA := Lib.hid ha
  have HN := Lib.hid hn
  have hn0 : 0 ≤ n := hn.1
  have hz := Lib.hid (show a = wr k (a * 2 ^ 0) by have : wr k a = a := (by simpa [iz] using hi); simp [this])
  clear ha hn
  have fn := f_neg
  go_enter Try.func24, Try.ntmps24
  go_wp2_with (first | (go_at_call 17; with_reducible refine (c_Whole _ _).mono ?_; rintro e w' ⟨rfl, rfl⟩) | (go_at_call 16; with_reducible refine (c_rIs k a _ HA.out).mono ?_; rintro e w' ⟨rfl, rfl⟩) | (go_at_call 16; with_reducible refine (c_rIs b n _ HN.out).mono ?_; rintro e w' ⟨rfl, rfl⟩) | (go_at_call 27; with_reducible refine (c_Of b n _ HN.out).mono ?_; rintro e w' ⟨rfl, hk⟩))
  go_loop [2, 12] (fun o i => ∃ j : Nat, j ≤ min n.toNat 64 ∧ i = .int .u64 j ∧ o = .int .u64 (wr k (a * 2 ^ j))) (fun _ i => 64 - (intOf i).toNat)
  case atStart => exact ⟨0, by omega, rfl, by rw [← hz.out]⟩
  case round =>
    obtain ⟨j, hj2, rfl, rfl⟩ := hrel
    by_cases hlt : j < min n.toNat 64
    · have q1 : (j : Int) < n := by omega
      have q2 : j < 64 := by omega
      have q3 := Lib.hid (shl_next h a j)
      clear hlt hj2
      go_wp2_with (go_at_call 20; with_reducible refine (c_rWrap _ _ _ h (u64_r _)).mono ?_; rintro e w' ⟨rfl, rfl⟩)
      go_round
      case rel => exact ⟨j + 1, by omega, by go_num, by rw [q3.out]⟩
      case measure => simp [intOf]; omega
    · have hj3 : j = min n.toNat 64 := by omega
      by_cases q1 : (j : Int) < n
      · have q2 : ¬ j < 64 := by omega
        go_wp2_with (go_at_call 20; with_reducible refine (c_rWrap _ _ _ h (u64_r _)).mono ?_; rintro e w' ⟨rfl, rfl⟩)
        go_ret2
        exact ⟨ret_pair rfl, hk⟩
      · go_wp2_with (go_at_call 20; with_reducible refine (c_rWrap _ _ _ h (u64_r _)).mono ?_; rintro e w' ⟨rfl, rfl⟩)
        go_ret2
        exact ⟨ret_pair rfl, hk⟩
theorem r_shr (k a b n : Int) (w : World) (ha : 0 ≤ a ∧ a < 18446744073709551616) (hn : 0 ≤ n ∧ n < 18446744073709551616) (h : wh k = true) (hb : wh b = true) (hi : iz k a = true) (hj : iz b n = true) (hg : ng b n = false) :
    Calls Try.prog 24 #[.int .i64 k, .string ⟨#[62, 62]⟩, .int .u64 a, .int .i64 b, .int .u64 n] w fun e w' => e = .returned (.tuple #[.int .u64 (dn k a n.toNat), .int .i64 0]) ∧ Kp w w' := by
  have HA := Lib.hid ha
  have HN := Lib.hid hn
  have hn0 : 0 ≤ n := hn.1
  have hz := Lib.hid (dn_0 (k := k) ha)
  have hr := Lib.hid (show 0 ≤ a ∧ a ≤ 18446744073709551615 by omega)
  have fn := f_neg
  clear ha hn
  go_enter Try.func24, Try.ntmps24
  go_wp2_with (first | (go_at_call 17; with_reducible refine (c_Whole _ _).mono ?_; rintro e w' ⟨rfl, rfl⟩) | (go_at_call 16; with_reducible refine (c_rIs k a _ HA.out).mono ?_; rintro e w' ⟨rfl, rfl⟩) | (go_at_call 16; with_reducible refine (c_rIs b n _ HN.out).mono ?_; rintro e w' ⟨rfl, rfl⟩) | (go_at_call 27; with_reducible refine (c_Of b n _ HN.out).mono ?_; rintro e w' ⟨rfl, hk⟩))
  go_loopw [2, 12] (fun o i wr => ∃ j : Nat, j ≤ min n.toNat 64 ∧ i = .int .u64 j ∧ ∃ D : Int, (0 ≤ D ∧ D ≤ 18446744073709551615) ∧ Hid (D = dn k a j) ∧ o = .int .u64 D ∧ Kp w wr) (fun _ i _ => 64 - (intOf i).toNat)
  case atStart => exact ⟨0, by omega, rfl, a, hr.out, hz, rfl, hk⟩
  case round =>
    obtain ⟨j, hj2, rfl, D, ⟨hD0, hD1⟩, hD, rfl, hkw⟩ := hrel
    have HD := Lib.hid (show 0 ≤ D ∧ D < 18446744073709551616 by omega)
    by_cases hlt : j < min n.toNat 64
    · have q1 : (j : Int) < n := by omega
      have q2 : j < 64 := by omega
      have q3 := dn_next (k := k) h hi HD.out hD.out
      clear hlt hj2
      cases hv : ng k D with
      | true =>
        have q4 := Lib.hid (q3.1 hv)
        clear q3
        go_wp2_with (go_at_call 27; with_reducible refine (c_Of k D _ HD.out).mono ?_; rintro e w' ⟨rfl, hk⟩)
        go_roundw
        case rel => exact ⟨j + 1, by omega, by go_num, _, by omega, q4, rfl, hkw.trans hk⟩
        case measure => simp [intOf]; omega
      | false =>
        have q4 := Lib.hid (q3.2 hv)
        clear q3
        go_wp2_with (go_at_call 27; with_reducible refine (c_Of k D _ HD.out).mono ?_; rintro e w' ⟨rfl, hk⟩)
        go_roundw
        case rel => exact ⟨j + 1, by omega, by go_num, _, by omega, q4, rfl, hkw.trans hk⟩
        case measure => simp [intOf]; omega
    · have hj3 : j = min n.toNat 64 := by omega
      have hE : D = dn k a n.toNat := by rw [hD.out, hj3]; show _ / 2 ^ min (min n.toNat 64) 64 % _ = _ / 2 ^ min n.toNat 64 % _; rw [Nat.min_eq_left (by omega)]
      have HE := Lib.hid hE
      clear hE
      by_cases q1 : (j : Int) < n
      · have q2 : ¬ j < 64 := by omega
        go_wp2_with (go_at_call 27; with_reducible refine (c_Of k D _ HD.out).mono ?_; rintro e w' ⟨rfl, hk⟩)
        go_ret2
        exact ⟨ret_pair HE.out, hkw⟩
      · go_wp2_with (go_at_call 27; with_reducible refine (c_Of k D _ HD.out).mono ?_; rintro e w' ⟨rfl, hk⟩)
        go_ret2
        exact ⟨ret_pair HE.out, hkw⟩
end Go.Proofs.Ytlpcnkjnjkijbaa
