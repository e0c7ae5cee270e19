/- What Fold, Unary and Compare of package konst tell, by the numbers that the constants stand for. Conditions: the constants are sound, a size is between 0 and 2 to the 64. -/
import Derived.Test.YtihchlkoohficaaK7
import Derived.Test.YtihchlkoohficaaKQ
namespace Go.Proofs.Ytihchlkoohficaa
open Go.RowKit Plain
set_option linter.unusedVariables false
/-- What is told of a number. -/
def told3 (v : Int) : Ending := .returned (.tuple #[.bool (rn v), .int .u64 (rs v), .int .i64 (re v)])
theorem told_eq {u v : Int} (h : u = v ∨ (ft u = false ∧ ft v = false)) : told3 u = told3 v := by
  obtain ⟨h1, h2, h3⟩ := tell_same h
  unfold told3; rw [h1, h2, h3]
theorem dN_r {a : Bool} {m n : Int} (ka : kc a m = true) (hm : 0 ≤ m ∧ m < 18446744073709551616) : 0 ≤ dN a m n ∧ dN a m n < 18446744073709551616 := by
  unfold dN
  cases a with
  | false => have := dn_range (m := m) (min n.toNat 64) hm; simp; omega
  | true =>
    have hk : 1 ≤ m ∧ m ≤ 9223372036854775808 := by simpa [kc] using ka
    have := dn_range (m := m - 1) (min n.toNat 64) (by omega); simp; omega
section
variable {a b : Bool} {m n : Int} (ka : kc a m = true) (kb : kc b n = true) (hm : 0 ≤ m ∧ m < 18446744073709551616) (hn : 0 ≤ n ∧ n < 18446744073709551616)
include ka kb hm hn
theorem v_add (w : World) : Calls Try.prog 9 #[.string ⟨#[43]⟩, .bool a, .int .u64 m, .bool b, .int .u64 n] w fun e w' => e = told3 (vl a m + vl b n) ∧ Kp w w' := by
  refine (f_good _ a m b n w (by simp [isf, ByteArray.toList_eq]) ka kb (aB a m b n) (aN a m b n) (aK a m b n) (add_r hm hn) (fun w => fo_add a m b n w) (fun w => co_add a m b n w hm hn)).mono ?_
  intro e w' q
  exact ⟨q.1.trans (told_eq (add_v hm hn)), q.2⟩
theorem v_sub (w : World) : Calls Try.prog 9 #[.string ⟨#[45]⟩, .bool a, .int .u64 m, .bool b, .int .u64 n] w fun e w' => e = told3 (vl a m - vl b n) ∧ Kp w w' := by
  refine (f_good _ a m b n w (by simp [isf, ByteArray.toList_eq]) ka kb (aB a m (!b) n) (aN a m (!b) n) (aK a m (!b) n) (add_r hm hn) (fun w => fo_sub a m b n w) (fun w => co_sub a m b n w hm hn)).mono ?_
  intro e w' q
  exact ⟨q.1.trans (told_eq (by have := add_v (a := a) (b := !b) hm hn; rw [vl_not] at this; exact this)), q.2⟩
theorem v_mul (w : World) : Calls Try.prog 9 #[.string ⟨#[42]⟩, .bool a, .int .u64 m, .bool b, .int .u64 n] w fun e w' => e = told3 (vl a m * vl b n) ∧ Kp w w' := by
  refine (f_good _ a m b n w (by simp [isf, ByteArray.toList_eq]) ka kb (a != b) (m * n % 18446744073709551616) (m * n / 18446744073709551616 == 0) (by omega) (fun w => fo_mul a m b n w) (fun w => co_mul a m b n w hm hn)).mono ?_
  intro e w' q
  exact ⟨q.1.trans (told_eq (mul_v hm.1 hn.1)), q.2⟩
theorem v_quo (w : World) (h0 : n ≠ 0) : Calls Try.prog 9 #[.string ⟨#[47]⟩, .bool a, .int .u64 m, .bool b, .int .u64 n] w fun e w' => e = told3 ((vl a m).tdiv (vl b n)) ∧ Kp w w' := by
  refine (f_good _ a m b n w (by simp [isf, ByteArray.toList_eq]) ka kb (a != b) (m.tdiv n) true (tdiv_r hm hn) (fun w => fo_quo a m b n w h0) (fun w => co_quo a m b n w hm hn h0)).mono ?_
  intro e w' q
  exact ⟨q.1.trans (told_eq (Or.inl quo_v)), q.2⟩
theorem v_rem (w : World) (h0 : n ≠ 0) : Calls Try.prog 9 #[.string ⟨#[37]⟩, .bool a, .int .u64 m, .bool b, .int .u64 n] w fun e w' => e = told3 ((vl a m).tmod (vl b n)) ∧ Kp w w' := by
  refine (f_good _ a m b n w (by simp [isf, ByteArray.toList_eq]) ka kb a (m.tmod n) true (tmod_r hm hn h0) (fun w => fo_rem a m b n w h0) (fun w => co_rem a m b n w hm hn h0)).mono ?_
  intro e w' q
  exact ⟨q.1.trans (told_eq (Or.inl rem_v)), q.2⟩
theorem v_shl (w : World) (h0 : b = false) : Calls Try.prog 9 #[.string ⟨#[60, 60]⟩, .bool a, .int .u64 m, .bool b, .int .u64 n] w fun e w' => e = told3 (vl a m * 2 ^ min n.toNat 64) ∧ Kp w w' := by
  refine (f_good _ a m b n w (by simp [isf, ByteArray.toList_eq]) ka kb a (uN m n) (uK m n) (u64_r _) (fun w => fo_shl a m b n w h0) (fun w => co_shl a m b n w hm hn)).mono ?_
  intro e w' q
  exact ⟨q.1.trans (told_eq (shl_v hm)), q.2⟩
theorem v_shr (w : World) (h0 : b = false) : Calls Try.prog 9 #[.string ⟨#[62, 62]⟩, .bool a, .int .u64 m, .bool b, .int .u64 n] w fun e w' => e = told3 (vl a m / 2 ^ min n.toNat 64) ∧ Kp w w' := by
  refine (f_good _ a m b n w (by simp [isf, ByteArray.toList_eq]) ka kb a (dN a m n) true (dN_r ka hm) (fun w => fo_shr a m b n w h0) (fun w => co_shr a m b n w hm hn ka)).mono ?_
  intro e w' q
  exact ⟨q.1.trans (told_eq (Or.inl (shr_v _))), q.2⟩
theorem v_and (w : World) (h0 : (a || b) = false) : Calls Try.prog 9 #[.string ⟨#[38]⟩, .bool a, .int .u64 m, .bool b, .int .u64 n] w fun e w' => e = told3 (ban m n) ∧ Kp w w' := by
  refine (f_good _ a m b n w (by simp [isf, ByteArray.toList_eq]) ka kb false (ban m n) true (ban_r hm) (fun w => fo_and a m b n w h0) (fun w => co_and a m b n w hm hn)).mono ?_
  intro e w' q
  exact ⟨q.1.trans (told_eq (Or.inl rfl)), q.2⟩
theorem v_or (w : World) (h0 : (a || b) = false) : Calls Try.prog 9 #[.string ⟨#[124]⟩, .bool a, .int .u64 m, .bool b, .int .u64 n] w fun e w' => e = told3 (bor m n) ∧ Kp w w' := by
  refine (f_good _ a m b n w (by simp [isf, ByteArray.toList_eq]) ka kb false (bor m n) true (bor_r hm hn) (fun w => fo_or a m b n w h0) (fun w => co_or a m b n w hm hn)).mono ?_
  intro e w' q
  exact ⟨q.1.trans (told_eq (Or.inl rfl)), q.2⟩
theorem v_xor (w : World) (h0 : (a || b) = false) : Calls Try.prog 9 #[.string ⟨#[94]⟩, .bool a, .int .u64 m, .bool b, .int .u64 n] w fun e w' => e = told3 (bxo m n) ∧ Kp w w' := by
  refine (f_good _ a m b n w (by simp [isf, ByteArray.toList_eq]) ka kb false (bxo m n) true (bxo_r hm hn) (fun w => fo_xor a m b n w h0) (fun w => co_xor a m b n w hm hn)).mono ?_
  intro e w' q
  exact ⟨q.1.trans (told_eq (Or.inl rfl)), q.2⟩
theorem v_not (w : World) (h0 : (a || b) = false) : Calls Try.prog 9 #[.string ⟨#[38, 94]⟩, .bool a, .int .u64 m, .bool b, .int .u64 n] w fun e w' => e = told3 (bnt m n) ∧ Kp w w' := by
  refine (f_good _ a m b n w (by simp [isf, ByteArray.toList_eq]) ka kb false (bnt m n) true (bnt_r hm) (fun w => fo_not a m b n w h0) (fun w => co_not a m b n w hm hn)).mono ?_
  intro e w' q
  exact ⟨q.1.trans (told_eq (Or.inl rfl)), q.2⟩
end
theorem v_minus (a : Bool) (m : Int) (w : World) (ka : kc a m = true) (hm : 0 ≤ m ∧ m < 18446744073709551616) : Calls Try.prog 12 #[.string ⟨#[45]⟩, .bool a, .int .u64 m] w fun e w' => e = told3 (-vl a m) ∧ Kp w w' := by
  refine (u_minus a m w ka hm).mono ?_
  intro e w' q
  exact ⟨q.1.trans (told_eq (Or.inl (vl_not a m))), q.2⟩
theorem v_turn (a : Bool) (m : Int) (w : World) (ka : kc a m = true) (hm : 0 ≤ m ∧ m < 18446744073709551616) : Calls Try.prog 12 #[.string ⟨#[94]⟩, .bool a, .int .u64 m] w fun e w' => e = told3 (-vl a m - 1) ∧ Kp w w' := by
  refine (u_turn a m w ka hm).mono ?_
  intro e w' q
  refine ⟨q.1.trans (told_eq ?_), q.2⟩
  have := add_v (a := !a) (b := true) hm (show (0 : Int) ≤ 1 ∧ (1 : Int) < 18446744073709551616 by omega)
  rw [vl_not] at this
  exact this
/-! ### The reference's Const, and the laws' own answers -/
theorem c_Const (b : Bool) (n : Int) (w : World) (hn : 0 ≤ n) : Calls Try.prog 19 #[.agg #[.bool b, .int .u64 n]] w fun e w' => e = .returned (.bool (kc b n)) ∧ Kp w w' := by
  cases b with
  | false =>
    have e : kc false n = true := rfl
    rw [e]; clear e
    go_enter Try.func19, Try.ntmps19
    go_wp2_with fail
    go_ret
    exact ⟨rfl, (by (repeat (first | exact Kp.refl _ | refine kback (by assumption) ?_ | refine Kp.setCell ?_ (by first | omega | (simp; done) | (simp; omega)) _ | refine Kp.alloc ?_ _ _ | refine Kp.drewN ?_ _ | refine Kp.drew ?_)))⟩
  | true =>
    by_cases h1 : 0 < n
    · have e : kc true n = decide (n ≤ 9223372036854775808) := by have : 1 ≤ n := h1; simp [kc, this]
      rw [e]; clear e
      go_enter Try.func19, Try.ntmps19
      go_wp2_with fail
      go_ret
      exact ⟨rfl, (by (repeat (first | exact Kp.refl _ | refine kback (by assumption) ?_ | refine Kp.setCell ?_ (by first | omega | (simp; done) | (simp; omega)) _ | refine Kp.alloc ?_ _ _ | refine Kp.drewN ?_ _ | refine Kp.drew ?_)))⟩
    · have e : kc true n = false := by have : ¬ 1 ≤ n := h1; simp [kc, this]
      rw [e]; clear e
      go_enter Try.func19, Try.ntmps19
      go_wp2_with fail
      go_ret
      exact ⟨rfl, (by (repeat (first | exact Kp.refl _ | refine kback (by assumption) ?_ | refine Kp.setCell ?_ (by first | omega | (simp; done) | (simp; omega)) _ | refine Kp.alloc ?_ _ _ | refine Kp.drewN ?_ _ | refine Kp.drew ?_)))⟩
theorem c_answers (w : World) : Calls Try.prog 11 #[] w fun e w' => e = .returned (.bool true) ∧ Kp w w' := by
  have H := Lib.hid (fun w => v_sub (a := false) (b := false) (m := 2) (n := 5) (by decide) (by decide) (by omega) (by omega) w)
  have e : told3 (vl false 2 - vl false 5) = .returned (.tuple #[.bool true, .int .u64 3, .int .i64 0]) := by
    have h1 : rn (vl false 2 - vl false 5) = true := by decide
    have h2 : rs (vl false 2 - vl false 5) = 3 := by decide
    have h3 : re (vl false 2 - vl false 5) = 0 := by decide
    unfold told3; rw [h1, h2, h3]
  rw [e] at H; clear e
  go_enter Try.func11, Try.ntmps11
  go_wp2_with ((go_at_call 9; with_reducible refine (H.out _).mono ?_; rintro e w' ⟨rfl, hk⟩))
  go_ret
  exact ⟨rfl, (by (repeat (first | exact Kp.refl _ | refine kback (by assumption) ?_ | refine Kp.setCell ?_ (by first | omega | (simp; done) | (simp; omega)) _ | refine Kp.alloc ?_ _ _ | refine Kp.drewN ?_ _ | refine Kp.drew ?_)))⟩
end Go.Proofs.Ytihchlkoohficaa
