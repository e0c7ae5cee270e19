/- The statement KonstFolds, walked: whatever the operator and the constants, Fold of konst answers as the reference does. Conditions: a size is between 0 and 2 to the 64. -/
import Derived.Test.YtihchlkoohficaaK16a
import Derived.Test.YtihchlkoohficaaK16b
import Derived.Test.YtihchlkoohficaaK16c
import Derived.Test.YtihchlkoohficaaK16d
import Derived.Test.YtihchlkoohficaaK16e
namespace Go.Proofs.Ytihchlkoohficaa
open Go.RowKit Plain
set_option linter.unusedVariables false
set_option linter.unusedSimpArgs false
theorem mulR0 {a b : Bool} {n : Int} : tv (!(a == b)) (IntKind.u64.wrap (0 * n)) (!false) = vl a 0 * vl b n := by
  rw [vl_mul]; cases a <;> cases b <;> simp [tv, vl, IntKind.wrap_u64]
theorem mulR {a b : Bool} {m n : Int} (hm : 0 ≤ m ∧ m < 18446744073709551616) (hn : 0 ≤ n ∧ n < 18446744073709551616) (h0 : ¬ m = 0) : tv (!(a == b)) (IntKind.u64.wrap (m * n)) (!(!((IntKind.u64.wrap (m * n)).tdiv m == n))) = vl a m * vl b n ∨ (ft (tv (!(a == b)) (IntKind.u64.wrap (m * n)) (!(!((IntKind.u64.wrap (m * n)).tdiv m == n)))) = false ∧ ft (vl a m * vl b n) = false) := by
  rw [vl_mul, IntKind.wrap_u64, Bool.not_not]
  have hp : 0 ≤ m * n := Int.mul_nonneg hm.1 hn.1
  have hr : 0 ≤ m * n % 18446744073709551616 := by omega
  rw [Int.tdiv_eq_ediv_of_nonneg hr]
  by_cases h : m * n < 18446744073709551616
  · left
    have e2 : m * n % 18446744073709551616 = m * n := by omega
    have e3 : m * n / m = n := Int.mul_ediv_cancel_left n h0
    rw [e2, e3]; simp [tv, bne]
  · right
    have h2 : m * n % 18446744073709551616 / m < n := Int.ediv_lt_of_lt_mul (by omega) (by rw [Int.mul_comm n]; omega)
    have e1 : (m * n % 18446744073709551616 / m == n) = false := by simp; omega
    rw [e1]
    exact ⟨ft_tvno _ _, ft_big (by omega)⟩
theorem pair_add (a : Bool) (m : Int) (b : Bool) (n : Int) (hm : 0 ≤ m ∧ m < 18446744073709551616) (hn : 0 ≤ n ∧ n < 18446744073709551616) : ∃ (fb : Bool) (fn fe : Int), (∀ w, Calls Try.prog 9 #[.string ⟨#[43]⟩, .bool a, .int .u64 m, .bool b, .int .u64 n] w fun e w' => e = .returned (.tuple #[.bool fb, .int .u64 fn, .int .i64 fe]) ∧ Kp w w') ∧ ∀ w, Calls Try.prog 10 #[.string ⟨#[43]⟩, .agg #[.bool a, .int .u64 m], .agg #[.bool b, .int .u64 n]] w fun e w' => e = .returned (.tuple #[.agg #[.bool fb, .int .u64 fn], .int .i64 fe]) ∧ Kp w w' := by
  have hs : isf ⟨#[43]⟩ = true := by simp [isf, ByteArray.toList_eq]
  have ho : isop ⟨#[43]⟩ = true := by simp [isop, ByteArray.toList_eq]
  cases ka : kc a m with
  | false => exact ⟨_, _, _, fun w => f_badA _ a m b n w hs ka, fun w => rf_badA_s _ a m b n w hm hn ho ka⟩
  | true =>
    cases kb : kc b n with
    | false => exact ⟨_, _, _, fun w => f_badB _ a m b n w hs ka kb, fun w => rf_badB_s _ a m b n w hm hn ho ka kb⟩
    | true =>
      exact ⟨_, _, _, fun w => v_add ka kb hm hn w, fun w => (rf_add a m b n w hm hn ka kb).mono fun e w' q => ⟨q.1.trans (toldR_eq (Or.inl rfl)), q.2⟩⟩
theorem pair_sub (a : Bool) (m : Int) (b : Bool) (n : Int) (hm : 0 ≤ m ∧ m < 18446744073709551616) (hn : 0 ≤ n ∧ n < 18446744073709551616) : ∃ (fb : Bool) (fn fe : Int), (∀ w, Calls Try.prog 9 #[.string ⟨#[45]⟩, .bool a, .int .u64 m, .bool b, .int .u64 n] w fun e w' => e = .returned (.tuple #[.bool fb, .int .u64 fn, .int .i64 fe]) ∧ Kp w w') ∧ ∀ w, Calls Try.prog 10 #[.string ⟨#[45]⟩, .agg #[.bool a, .int .u64 m], .agg #[.bool b, .int .u64 n]] w fun e w' => e = .returned (.tuple #[.agg #[.bool fb, .int .u64 fn], .int .i64 fe]) ∧ Kp w w' := by
  have hs : isf ⟨#[45]⟩ = true := by simp [isf, ByteArray.toList_eq]
  have ho : isop ⟨#[45]⟩ = true := by simp [isop, ByteArray.toList_eq]
  cases ka : kc a m with
  | false => exact ⟨_, _, _, fun w => f_badA _ a m b n w hs ka, fun w => rf_badA_s _ a m b n w hm hn ho ka⟩
  | true =>
    cases kb : kc b n with
    | false => exact ⟨_, _, _, fun w => f_badB _ a m b n w hs ka kb, fun w => rf_badB_s _ a m b n w hm hn ho ka kb⟩
    | true =>
      exact ⟨_, _, _, fun w => v_sub ka kb hm hn w, fun w => (rf_sub a m b n w hm hn ka kb).mono fun e w' q => ⟨q.1.trans (toldR_eq (Or.inl (by rw [vl_not]; omega))), q.2⟩⟩
theorem pair_mul (a : Bool) (m : Int) (b : Bool) (n : Int) (hm : 0 ≤ m ∧ m < 18446744073709551616) (hn : 0 ≤ n ∧ n < 18446744073709551616) : ∃ (fb : Bool) (fn fe : Int), (∀ w, Calls Try.prog 9 #[.string ⟨#[42]⟩, .bool a, .int .u64 m, .bool b, .int .u64 n] w fun e w' => e = .returned (.tuple #[.bool fb, .int .u64 fn, .int .i64 fe]) ∧ Kp w w') ∧ ∀ w, Calls Try.prog 10 #[.string ⟨#[42]⟩, .agg #[.bool a, .int .u64 m], .agg #[.bool b, .int .u64 n]] w fun e w' => e = .returned (.tuple #[.agg #[.bool fb, .int .u64 fn], .int .i64 fe]) ∧ Kp w w' := by
  have hs : isf ⟨#[42]⟩ = true := by simp [isf, ByteArray.toList_eq]
  have ho : isop ⟨#[42]⟩ = true := by simp [isop, ByteArray.toList_eq]
  cases ka : kc a m with
  | false => exact ⟨_, _, _, fun w => f_badA _ a m b n w hs ka, fun w => rf_badA_s _ a m b n w hm hn ho ka⟩
  | true =>
    cases kb : kc b n with
    | false => exact ⟨_, _, _, fun w => f_badB _ a m b n w hs ka kb, fun w => rf_badB_s _ a m b n w hm hn ho ka kb⟩
    | true =>
      by_cases h0 : m = 0
      · subst h0; exact ⟨_, _, _, fun w => v_mul ka kb hm hn w, fun w => (rf_mul0 a 0 b n w hm hn ka kb rfl).mono fun e w' q => ⟨q.1.trans (toldR_eq (Or.inl mulR0)), q.2⟩⟩
      · exact ⟨_, _, _, fun w => v_mul ka kb hm hn w, fun w => (rf_mul a m b n w hm hn ka kb h0).mono fun e w' q => ⟨q.1.trans (toldR_eq (mulR hm hn h0)), q.2⟩⟩
theorem pair_quo (a : Bool) (m : Int) (b : Bool) (n : Int) (hm : 0 ≤ m ∧ m < 18446744073709551616) (hn : 0 ≤ n ∧ n < 18446744073709551616) : ∃ (fb : Bool) (fn fe : Int), (∀ w, Calls Try.prog 9 #[.string ⟨#[47]⟩, .bool a, .int .u64 m, .bool b, .int .u64 n] w fun e w' => e = .returned (.tuple #[.bool fb, .int .u64 fn, .int .i64 fe]) ∧ Kp w w') ∧ ∀ w, Calls Try.prog 10 #[.string ⟨#[47]⟩, .agg #[.bool a, .int .u64 m], .agg #[.bool b, .int .u64 n]] w fun e w' => e = .returned (.tuple #[.agg #[.bool fb, .int .u64 fn], .int .i64 fe]) ∧ Kp w w' := by
  have hs : isf ⟨#[47]⟩ = true := by simp [isf, ByteArray.toList_eq]
  have ho : isop ⟨#[47]⟩ = true := by simp [isop, ByteArray.toList_eq]
  cases ka : kc a m with
  | false => exact ⟨_, _, _, fun w => f_badA _ a m b n w hs ka, fun w => rf_badA_s _ a m b n w hm hn ho ka⟩
  | true =>
    cases kb : kc b n with
    | false => exact ⟨_, _, _, fun w => f_badB _ a m b n w hs ka kb, fun w => rf_badB_s _ a m b n w hm hn ho ka kb⟩
    | true =>
      by_cases h0 : n = 0
      · exact ⟨_, _, _, fun w => f_forb _ a m b n w hs ka kb 18 (by decide) (fun w => fo_quo0 a m b n w h0), fun w => rf_quo0 a m b n w hm hn ka kb (by simp [h0])⟩
      · exact ⟨_, _, _, fun w => v_quo ka kb hm hn w h0, fun w => (rf_quo a m b n w hm hn ka kb (by simp [h0])).mono fun e w' q => ⟨q.1.trans (toldR_eq (Or.inl quo_v)), q.2⟩⟩
theorem pair_rem (a : Bool) (m : Int) (b : Bool) (n : Int) (hm : 0 ≤ m ∧ m < 18446744073709551616) (hn : 0 ≤ n ∧ n < 18446744073709551616) : ∃ (fb : Bool) (fn fe : Int), (∀ w, Calls Try.prog 9 #[.string ⟨#[37]⟩, .bool a, .int .u64 m, .bool b, .int .u64 n] w fun e w' => e = .returned (.tuple #[.bool fb, .int .u64 fn, .int .i64 fe]) ∧ Kp w w') ∧ ∀ w, Calls Try.prog 10 #[.string ⟨#[37]⟩, .agg #[.bool a, .int .u64 m], .agg #[.bool b, .int .u64 n]] w fun e w' => e = .returned (.tuple #[.agg #[.bool fb, .int .u64 fn], .int .i64 fe]) ∧ Kp w w' := by
  have hs : isf ⟨#[37]⟩ = true := by simp [isf, ByteArray.toList_eq]
  have ho : isop ⟨#[37]⟩ = true := by simp [isop, ByteArray.toList_eq]
  cases ka : kc a m with
  | false => exact ⟨_, _, _, fun w => f_badA _ a m b n w hs ka, fun w => rf_badA_s _ a m b n w hm hn ho ka⟩
  | true =>
    cases kb : kc b n with
    | false => exact ⟨_, _, _, fun w => f_badB _ a m b n w hs ka kb, fun w => rf_badB_s _ a m b n w hm hn ho ka kb⟩
    | true =>
      by_cases h0 : n = 0
      · exact ⟨_, _, _, fun w => f_forb _ a m b n w hs ka kb 18 (by decide) (fun w => fo_rem0 a m b n w h0), fun w => rf_rem0 a m b n w hm hn ka kb (by simp [h0])⟩
      · exact ⟨_, _, _, fun w => v_rem ka kb hm hn w h0, fun w => (rf_rem a m b n w hm hn ka kb (by simp [h0])).mono fun e w' q => ⟨q.1.trans (toldR_eq (Or.inl rem_v)), q.2⟩⟩
theorem pair_shl (a : Bool) (m : Int) (b : Bool) (n : Int) (hm : 0 ≤ m ∧ m < 18446744073709551616) (hn : 0 ≤ n ∧ n < 18446744073709551616) : ∃ (fb : Bool) (fn fe : Int), (∀ w, Calls Try.prog 9 #[.string ⟨#[60, 60]⟩, .bool a, .int .u64 m, .bool b, .int .u64 n] w fun e w' => e = .returned (.tuple #[.bool fb, .int .u64 fn, .int .i64 fe]) ∧ Kp w w') ∧ ∀ w, Calls Try.prog 10 #[.string ⟨#[60, 60]⟩, .agg #[.bool a, .int .u64 m], .agg #[.bool b, .int .u64 n]] w fun e w' => e = .returned (.tuple #[.agg #[.bool fb, .int .u64 fn], .int .i64 fe]) ∧ Kp w w' := by
  have hs : isf ⟨#[60, 60]⟩ = true := by simp [isf, ByteArray.toList_eq]
  cases ka : kc a m with
  | false => exact ⟨_, _, _, fun w => f_badA _ a m b n w hs ka, fun w => rf_badA_shl a m b n w hm hn ka⟩
  | true =>
    cases kb : kc b n with
    | false => exact ⟨_, _, _, fun w => f_badB _ a m b n w hs ka kb, fun w => rf_badB_shl a m b n w hm hn ka kb⟩
    | true =>
      cases h0 : b with
      | true => exact ⟨_, _, _, fun w => f_forb _ a m true n w hs ka (h0 ▸ kb) 19 (by decide) (fun w => fo_shl1 a m true n w rfl), fun w => rf_shl1 a m true n w hm hn ka (h0 ▸ kb) rfl⟩
      | false => exact ⟨_, _, _, fun w => v_shl ka (h0 ▸ kb) hm hn w rfl, fun w => rf_shl a m false n w hm hn ka (h0 ▸ kb) rfl⟩
theorem pair_shr (a : Bool) (m : Int) (b : Bool) (n : Int) (hm : 0 ≤ m ∧ m < 18446744073709551616) (hn : 0 ≤ n ∧ n < 18446744073709551616) : ∃ (fb : Bool) (fn fe : Int), (∀ w, Calls Try.prog 9 #[.string ⟨#[62, 62]⟩, .bool a, .int .u64 m, .bool b, .int .u64 n] w fun e w' => e = .returned (.tuple #[.bool fb, .int .u64 fn, .int .i64 fe]) ∧ Kp w w') ∧ ∀ w, Calls Try.prog 10 #[.string ⟨#[62, 62]⟩, .agg #[.bool a, .int .u64 m], .agg #[.bool b, .int .u64 n]] w fun e w' => e = .returned (.tuple #[.agg #[.bool fb, .int .u64 fn], .int .i64 fe]) ∧ Kp w w' := by
  have hs : isf ⟨#[62, 62]⟩ = true := by simp [isf, ByteArray.toList_eq]
  cases ka : kc a m with
  | false => exact ⟨_, _, _, fun w => f_badA _ a m b n w hs ka, fun w => rf_badA_shr a m b n w hm hn ka⟩
  | true =>
    cases kb : kc b n with
    | false => exact ⟨_, _, _, fun w => f_badB _ a m b n w hs ka kb, fun w => rf_badB_shr a m b n w hm hn ka kb⟩
    | true =>
      cases h0 : b with
      | true => exact ⟨_, _, _, fun w => f_forb _ a m true n w hs ka (h0 ▸ kb) 19 (by decide) (fun w => fo_shr1 a m true n w rfl), fun w => rf_shr1 a m true n w hm hn ka (h0 ▸ kb) rfl⟩
      | false => exact ⟨_, _, _, fun w => v_shr ka (h0 ▸ kb) hm hn w rfl, fun w => rf_shr a m false n w hm hn ka (h0 ▸ kb) rfl⟩
theorem pair_and (a : Bool) (m : Int) (b : Bool) (n : Int) (hm : 0 ≤ m ∧ m < 18446744073709551616) (hn : 0 ≤ n ∧ n < 18446744073709551616) : ∃ (fb : Bool) (fn fe : Int), (∀ w, Calls Try.prog 9 #[.string ⟨#[38]⟩, .bool a, .int .u64 m, .bool b, .int .u64 n] w fun e w' => e = .returned (.tuple #[.bool fb, .int .u64 fn, .int .i64 fe]) ∧ Kp w w') ∧ ∀ w, Calls Try.prog 10 #[.string ⟨#[38]⟩, .agg #[.bool a, .int .u64 m], .agg #[.bool b, .int .u64 n]] w fun e w' => e = .returned (.tuple #[.agg #[.bool fb, .int .u64 fn], .int .i64 fe]) ∧ Kp w w' := by
  have hs : isf ⟨#[38]⟩ = true := by simp [isf, ByteArray.toList_eq]
  have ho : isop ⟨#[38]⟩ = true := by simp [isop, ByteArray.toList_eq]
  cases ka : kc a m with
  | false => exact ⟨_, _, _, fun w => f_badA _ a m b n w hs ka, fun w => rf_badA_s _ a m b n w hm hn ho ka⟩
  | true =>
    cases kb : kc b n with
    | false => exact ⟨_, _, _, fun w => f_badB _ a m b n w hs ka kb, fun w => rf_badB_s _ a m b n w hm hn ho ka kb⟩
    | true =>
      cases h0 : (a || b) with
      | true => exact ⟨_, _, _, fun w => f_forb _ a m b n w hs ka kb 10 (by decide) (fun w => fo_and1 a m b n w h0), fun w => rf_and1 a m b n w hm hn ka kb h0⟩
      | false =>
        have c := fun w => v_and ka kb hm hn w h0
        have e : told3 (ban m n) = .returned (.tuple #[.bool false, .int .u64 (ban m n), .int .i64 0]) := by obtain ⟨h1, h2, h3⟩ := r_pos (v := ban m n) (ban_r hm); unfold told3; rw [h1, h2, h3]
        rw [e] at c
        obtain ⟨rfl, rfl⟩ : a = false ∧ b = false := by cases a <;> cases b <;> simp at h0 <;> exact ⟨rfl, rfl⟩
        exact ⟨_, _, _, c, fun w => rf_and false m false n w hm hn ka kb h0⟩
theorem pair_or (a : Bool) (m : Int) (b : Bool) (n : Int) (hm : 0 ≤ m ∧ m < 18446744073709551616) (hn : 0 ≤ n ∧ n < 18446744073709551616) : ∃ (fb : Bool) (fn fe : Int), (∀ w, Calls Try.prog 9 #[.string ⟨#[124]⟩, .bool a, .int .u64 m, .bool b, .int .u64 n] w fun e w' => e = .returned (.tuple #[.bool fb, .int .u64 fn, .int .i64 fe]) ∧ Kp w w') ∧ ∀ w, Calls Try.prog 10 #[.string ⟨#[124]⟩, .agg #[.bool a, .int .u64 m], .agg #[.bool b, .int .u64 n]] w fun e w' => e = .returned (.tuple #[.agg #[.bool fb, .int .u64 fn], .int .i64 fe]) ∧ Kp w w' := by
  have hs : isf ⟨#[124]⟩ = true := by simp [isf, ByteArray.toList_eq]
  have ho : isop ⟨#[124]⟩ = true := by simp [isop, ByteArray.toList_eq]
  cases ka : kc a m with
  | false => exact ⟨_, _, _, fun w => f_badA _ a m b n w hs ka, fun w => rf_badA_s _ a m b n w hm hn ho ka⟩
  | true =>
    cases kb : kc b n with
    | false => exact ⟨_, _, _, fun w => f_badB _ a m b n w hs ka kb, fun w => rf_badB_s _ a m b n w hm hn ho ka kb⟩
    | true =>
      cases h0 : (a || b) with
      | true => exact ⟨_, _, _, fun w => f_forb _ a m b n w hs ka kb 10 (by decide) (fun w => fo_or1 a m b n w h0), fun w => rf_or1 a m b n w hm hn ka kb h0⟩
      | false =>
        have c := fun w => v_or ka kb hm hn w h0
        have e : told3 (bor m n) = .returned (.tuple #[.bool false, .int .u64 (bor m n), .int .i64 0]) := by obtain ⟨h1, h2, h3⟩ := r_pos (v := bor m n) (bor_r hm hn); unfold told3; rw [h1, h2, h3]
        rw [e] at c
        obtain ⟨rfl, rfl⟩ : a = false ∧ b = false := by cases a <;> cases b <;> simp at h0 <;> exact ⟨rfl, rfl⟩
        exact ⟨_, _, _, c, fun w => rf_or false m false n w hm hn ka kb h0⟩
theorem pair_xor (a : Bool) (m : Int) (b : Bool) (n : Int) (hm : 0 ≤ m ∧ m < 18446744073709551616) (hn : 0 ≤ n ∧ n < 18446744073709551616) : ∃ (fb : Bool) (fn fe : Int), (∀ w, Calls Try.prog 9 #[.string ⟨#[94]⟩, .bool a, .int .u64 m, .bool b, .int .u64 n] w fun e w' => e = .returned (.tuple #[.bool fb, .int .u64 fn, .int .i64 fe]) ∧ Kp w w') ∧ ∀ w, Calls Try.prog 10 #[.string ⟨#[94]⟩, .agg #[.bool a, .int .u64 m], .agg #[.bool b, .int .u64 n]] w fun e w' => e = .returned (.tuple #[.agg #[.bool fb, .int .u64 fn], .int .i64 fe]) ∧ Kp w w' := by
  have hs : isf ⟨#[94]⟩ = true := by simp [isf, ByteArray.toList_eq]
  have ho : isop ⟨#[94]⟩ = true := by simp [isop, ByteArray.toList_eq]
  cases ka : kc a m with
  | false => exact ⟨_, _, _, fun w => f_badA _ a m b n w hs ka, fun w => rf_badA_s _ a m b n w hm hn ho ka⟩
  | true =>
    cases kb : kc b n with
    | false => exact ⟨_, _, _, fun w => f_badB _ a m b n w hs ka kb, fun w => rf_badB_s _ a m b n w hm hn ho ka kb⟩
    | true =>
      cases h0 : (a || b) with
      | true => exact ⟨_, _, _, fun w => f_forb _ a m b n w hs ka kb 10 (by decide) (fun w => fo_xor1 a m b n w h0), fun w => rf_xor1 a m b n w hm hn ka kb h0⟩
      | false =>
        have c := fun w => v_xor ka kb hm hn w h0
        have e : told3 (bxo m n) = .returned (.tuple #[.bool false, .int .u64 (bxo m n), .int .i64 0]) := by obtain ⟨h1, h2, h3⟩ := r_pos (v := bxo m n) (bxo_r hm hn); unfold told3; rw [h1, h2, h3]
        rw [e] at c
        obtain ⟨rfl, rfl⟩ : a = false ∧ b = false := by cases a <;> cases b <;> simp at h0 <;> exact ⟨rfl, rfl⟩
        exact ⟨_, _, _, c, fun w => rf_xor false m false n w hm hn ka kb h0⟩
theorem pair_not (a : Bool) (m : Int) (b : Bool) (n : Int) (hm : 0 ≤ m ∧ m < 18446744073709551616) (hn : 0 ≤ n ∧ n < 18446744073709551616) : ∃ (fb : Bool) (fn fe : Int), (∀ w, Calls Try.prog 9 #[.string ⟨#[38, 94]⟩, .bool a, .int .u64 m, .bool b, .int .u64 n] w fun e w' => e = .returned (.tuple #[.bool fb, .int .u64 fn, .int .i64 fe]) ∧ Kp w w') ∧ ∀ w, Calls Try.prog 10 #[.string ⟨#[38, 94]⟩, .agg #[.bool a, .int .u64 m], .agg #[.bool b, .int .u64 n]] w fun e w' => e = .returned (.tuple #[.agg #[.bool fb, .int .u64 fn], .int .i64 fe]) ∧ Kp w w' := by
  have hs : isf ⟨#[38, 94]⟩ = true := by simp [isf, ByteArray.toList_eq]
  have ho : isop ⟨#[38, 94]⟩ = true := by simp [isop, ByteArray.toList_eq]
  cases ka : kc a m with
  | false => exact ⟨_, _, _, fun w => f_badA _ a m b n w hs ka, fun w => rf_badA_s _ a m b n w hm hn ho ka⟩
  | true =>
    cases kb : kc b n with
    | false => exact ⟨_, _, _, fun w => f_badB _ a m b n w hs ka kb, fun w => rf_badB_s _ a m b n w hm hn ho ka kb⟩
    | true =>
      cases h0 : (a || b) with
      | true => exact ⟨_, _, _, fun w => f_forb _ a m b n w hs ka kb 10 (by decide) (fun w => fo_not1 a m b n w h0), fun w => rf_not1 a m b n w hm hn ka kb h0⟩
      | false =>
        have c := fun w => v_not ka kb hm hn w h0
        have e : told3 (bnt m n) = .returned (.tuple #[.bool false, .int .u64 (bnt m n), .int .i64 0]) := by obtain ⟨h1, h2, h3⟩ := r_pos (v := bnt m n) (bnt_r hm); unfold told3; rw [h1, h2, h3]
        rw [e] at c
        obtain ⟨rfl, rfl⟩ : a = false ∧ b = false := by cases a <;> cases b <;> simp at h0 <;> exact ⟨rfl, rfl⟩
        exact ⟨_, _, _, c, fun w => rf_not false m false n w hm hn ka kb h0⟩
theorem fold_pair (op : ByteArray) (a : Bool) (m : Int) (b : Bool) (n : Int) (hm : 0 ≤ m ∧ m < 18446744073709551616) (hn : 0 ≤ n ∧ n < 18446744073709551616) : ∃ (fb : Bool) (fn fe : Int), (∀ w, Calls Try.prog 9 #[.string op, .bool a, .int .u64 m, .bool b, .int .u64 n] w fun e w' => e = .returned (.tuple #[.bool fb, .int .u64 fn, .int .i64 fe]) ∧ Kp w w') ∧ ∀ w, Calls Try.prog 10 #[.string op, .agg #[.bool a, .int .u64 m], .agg #[.bool b, .int .u64 n]] w fun e w' => e = .returned (.tuple #[.agg #[.bool fb, .int .u64 fn], .int .i64 fe]) ∧ Kp w w' := by
  cases x0 : (op.toList == [43]) with
  | true => obtain rfl := lit_of x0; exact pair_add a m b n hm hn
  | false =>
    cases x1 : (op.toList == [45]) with
    | true => obtain rfl := lit_of x1; exact pair_sub a m b n hm hn
    | false =>
      cases x2 : (op.toList == [42]) with
      | true => obtain rfl := lit_of x2; exact pair_mul a m b n hm hn
      | false =>
        cases x3 : (op.toList == [47]) with
        | true => obtain rfl := lit_of x3; exact pair_quo a m b n hm hn
        | false =>
          cases x4 : (op.toList == [37]) with
          | true => obtain rfl := lit_of x4; exact pair_rem a m b n hm hn
          | false =>
            cases x5 : (op.toList == [60, 60]) with
            | true => obtain rfl := lit_of x5; exact pair_shl a m b n hm hn
            | false =>
              cases x6 : (op.toList == [62, 62]) with
              | true => obtain rfl := lit_of x6; exact pair_shr a m b n hm hn
              | false =>
                cases x7 : (op.toList == [38]) with
                | true => obtain rfl := lit_of x7; exact pair_and a m b n hm hn
                | false =>
                  cases x8 : (op.toList == [124]) with
                  | true => obtain rfl := lit_of x8; exact pair_or a m b n hm hn
                  | false =>
                    cases x9 : (op.toList == [94]) with
                    | true => obtain rfl := lit_of x9; exact pair_xor a m b n hm hn
                    | false =>
                      cases x10 : (op.toList == [38, 94]) with
                      | true => obtain rfl := lit_of x10; exact pair_not a m b n hm hn
                      | false =>
                        exact ⟨_, _, _, fun w => f_noop op a m b n w (by unfold isf; rw [x0, x1, x2, x3, x4, x5, x6, x7, x8, x9, x10]; rfl), fun w => rf_noop op a m b n w hm hn (by unfold isop; rw [x0, x1, x2, x3, x4, x7, x8, x9, x10]; rfl) x5 (bne_of x5) x6 (bne_of x6)⟩
set_option maxRecDepth 100000 in
set_option maxHeartbeats 6400000 in
theorem folds_of (op : ByteArray) (a : Bool) (m : Int) (b : Bool) (n : Int) (w : World) (fb : Bool) (fn fe : Int) (h1 : ∀ w, Calls Try.prog 9 #[.string op, .bool a, .int .u64 m, .bool b, .int .u64 n] w fun e w' => e = .returned (.tuple #[.bool fb, .int .u64 fn, .int .i64 fe]) ∧ Kp w w') (h2 : ∀ w, Calls Try.prog 10 #[.string op, .agg #[.bool a, .int .u64 m], .agg #[.bool b, .int .u64 n]] w fun e w' => e = .returned (.tuple #[.agg #[.bool fb, .int .u64 fn], .int .i64 fe]) ∧ Kp w w') :
    Calls Try.prog 3 #[.string op, .agg #[.bool a, .int .u64 m], .agg #[.bool b, .int .u64 n]] w fun e w' => e = .returned (.bool true) ∧ Kp w w' := by
  have H1 := Lib.hid h1
  have H2 := Lib.hid h2
  clear h1 h2
  go_enter Try.func3, Try.ntmps3
  go_wp2_with (first | ((go_at_call 9; with_reducible refine (H1.out _).mono ?_; rintro e w1 ⟨rfl, hk⟩; have hc00 := keepc hk (b := w.heap.size) (o := 0) (v := .bool a) (by first | assumption | (simp [go_sem]; done) | (simp [go_sem, *]; done)); have hc01 := keepc hk (b := w.heap.size) (o := 1) (v := .int .u64 m) (by first | assumption | (simp [go_sem]; done) | (simp [go_sem, *]; done)); have hc10 := keepc hk (b := w.heap.size + 1) (o := 0) (v := .bool b) (by first | assumption | (simp [go_sem]; done) | (simp [go_sem, *]; done)); have hc11 := keepc hk (b := w.heap.size + 1) (o := 1) (v := .int .u64 n) (by first | assumption | (simp [go_sem]; done) | (simp [go_sem, *]; done)); have hs1 : w.heap.size + 1 < w1.heap.size := (by have := hk.below.size; simp at this; omega))) | ((go_at_call 10; with_reducible refine (H2.out _).mono ?_; rintro e wu ⟨rfl, hk⟩; have hc00 := keepc hk (b := w.heap.size) (o := 0) (v := .bool a) (by first | assumption | (simp [go_sem]; done) | (simp [go_sem, *]; done)); have hc01 := keepc hk (b := w.heap.size) (o := 1) (v := .int .u64 m) (by first | assumption | (simp [go_sem]; done) | (simp [go_sem, *]; done)); have hc10 := keepc hk (b := w.heap.size + 1) (o := 0) (v := .bool b) (by first | assumption | (simp [go_sem]; done) | (simp [go_sem, *]; done)); have hc11 := keepc hk (b := w.heap.size + 1) (o := 1) (v := .int .u64 n) (by first | assumption | (simp [go_sem]; done) | (simp [go_sem, *]; done)); have hs2 : w.heap.size + 1 < wu.heap.size := (by have := hk.below.size; omega); have hs20 : w.heap.size < wu.heap.size := (by omega); have hn1 : ¬ w.heap.size + 1 = wu.heap.size := (by omega); have hn0 : ¬ w.heap.size = wu.heap.size := (by omega))) | ((go_at_call 11; with_reducible refine (c_answers _).mono ?_; rintro e w5 ⟨rfl, hk⟩; have hc00 := keepc hk (b := w.heap.size) (o := 0) (v := .bool a) (by first | assumption | (simp [go_sem]; done) | (simp [go_sem, *]; done)); have hc01 := keepc hk (b := w.heap.size) (o := 1) (v := .int .u64 m) (by first | assumption | (simp [go_sem]; done) | (simp [go_sem, *]; done)); have hc10 := keepc hk (b := w.heap.size + 1) (o := 0) (v := .bool b) (by first | assumption | (simp [go_sem]; done) | (simp [go_sem, *]; done)); have hc11 := keepc hk (b := w.heap.size + 1) (o := 1) (v := .int .u64 n) (by first | assumption | (simp [go_sem]; done) | (simp [go_sem, *]; done)); have hcu0 := keepc hk (b := wu.heap.size) (o := 0) (v := .bool fb) (by first | assumption | (simp [go_sem]; done) | (simp [go_sem]; assumption)); have hcu1 := keepc hk (b := wu.heap.size) (o := 1) (v := .int .u64 fn) (by first | assumption | (simp [go_sem]; done) | (simp [go_sem]; assumption)))))
  go_ret
  exact ⟨rfl, (by (repeat (first | exact Kp.refl _ | refine kback (by assumption) ?_ | refine Kp.setCell ?_ (by first | omega | (simp; done) | (simp; omega)) _ | refine Kp.alloc ?_ _ _ | refine Kp.drewN ?_ _ | refine Kp.drew ?_)))⟩
theorem law_KonstFolds (op : ByteArray) (a : Bool) (m : Int) (b : Bool) (n : Int) (w : World) (hm : 0 ≤ m ∧ m < 18446744073709551616) (hn : 0 ≤ n ∧ n < 18446744073709551616) :
    Calls Try.prog 3 #[.string op, .agg #[.bool a, .int .u64 m], .agg #[.bool b, .int .u64 n]] w fun e w' => e = .returned (.bool true) ∧ Kp w w' := by
  obtain ⟨fb, fn, fe, h1, h2⟩ := fold_pair op a m b n hm hn
  exact folds_of op a m b n w fb fn fe h1 h2
end Go.Proofs.Ytihchlkoohficaa
