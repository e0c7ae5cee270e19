/- The statements WordArith and WordShifts, walked: at every input the call returns true, and of what was there nothing has turned. -/
import Derived.Test.YtlpcnkjnjkijbaaW10
namespace Go.Proofs.Ytlpcnkjnjkijbaa
open Go.RowKit Plain
set_option linter.unusedVariables false
theorem lit_of {op : ByteArray} {l : List UInt8} (h : (op.toList == l) = true) : op = ⟨l.toArray⟩ := by
  have h1 : op.toList = l := by simpa using h
  rw [ByteArray.toList_eq] at h1
  cases op with
  | mk d => simp at h1; rw [← h1]
/-- Two calls that answer alike. -/
theorem arith_of (k a b v e : Int) (op : ByteArray) (w : World)
    (h1 : ∀ w, Calls Try.prog 21 #[.int .i64 k, .string op, .int .u64 a, .int .u64 b] w fun r w' => r = .returned (.tuple #[.int .u64 v, .int .i64 e]) ∧ Kp w w')
    (h2 : ∀ w, Calls Try.prog 22 #[.int .i64 k, .string op, .int .u64 a, .int .u64 b] w fun r w' => r = .returned (.tuple #[.int .u64 v, .int .i64 e]) ∧ Kp w w') :
    Calls Try.prog 4 #[.int .i64 k, .string op, .int .u64 a, .int .u64 b] w fun e w' => e = .returned (.bool true) ∧ Kp w w' := by
  have H1 := Lib.hid h1
  have H2 := Lib.hid h2
  clear h1 h2
  go_enter Try.func4, Try.ntmps4
  go_wp2_with (first | (go_at_call 21; with_reducible refine (H1.out _).mono ?_; rintro e w' ⟨rfl, hk⟩) | (go_at_call 22; with_reducible refine (H2.out _).mono ?_; rintro e w' ⟨rfl, hk⟩) | (go_at_call 14; with_reducible refine (c_answers _).mono ?_; rintro e w' ⟨rfl, hka⟩))
  go_ret
  exact ⟨rfl, by (repeat (first | exact Kp.refl _ | refine kback (by assumption) ?_ | refine Kp.alloc ?_ _ _ | refine Kp.drewN ?_ _ | refine Kp.drew ?_))⟩
theorem shift_of (k a b n v e : Int) (op : ByteArray) (w : World)
    (h1 : ∀ w, Calls Try.prog 23 #[.int .i64 k, .string op, .int .u64 a, .int .i64 b, .int .u64 n] w fun r w' => r = .returned (.tuple #[.int .u64 v, .int .i64 e]) ∧ Kp w w')
    (h2 : ∀ w, Calls Try.prog 24 #[.int .i64 k, .string op, .int .u64 a, .int .i64 b, .int .u64 n] w fun r w' => r = .returned (.tuple #[.int .u64 v, .int .i64 e]) ∧ Kp w w') :
    Calls Try.prog 5 #[.int .i64 k, .string op, .int .u64 a, .int .i64 b, .int .u64 n] w fun e w' => e = .returned (.bool true) ∧ Kp w w' := by
  have H1 := Lib.hid h1
  have H2 := Lib.hid h2
  clear h1 h2
  go_enter Try.func5, Try.ntmps5
  go_wp2_with (first | (go_at_call 23; with_reducible refine (H1.out _).mono ?_; rintro e w' ⟨rfl, hk⟩) | (go_at_call 24; with_reducible refine (H2.out _).mono ?_; rintro e w' ⟨rfl, hk⟩) | (go_at_call 14; with_reducible refine (c_answers _).mono ?_; rintro e w' ⟨rfl, hka⟩))
  go_ret
  exact ⟨rfl, by (repeat (first | exact Kp.refl _ | refine kback (by assumption) ?_ | refine Kp.alloc ?_ _ _ | refine Kp.drewN ?_ _ | refine Kp.drew ?_))⟩
theorem e2_0 {k a b : Int} (h : (e2 k a b != 0) = false) : wh k = true ∧ iz k a = true ∧ iz k b = true := by
  unfold e2 at h
  cases h1 : wh k <;> cases h2 : iz k a <;> cases h3 : iz k b <;> simp [h1, h2, h3] at h ⊢
theorem law_WordArith (k a b : Int) (op : ByteArray) (w : World) (ha : 0 ≤ a ∧ a < 18446744073709551616) (hb : 0 ≤ b ∧ b < 18446744073709551616) :
    Calls Try.prog 4 #[.int .i64 k, .string op, .int .u64 a, .int .u64 b] w fun e w' => e = .returned (.bool true) ∧ Kp w w' := by
  cases ho : isop op with
  | false => exact arith_of k a b 0 2 op w (fun w => a_noop k a b op w ho) (fun w => q_noop k a b op w ho)
  | true =>
    cases he : (e2 k a b != 0) with
    | true => exact arith_of k a b 0 (e2 k a b) op w (fun w => a_bad k a b op w ha hb ho he) (fun w => q_bad k a b op w ha hb ho he)
    | false =>
      obtain ⟨h, hi, hj⟩ := e2_0 he
      cases x0 : (op.toList == [43]) with
      | true =>
        obtain rfl := lit_of x0
        exact arith_of k a b (wr k (a + b)) 0 _ w (fun w => a_add k a b w ha hb h hi hj) (fun w => q_add k a b w ha hb h hi hj)
      | false =>
        cases x1 : (op.toList == [45]) with
        | true =>
          obtain rfl := lit_of x1
          exact arith_of k a b (wr k (a - b)) 0 _ w (fun w => a_sub k a b w ha hb h hi hj) (fun w => q_sub k a b w ha hb h hi hj)
        | false =>
          cases x2 : (op.toList == [42]) with
          | true =>
            obtain rfl := lit_of x2
            exact arith_of k a b (wr k (a * b)) 0 _ w (fun w => a_mul k a b w ha hb h hi hj) (fun w => q_mul k a b w ha hb h hi hj)
          | false =>
            cases x3 : (op.toList == [47]) with
            | true =>
              obtain rfl := lit_of x3
              by_cases h0 : b = 0
              · subst h0; exact arith_of k a 0 0 18 _ w (fun w => a_quo0 k a w ha h hi) (fun w => q_quo0 k a w ha h hi)
              · exact arith_of k a b (wr k ((sv k a).tdiv (sv k b))) 0 _ w (fun w => a_quo k a b w ha hb h hi hj h0) (fun w => q_quo k a b w ha hb h hi hj h0)
            | false =>
              cases x4 : (op.toList == [37]) with
              | true =>
                obtain rfl := lit_of x4
                by_cases h0 : b = 0
                · subst h0; exact arith_of k a 0 0 18 _ w (fun w => a_rem0 k a w ha h hi) (fun w => q_rem0 k a w ha h hi)
                · exact arith_of k a b (wr k ((sv k a).tmod (sv k b))) 0 _ w (fun w => a_rem k a b w ha hb h hi hj h0) (fun w => q_rem k a b w ha hb h hi hj h0)
              | false =>
                cases x5 : (op.toList == [38]) with
                | true =>
                  obtain rfl := lit_of x5
                  exact arith_of k a b (wr k (ban a b)) 0 _ w (fun w => a_and k a b w ha hb h hi hj) (fun w => q_and k a b w ha hb h hi hj)
                | false =>
                  cases x6 : (op.toList == [124]) with
                  | true =>
                    obtain rfl := lit_of x6
                    exact arith_of k a b (wr k (bor a b)) 0 _ w (fun w => a_or k a b w ha hb h hi hj) (fun w => q_or k a b w ha hb h hi hj)
                  | false =>
                    cases x7 : (op.toList == [94]) with
                    | true =>
                      obtain rfl := lit_of x7
                      exact arith_of k a b (wr k (bxo a b)) 0 _ w (fun w => a_xor k a b w ha hb h hi hj) (fun w => q_xor k a b w ha hb h hi hj)
                    | false =>
                      cases x8 : (op.toList == [38, 94]) with
                      | true =>
                        obtain rfl := lit_of x8
                        exact arith_of k a b (wr k (bnt a b)) 0 _ w (fun w => a_not k a b w ha hb h hi hj) (fun w => q_not k a b w ha hb h hi hj)
                      | false =>
                        exfalso; unfold isop at ho; rw [x0, x1, x2, x3, x4, x5, x6, x7, x8] at ho; exact Bool.noConfusion ho
theorem law_WordShifts (k a b n : Int) (op : ByteArray) (w : World) (ha : 0 ≤ a ∧ a < 18446744073709551616) (hn : 0 ≤ n ∧ n < 18446744073709551616) :
    Calls Try.prog 5 #[.int .i64 k, .string op, .int .u64 a, .int .i64 b, .int .u64 n] w fun e w' => e = .returned (.bool true) ∧ Kp w w' := by
  cases x1 : (op.toList == [60, 60]) with
  | true =>
    obtain rfl := lit_of x1
    cases h : wh k with
    | false => exact shift_of k a b n 0 2 _ w (fun w => s_shl_k k a b n w h) (fun w => r_shl_k k a b n w h)
    | true =>
      cases hb : wh b with
      | false => exact shift_of k a b n 0 2 _ w (fun w => s_shl_b k a b n w h hb) (fun w => r_shl_b k a b n w h hb)
      | true =>
        cases hi : iz k a with
        | false => exact shift_of k a b n 0 1 _ w (fun w => s_shl_a k a b n w ha hn h hb hi) (fun w => r_shl_a k a b n w ha hn h hb hi)
        | true =>
          cases hj : iz b n with
          | false => exact shift_of k a b n 0 1 _ w (fun w => s_shl_n k a b n w ha hn h hb hi hj) (fun w => r_shl_n k a b n w ha hn h hb hi hj)
          | true =>
            cases hg : ng b n with
            | true => exact shift_of k a b n 0 19 _ w (fun w => s_shl_neg k a b n w ha hn h hb hi hj hg) (fun w => r_shl_neg k a b n w ha hn h hb hi hj hg)
            | false => exact shift_of k a b n (wr k (a * 2 ^ min n.toNat 64)) 0 _ w (fun w => s_shl k a b n w ha hn h hb hi hj hg) (fun w => r_shl k a b n w ha hn h hb hi hj hg)
  | false =>
    cases x2 : (op.toList == [62, 62]) with
    | true =>
      obtain rfl := lit_of x2
      cases h : wh k with
      | false => exact shift_of k a b n 0 2 _ w (fun w => s_shr_k k a b n w h) (fun w => r_shr_k k a b n w h)
      | true =>
        cases hb : wh b with
        | false => exact shift_of k a b n 0 2 _ w (fun w => s_shr_b k a b n w h hb) (fun w => r_shr_b k a b n w h hb)
        | true =>
          cases hi : iz k a with
          | false => exact shift_of k a b n 0 1 _ w (fun w => s_shr_a k a b n w ha hn h hb hi) (fun w => r_shr_a k a b n w ha hn h hb hi)
          | true =>
            cases hj : iz b n with
            | false => exact shift_of k a b n 0 1 _ w (fun w => s_shr_n k a b n w ha hn h hb hi hj) (fun w => r_shr_n k a b n w ha hn h hb hi hj)
            | true =>
              cases hg : ng b n with
              | true => exact shift_of k a b n 0 19 _ w (fun w => s_shr_neg k a b n w ha hn h hb hi hj hg) (fun w => r_shr_neg k a b n w ha hn h hb hi hj hg)
              | false => exact shift_of k a b n (dn k a n.toNat) 0 _ w (fun w => s_shr k a b n w ha hn h hb hi hj hg) (fun w => r_shr k a b n w ha hn h hb hi hj hg)
    | false => exact shift_of k a b n 0 2 _ w (fun w => s_noop k a b n op w x1 x2) (fun w => r_noop k a b n op w x1 x2)
end Go.Proofs.Ytlpcnkjnjkijbaa
