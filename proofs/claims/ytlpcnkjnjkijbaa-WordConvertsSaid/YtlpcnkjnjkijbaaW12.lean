/- The reference's In, by a plain function: has a kind this number? -/
import Derived.Test.YtlpcnkjnjkijbaaW10
import Derived.Test.YtlpcnkjnjkijbaaPlain4
namespace Go.Proofs.Ytlpcnkjnjkijbaa
open Go.RowKit Plain
set_option linter.unusedVariables false
theorem c_rSigned' (k : Int) (w : World) : Calls Try.prog 19 #[.int .i64 k] w fun e w' => e = .returned (.bool (sg k)) ∧ w' = w := (c_rSigned k w).mono fun _ _ q => ⟨q.1, q.2.symm⟩
theorem c_top (k : Int) (w : World) (h : wh k = true) : Calls Try.prog 40 #[.int .i64 k] w fun e w' => e = .returned (.int .u64 (tp k)) ∧ w' = w := by
  rcases wh_iff h with rfl | rfl | rfl | rfl | rfl | rfl
  all_goals
    clear h
    go_enter Try.func40, Try.ntmps40
    go_wp2; go_ret; exact ⟨rfl, rfl⟩
theorem c_In (k n : Int) (neg : Bool) (w : World) (h : wh k = true) :
    Calls Try.prog 26 #[.int .i64 k, .agg #[.bool neg, .int .u64 n]] w fun e w' => e = .returned (.bool (ib k neg n)) ∧ Kp w w' := by
  cases neg with
  | true =>
    cases hs : sg k with
    | true =>
      have e : ib k true n = decide (n ≤ tp k) := by simp [ib, hs]
      rw [e]; clear e
      go_enter Try.func26, Try.ntmps26
      go_wp2_with fail
      go_quiet ((first | (go_at_call 19; exact Calls.quiet_of_same (c_rSigned' _ _)) | (go_at_call 40; exact Calls.quiet_of_same (c_top _ _ h))))
      go_wp2_with fail
      go_ret
      exact ⟨rfl, by (repeat (first | exact Kp.refl _ | refine kback (by assumption) ?_ | refine Kp.alloc ?_ _ _ | refine Kp.drewN ?_ _ | refine Kp.drew ?_))⟩
    | false =>
      have e : ib k true n = false := by simp [ib, hs]
      rw [e]; clear e
      go_enter Try.func26, Try.ntmps26
      go_wp2_with fail
      go_quiet ((first | (go_at_call 19; exact Calls.quiet_of_same (c_rSigned' _ _)) | (go_at_call 40; exact Calls.quiet_of_same (c_top _ _ h))))
      go_wp2_with fail
      go_ret
      exact ⟨rfl, by (repeat (first | exact Kp.refl _ | refine kback (by assumption) ?_ | refine Kp.alloc ?_ _ _ | refine Kp.drewN ?_ _ | refine Kp.drew ?_))⟩
  | false =>
    cases hs : sg k with
    | true =>
      have e : ib k false n = decide (n < tp k) := by simp [ib, hs]
      rw [e]; clear e
      go_enter Try.func26, Try.ntmps26
      go_wp2_with (go_at_call 19; with_reducible refine (c_rSigned _ _).mono ?_; rintro e w' ⟨rfl, rfl⟩)
      go_quiet ((first | (go_at_call 40; exact Calls.quiet_of_same (c_top _ _ h))))
      go_wp2_with fail
      go_ret
      exact ⟨rfl, by (repeat (first | exact Kp.refl _ | refine kback (by assumption) ?_ | refine Kp.alloc ?_ _ _ | refine Kp.drewN ?_ _ | refine Kp.drew ?_))⟩
    | false =>
      have e : ib k false n = decide (n ≤ tp k - 1 + tp k) := by simp [ib, hs]
      rw [e]; clear e
      obtain ⟨ht0, ht1⟩ := tp_r k
      go_enter Try.func26, Try.ntmps26
      go_wp2_with (go_at_call 19; with_reducible refine (c_rSigned _ _).mono ?_; rintro e w' ⟨rfl, rfl⟩)
      go_quiet ((first | (go_at_call 40; exact Calls.quiet_of_same (c_top _ _ h))))
      go_wp2_with fail
      go_ret
      exact ⟨rfl, by (repeat (first | exact Kp.refl _ | refine kback (by assumption) ?_ | refine Kp.alloc ?_ _ _ | refine Kp.drewN ?_ _ | refine Kp.drew ?_))⟩
set_option maxRecDepth 100000 in
theorem law_WordConverts (f b t n : Int) (w : World) (hn : 0 ≤ n ∧ n < 18446744073709551616) :
    Calls Try.prog 6 #[.int .i64 f, .int .i64 b, .int .i64 t, .int .u64 n] w fun e w' => e = .returned (.bool true) ∧ Kp w w' := by
  have HN := Lib.hid hn
  cases ht : wh t with
  | false =>
    clear hn
    cases hf : wh f with
    | false =>
      go_enter Try.func6, Try.ntmps6
      go_wp2_with (first | (go_at_call 25; with_reducible refine (c_Convert_kind f t n _ ht).mono ?_; rintro e w' ⟨rfl, hk⟩) | (go_at_call 14; with_reducible refine (c_answers _).mono ?_; rintro e w' ⟨rfl, hka⟩) | (go_at_call 17; with_reducible refine (c_Whole _ _).mono ?_; rintro e w' ⟨rfl, rfl⟩))
      go_ret
      exact ⟨rfl, by (repeat (first | exact Kp.refl _ | refine kback (by assumption) ?_ | refine Kp.alloc ?_ _ _ | refine Kp.drewN ?_ _ | refine Kp.drew ?_))⟩
    | true =>
      go_enter Try.func6, Try.ntmps6
      go_wp2_with (first | (go_at_call 25; with_reducible refine (c_Convert_kind f t n _ ht).mono ?_; rintro e w' ⟨rfl, hk⟩) | (go_at_call 14; with_reducible refine (c_answers _).mono ?_; rintro e w' ⟨rfl, hka⟩) | (go_at_call 17; with_reducible refine (c_Whole _ _).mono ?_; rintro e w' ⟨rfl, rfl⟩))
      go_ret
      exact ⟨rfl, by (repeat (first | exact Kp.refl _ | refine kback (by assumption) ?_ | refine Kp.alloc ?_ _ _ | refine Kp.drewN ?_ _ | refine Kp.drew ?_))⟩
  | true =>
    cases hf : wh f with
    | false =>
      have q1 : e1 f n = 2 := by simp [e1, hf]
      have q2 := Lib.hid (show (e1 f n != 0) = true by simp [q1])
      clear hn
      go_enter Try.func6, Try.ntmps6
      go_wp2_with (first | (go_at_call 25; with_reducible refine (c_Convert_bad f t n _ HN.out ht q2.out).mono ?_; rintro e w' ⟨rfl, hk⟩) | (go_at_call 14; with_reducible refine (c_answers _).mono ?_; rintro e w' ⟨rfl, hka⟩) | (go_at_call 17; with_reducible refine (c_Whole _ _).mono ?_; rintro e w' ⟨rfl, rfl⟩))
      go_ret
      exact ⟨rfl, by (repeat (first | exact Kp.refl _ | refine kback (by assumption) ?_ | refine Kp.alloc ?_ _ _ | refine Kp.drewN ?_ _ | refine Kp.drew ?_))⟩
    | true =>
      cases hi : iz f n with
      | false =>
        have q1 : e1 f n = 1 := by simp [e1, hf, hi]
        have q2 := Lib.hid (show (e1 f n != 0) = true by simp [q1])
        clear hn
        go_enter Try.func6, Try.ntmps6
        go_wp2_with (first | (go_at_call 25; with_reducible refine (c_Convert_bad f t n _ HN.out ht q2.out).mono ?_; rintro e w' ⟨rfl, hk⟩) | (go_at_call 14; with_reducible refine (c_answers _).mono ?_; rintro e w' ⟨rfl, hka⟩) | (go_at_call 17; with_reducible refine (c_Whole _ _).mono ?_; rintro e w' ⟨rfl, rfl⟩) | (go_at_call 16; with_reducible refine (c_rIs f n _ HN.out).mono ?_; rintro e w' ⟨rfl, rfl⟩))
        go_ret
        exact ⟨rfl, by (repeat (first | exact Kp.refl _ | refine kback (by assumption) ?_ | refine Kp.alloc ?_ _ _ | refine Kp.drewN ?_ _ | refine Kp.drew ?_))⟩
      | true =>
        have q3 := back_in hf ht hi hn
        clear hn
        cases q4 : ib t (ng f n) (sz f n) with
        | true =>
          have q5 : (wr f (wr t n) != n) = false := by rw [q4] at q3; simpa using q3
          clear q3
          cases hb : wh b with
          | false =>
            go_enter Try.func6, Try.ntmps6
            go_wp2_with (first | (go_at_call 25; with_reducible refine (c_Convert f t n _ HN.out ht hf hi).mono ?_; rintro e w' ⟨rfl, hk⟩) | (go_at_call 25; with_reducible refine (c_Convert t f (wr t n) _ (wr_range ht n) hf ht (iz_wr ht n)).mono ?_; rintro e w' ⟨rfl, hk⟩) | (go_at_call 14; with_reducible refine (c_answers _).mono ?_; rintro e w' ⟨rfl, hka⟩) | (go_at_call 17; with_reducible refine (c_Whole _ _).mono ?_; rintro e w' ⟨rfl, rfl⟩) | (go_at_call 16; with_reducible refine (c_rIs f n _ HN.out).mono ?_; rintro e w' ⟨rfl, rfl⟩) | (go_at_call 20; with_reducible refine (c_rWrap t n _ ht HN.out).mono ?_; rintro e w' ⟨rfl, rfl⟩) | (go_at_call 27; with_reducible refine (c_Of f n _ HN.out).mono ?_; rintro e w' ⟨rfl, hk⟩) | (go_at_call 26; with_reducible refine (c_In t _ _ _ ht).mono ?_; rintro e w' ⟨rfl, hk⟩) | (go_at_call 18; with_reducible refine (c_rBits _ _).mono ?_; rintro e w' ⟨rfl, rfl⟩) | (go_at_call 25; with_reducible refine (c_Convert_kind f b n _ hb).mono ?_; rintro e w' ⟨rfl, hk⟩))
            go_ret
            exact ⟨rfl, by (repeat (first | exact Kp.refl _ | refine kback (by assumption) ?_ | refine Kp.alloc ?_ _ _ | refine Kp.drewN ?_ _ | refine Kp.drew ?_))⟩
          | true =>
            by_cases hw : bt b < bt t
            · go_enter Try.func6, Try.ntmps6
              go_wp2_with (first | (go_at_call 25; with_reducible refine (c_Convert f t n _ HN.out ht hf hi).mono ?_; rintro e w' ⟨rfl, hk⟩) | (go_at_call 25; with_reducible refine (c_Convert t f (wr t n) _ (wr_range ht n) hf ht (iz_wr ht n)).mono ?_; rintro e w' ⟨rfl, hk⟩) | (go_at_call 14; with_reducible refine (c_answers _).mono ?_; rintro e w' ⟨rfl, hka⟩) | (go_at_call 17; with_reducible refine (c_Whole _ _).mono ?_; rintro e w' ⟨rfl, rfl⟩) | (go_at_call 16; with_reducible refine (c_rIs f n _ HN.out).mono ?_; rintro e w' ⟨rfl, rfl⟩) | (go_at_call 20; with_reducible refine (c_rWrap t n _ ht HN.out).mono ?_; rintro e w' ⟨rfl, rfl⟩) | (go_at_call 27; with_reducible refine (c_Of f n _ HN.out).mono ?_; rintro e w' ⟨rfl, hk⟩) | (go_at_call 26; with_reducible refine (c_In t _ _ _ ht).mono ?_; rintro e w' ⟨rfl, hk⟩) | (go_at_call 18; with_reducible refine (c_rBits _ _).mono ?_; rintro e w' ⟨rfl, rfl⟩) | (go_at_call 25; with_reducible refine (c_Convert f b n _ HN.out hb hf hi).mono ?_; rintro e w' ⟨rfl, hk⟩))
              go_ret
              exact ⟨rfl, by (repeat (first | exact Kp.refl _ | refine kback (by assumption) ?_ | refine Kp.alloc ?_ _ _ | refine Kp.drewN ?_ _ | refine Kp.drew ?_))⟩
            · have q6 : (wr t (wr b n) == wr t n) = true := by rw [wide hb ht (by omega)]; simp
              go_enter Try.func6, Try.ntmps6
              go_wp2_with (first | (go_at_call 25; with_reducible refine (c_Convert f t n _ HN.out ht hf hi).mono ?_; rintro e w' ⟨rfl, hk⟩) | (go_at_call 25; with_reducible refine (c_Convert t f (wr t n) _ (wr_range ht n) hf ht (iz_wr ht n)).mono ?_; rintro e w' ⟨rfl, hk⟩) | (go_at_call 14; with_reducible refine (c_answers _).mono ?_; rintro e w' ⟨rfl, hka⟩) | (go_at_call 17; with_reducible refine (c_Whole _ _).mono ?_; rintro e w' ⟨rfl, rfl⟩) | (go_at_call 16; with_reducible refine (c_rIs f n _ HN.out).mono ?_; rintro e w' ⟨rfl, rfl⟩) | (go_at_call 20; with_reducible refine (c_rWrap t n _ ht HN.out).mono ?_; rintro e w' ⟨rfl, rfl⟩) | (go_at_call 27; with_reducible refine (c_Of f n _ HN.out).mono ?_; rintro e w' ⟨rfl, hk⟩) | (go_at_call 26; with_reducible refine (c_In t _ _ _ ht).mono ?_; rintro e w' ⟨rfl, hk⟩) | (go_at_call 18; with_reducible refine (c_rBits _ _).mono ?_; rintro e w' ⟨rfl, rfl⟩) | (go_at_call 25; with_reducible refine (c_Convert f b n _ HN.out hb hf hi).mono ?_; rintro e w' ⟨rfl, hk⟩) | (go_at_call 25; with_reducible refine (c_Convert b t (wr b n) _ (wr_range hb n) ht hb (iz_wr hb n)).mono ?_; rintro e w' ⟨rfl, hk⟩))
              go_ret
              exact ⟨rfl, by (repeat (first | exact Kp.refl _ | refine kback (by assumption) ?_ | refine Kp.alloc ?_ _ _ | refine Kp.drewN ?_ _ | refine Kp.drew ?_))⟩
        | false =>
          clear q3
          cases hb : wh b with
          | false =>
            go_enter Try.func6, Try.ntmps6
            go_wp2_with (first | (go_at_call 25; with_reducible refine (c_Convert f t n _ HN.out ht hf hi).mono ?_; rintro e w' ⟨rfl, hk⟩) | (go_at_call 25; with_reducible refine (c_Convert t f (wr t n) _ (wr_range ht n) hf ht (iz_wr ht n)).mono ?_; rintro e w' ⟨rfl, hk⟩) | (go_at_call 14; with_reducible refine (c_answers _).mono ?_; rintro e w' ⟨rfl, hka⟩) | (go_at_call 17; with_reducible refine (c_Whole _ _).mono ?_; rintro e w' ⟨rfl, rfl⟩) | (go_at_call 16; with_reducible refine (c_rIs f n _ HN.out).mono ?_; rintro e w' ⟨rfl, rfl⟩) | (go_at_call 20; with_reducible refine (c_rWrap t n _ ht HN.out).mono ?_; rintro e w' ⟨rfl, rfl⟩) | (go_at_call 27; with_reducible refine (c_Of f n _ HN.out).mono ?_; rintro e w' ⟨rfl, hk⟩) | (go_at_call 26; with_reducible refine (c_In t _ _ _ ht).mono ?_; rintro e w' ⟨rfl, hk⟩) | (go_at_call 18; with_reducible refine (c_rBits _ _).mono ?_; rintro e w' ⟨rfl, rfl⟩) | (go_at_call 25; with_reducible refine (c_Convert_kind f b n _ hb).mono ?_; rintro e w' ⟨rfl, hk⟩))
            go_ret
            exact ⟨rfl, by (repeat (first | exact Kp.refl _ | refine kback (by assumption) ?_ | refine Kp.alloc ?_ _ _ | refine Kp.drewN ?_ _ | refine Kp.drew ?_))⟩
          | true =>
            by_cases hw : bt b < bt t
            · go_enter Try.func6, Try.ntmps6
              go_wp2_with (first | (go_at_call 25; with_reducible refine (c_Convert f t n _ HN.out ht hf hi).mono ?_; rintro e w' ⟨rfl, hk⟩) | (go_at_call 25; with_reducible refine (c_Convert t f (wr t n) _ (wr_range ht n) hf ht (iz_wr ht n)).mono ?_; rintro e w' ⟨rfl, hk⟩) | (go_at_call 14; with_reducible refine (c_answers _).mono ?_; rintro e w' ⟨rfl, hka⟩) | (go_at_call 17; with_reducible refine (c_Whole _ _).mono ?_; rintro e w' ⟨rfl, rfl⟩) | (go_at_call 16; with_reducible refine (c_rIs f n _ HN.out).mono ?_; rintro e w' ⟨rfl, rfl⟩) | (go_at_call 20; with_reducible refine (c_rWrap t n _ ht HN.out).mono ?_; rintro e w' ⟨rfl, rfl⟩) | (go_at_call 27; with_reducible refine (c_Of f n _ HN.out).mono ?_; rintro e w' ⟨rfl, hk⟩) | (go_at_call 26; with_reducible refine (c_In t _ _ _ ht).mono ?_; rintro e w' ⟨rfl, hk⟩) | (go_at_call 18; with_reducible refine (c_rBits _ _).mono ?_; rintro e w' ⟨rfl, rfl⟩) | (go_at_call 25; with_reducible refine (c_Convert f b n _ HN.out hb hf hi).mono ?_; rintro e w' ⟨rfl, hk⟩))
              go_ret
              exact ⟨rfl, by (repeat (first | exact Kp.refl _ | refine kback (by assumption) ?_ | refine Kp.alloc ?_ _ _ | refine Kp.drewN ?_ _ | refine Kp.drew ?_))⟩
            · have q6 : (wr t (wr b n) == wr t n) = true := by rw [wide hb ht (by omega)]; simp
              go_enter Try.func6, Try.ntmps6
              go_wp2_with (first | (go_at_call 25; with_reducible refine (c_Convert f t n _ HN.out ht hf hi).mono ?_; rintro e w' ⟨rfl, hk⟩) | (go_at_call 25; with_reducible refine (c_Convert t f (wr t n) _ (wr_range ht n) hf ht (iz_wr ht n)).mono ?_; rintro e w' ⟨rfl, hk⟩) | (go_at_call 14; with_reducible refine (c_answers _).mono ?_; rintro e w' ⟨rfl, hka⟩) | (go_at_call 17; with_reducible refine (c_Whole _ _).mono ?_; rintro e w' ⟨rfl, rfl⟩) | (go_at_call 16; with_reducible refine (c_rIs f n _ HN.out).mono ?_; rintro e w' ⟨rfl, rfl⟩) | (go_at_call 20; with_reducible refine (c_rWrap t n _ ht HN.out).mono ?_; rintro e w' ⟨rfl, rfl⟩) | (go_at_call 27; with_reducible refine (c_Of f n _ HN.out).mono ?_; rintro e w' ⟨rfl, hk⟩) | (go_at_call 26; with_reducible refine (c_In t _ _ _ ht).mono ?_; rintro e w' ⟨rfl, hk⟩) | (go_at_call 18; with_reducible refine (c_rBits _ _).mono ?_; rintro e w' ⟨rfl, rfl⟩) | (go_at_call 25; with_reducible refine (c_Convert f b n _ HN.out hb hf hi).mono ?_; rintro e w' ⟨rfl, hk⟩) | (go_at_call 25; with_reducible refine (c_Convert b t (wr b n) _ (wr_range hb n) ht hb (iz_wr hb n)).mono ?_; rintro e w' ⟨rfl, hk⟩))
              go_ret
              exact ⟨rfl, by (repeat (first | exact Kp.refl _ | refine kback (by assumption) ?_ | refine Kp.alloc ?_ _ _ | refine Kp.drewN ?_ _ | refine Kp.drew ?_))⟩
end Go.Proofs.Ytlpcnkjnjkijbaa
