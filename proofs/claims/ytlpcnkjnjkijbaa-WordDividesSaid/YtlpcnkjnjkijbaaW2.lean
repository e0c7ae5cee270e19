/- The reference's Wrap, which goes through the bits one by one, answers what the plain function says, at every kind and word. -/
import Derived.Test.YtlpcnkjnjkijbaaW1
namespace Go.Proofs.Ytlpcnkjnjkijbaa
open Go.RowKit Plain
set_option linter.unusedVariables false

theorem c_rWrap (k n : Int) (w : World) (h : wh k = true) (hn : 0 ≤ n ∧ n < 18446744073709551616) :
    Calls Try.prog 20 #[.int .i64 k, .int .u64 n] w fun e w' => e = .returned (.int .u64 (wr k n)) ∧ w = w' := by
  have H := Lib.hid hn
  obtain ⟨hn0, hn1⟩ := hn
  clear hn1
  go_enter Try.func20, Try.ntmps20
  go_wp2_with fail
  go_loop [5, 6, 7] (fun o b i => ∃ j : Nat, j ≤ 64 ∧ i = .int .i64 j ∧ o = .int .u64 (lo k n j) ∧ b = .int .u64 (bi k n j)) (fun _ _ i => 64 - (intOf i).toNat)
  case atStart => exact ⟨0, by omega, rfl, by rw [lo_0 k n], by rw [bi_0 k n]⟩
  case round =>
    obtain ⟨j, hj, rfl, rfl, rfl⟩ := hrel
    by_cases hlt : j < 64
    · by_cases hb : (j : Int) < bt k
      · go_wp2_with (go_at_call 18; refine (c_rBits _ _).mono ?_; rintro e w' ⟨rfl, rfl⟩)
        have hr := round_low (k := k) (n := n) hn0 hlt (by rw [bn_cast] at hb; omega)
        go_round
        case rel => exact ⟨j + 1, by omega, by go_num, by rw [hr.2], by rw [hr.1]⟩
        case measure => simp [intOf]; omega
      · have hb' : bn k ≤ j := by rw [bn_cast] at hb; omega
        cases hs : sg k with
        | true =>
          go_wp2_with (first | (go_at_call 18; refine (c_rBits _ _).mono ?_; rintro e w' ⟨rfl, rfl⟩) | (go_at_call 19; refine (c_rSigned _ _).mono ?_; rintro e w' ⟨rfl, rfl⟩))
          have hr := round_high (k := k) (n := n) h hlt hb' hs
          go_round
          case rel => exact ⟨j + 1, by omega, by go_num, by rw [hr.2], by rw [hr.1]⟩
          case measure => simp [intOf]; omega
        | false =>
          have hl := lo_range (n := n) h hj
          go_wp2_with (first | (go_at_call 18; refine (c_rBits _ _).mono ?_; rintro e w' ⟨rfl, rfl⟩) | (go_at_call 19; refine (c_rSigned _ _).mono ?_; rintro e w' ⟨rfl, rfl⟩))
          have hr := round_none (k := k) (n := n) h hlt hb' hs
          go_round
          case rel => exact ⟨j + 1, by omega, by go_num, by rw [← hr.2], by rw [hr.1]⟩
          case measure => simp [intOf]; omega
    · obtain rfl : j = 64 := by omega
      have hl := lo_end (n := n) h
      go_wp2_with fail
      go_ret
      exact ⟨rfl, rfl⟩

/-- The reference's Is. -/
theorem c_rIs (k n : Int) (w : World) (hn : 0 ≤ n ∧ n < 18446744073709551616) :
    Calls Try.prog 16 #[.int .i64 k, .int .u64 n] w fun e w' => e = .returned (.bool (wh k && iz k n)) ∧ w = w' := by
  have H := Lib.hid hn
  clear hn
  cases h : wh k with
  | false =>
    go_enter Try.func16, Try.ntmps16
    go_wp2_with (first | (go_at_call 17; refine (c_Whole _ _).mono ?_; rintro e w' ⟨rfl, rfl⟩))
    go_ret; exact ⟨rfl, rfl⟩
  | true =>
    go_enter Try.func16, Try.ntmps16
    go_wp2_with (first | (go_at_call 17; refine (c_Whole _ _).mono ?_; rintro e w' ⟨rfl, rfl⟩) | (go_at_call 20; refine (c_rWrap _ _ _ h H.out).mono ?_; rintro e w' ⟨rfl, rfl⟩))
    go_ret; exact ⟨rfl, rfl⟩

/-- check at one word. -/
theorem c_check1 (k a : Int) (b : Nat) (w : World) (ha : 0 ≤ a ∧ a < 18446744073709551616) (hc : w.cell? ⟨b, 0, none⟩ = some (.int .u64 a)) :
    Calls Try.prog 32 #[.int .i64 k, .slice (some ⟨b, 0, none⟩) 1 1] w fun e w' => e = .returned (.int .i64 (e1 k a)) ∧ w = w' := by
  have HA := Lib.hid ha
  clear ha
  cases h : wh k with
  | false =>
    have e : e1 k a = 2 := by simp [e1, h]
    rw [e]; clear e
    go_enter Try.func32, Try.ntmps32
    go_wp2_with (go_at_call 29; refine (c_isKind _ _).mono ?_; rintro e w' ⟨rfl, rfl⟩)
    go_ret; exact ⟨rfl, rfl⟩
  | true =>
    cases hi : iz k a with
    | true =>
      have e : e1 k a = 0 := by simp [e1, h, hi]
      have hz : (wr k a != a) = false := by simpa [iz] using hi
      rw [e]; clear e
      go_enter Try.func32, Try.ntmps32
      go_wp2_with (go_at_call 29; refine (c_isKind _ _).mono ?_; rintro e w' ⟨rfl, rfl⟩)
      refine wp_loop_rounds 5 ?_
      rw [rounds_succ]
      go_wp2_with (go_at_call 31; refine (c_wrap _ _ _ h HA.out).mono ?_; rintro e w' ⟨rfl, rfl⟩)
      rw [rounds_succ]
      go_wp2_with fail
      go_ret; exact ⟨rfl, rfl⟩
    | false =>
      have e : e1 k a = 1 := by simp [e1, h, hi]
      have hz : (wr k a != a) = true := by simpa [iz] using hi
      rw [e]; clear e
      go_enter Try.func32, Try.ntmps32
      go_wp2_with (go_at_call 29; refine (c_isKind _ _).mono ?_; rintro e w' ⟨rfl, rfl⟩)
      refine wp_loop_rounds 5 ?_
      rw [rounds_succ]
      go_wp2_with (go_at_call 31; refine (c_wrap _ _ _ h HA.out).mono ?_; rintro e w' ⟨rfl, rfl⟩)
      go_ret; exact ⟨rfl, rfl⟩
/-- check at two. -/
theorem c_check2 (k a a2 : Int) (b : Nat) (w : World) (ha : 0 ≤ a ∧ a < 18446744073709551616) (hb : 0 ≤ a2 ∧ a2 < 18446744073709551616) (hc : w.cell? ⟨b, 0, none⟩ = some (.int .u64 a)) (hd : w.cell? ⟨b, 1, none⟩ = some (.int .u64 a2)) :
    Calls Try.prog 32 #[.int .i64 k, .slice (some ⟨b, 0, none⟩) 2 2] w fun e w' => e = .returned (.int .i64 (e2 k a a2)) ∧ w = w' := by
  have HA := Lib.hid ha
  have HB := Lib.hid hb
  clear ha hb
  cases h : wh k with
  | false =>
    have e : e2 k a a2 = 2 := by simp [e2, h]
    rw [e]; clear e
    go_enter Try.func32, Try.ntmps32
    go_wp2_with (go_at_call 29; refine (c_isKind _ _).mono ?_; rintro e w' ⟨rfl, rfl⟩)
    go_ret; exact ⟨rfl, rfl⟩
  | true =>
    cases hi : iz k a with
    | true =>
      have hz : (wr k a != a) = false := by simpa [iz] using hi
      cases hj : iz k a2 with
      | true =>
        have e : e2 k a a2 = 0 := by simp [e2, h, hi, hj]
        have hy : (wr k a2 != a2) = false := by simpa [iz] using hj
        rw [e]; clear e
        go_enter Try.func32, Try.ntmps32
        go_wp2_with (go_at_call 29; refine (c_isKind _ _).mono ?_; rintro e w' ⟨rfl, rfl⟩)
        refine wp_loop_rounds 5 ?_
        rw [rounds_succ]
        go_wp2_with (go_at_call 31; refine (c_wrap _ _ _ h HA.out).mono ?_; rintro e w' ⟨rfl, rfl⟩)
        rw [rounds_succ]
        go_wp2_with (go_at_call 31; refine (c_wrap _ _ _ h HB.out).mono ?_; rintro e w' ⟨rfl, rfl⟩)
        rw [rounds_succ]
        go_wp2_with fail
        go_ret; exact ⟨rfl, rfl⟩
      | false =>
        have e : e2 k a a2 = 1 := by simp [e2, h, hi, hj]
        have hy : (wr k a2 != a2) = true := by simpa [iz] using hj
        rw [e]; clear e
        go_enter Try.func32, Try.ntmps32
        go_wp2_with (go_at_call 29; refine (c_isKind _ _).mono ?_; rintro e w' ⟨rfl, rfl⟩)
        refine wp_loop_rounds 5 ?_
        rw [rounds_succ]
        go_wp2_with (go_at_call 31; refine (c_wrap _ _ _ h HA.out).mono ?_; rintro e w' ⟨rfl, rfl⟩)
        rw [rounds_succ]
        go_wp2_with (go_at_call 31; refine (c_wrap _ _ _ h HB.out).mono ?_; rintro e w' ⟨rfl, rfl⟩)
        go_ret; exact ⟨rfl, rfl⟩
    | false =>
      have e : e2 k a a2 = 1 := by simp [e2, h, hi]
      have hz : (wr k a != a) = true := by simpa [iz] using hi
      rw [e]; clear e
      go_enter Try.func32, Try.ntmps32
      go_wp2_with (go_at_call 29; refine (c_isKind _ _).mono ?_; rintro e w' ⟨rfl, rfl⟩)
      refine wp_loop_rounds 5 ?_
      rw [rounds_succ]
      go_wp2_with (go_at_call 31; refine (c_wrap _ _ _ h HA.out).mono ?_; rintro e w' ⟨rfl, rfl⟩)
      go_ret; exact ⟨rfl, rfl⟩
/-- The reference's Bad at one word. -/
theorem c_Bad1 (k a : Int) (b : Nat) (w : World) (ha : 0 ≤ a ∧ a < 18446744073709551616) (hc : w.cell? ⟨b, 0, none⟩ = some (.int .u64 a)) :
    Calls Try.prog 37 #[.int .i64 k, .slice (some ⟨b, 0, none⟩) 1 1] w fun e w' => e = .returned (.int .i64 (e1 k a)) ∧ w = w' := by
  have HA := Lib.hid ha
  clear ha
  cases h : wh k with
  | false =>
    have e : e1 k a = 2 := by simp [e1, h]
    rw [e]; clear e
    go_enter Try.func37, Try.ntmps37
    go_wp2_with (go_at_call 17; refine (c_Whole _ _).mono ?_; rintro e w' ⟨rfl, rfl⟩)
    go_ret; exact ⟨rfl, rfl⟩
  | true =>
    cases hi : iz k a with
    | true =>
      have e : e1 k a = 0 := by simp [e1, h, hi]
      have hz : (wr k a != a) = false := by simpa [iz] using hi
      rw [e]; clear e
      go_enter Try.func37, Try.ntmps37
      go_wp2_with (go_at_call 17; refine (c_Whole _ _).mono ?_; rintro e w' ⟨rfl, rfl⟩)
      refine wp_loop_rounds 5 ?_
      rw [rounds_succ]
      go_wp2_with (go_at_call 16; refine (c_rIs _ _ _ HA.out).mono ?_; rintro e w' ⟨rfl, rfl⟩)
      rw [rounds_succ]
      go_wp2_with fail
      go_ret; exact ⟨rfl, rfl⟩
    | false =>
      have e : e1 k a = 1 := by simp [e1, h, hi]
      have hz : (wr k a != a) = true := by simpa [iz] using hi
      rw [e]; clear e
      go_enter Try.func37, Try.ntmps37
      go_wp2_with (go_at_call 17; refine (c_Whole _ _).mono ?_; rintro e w' ⟨rfl, rfl⟩)
      refine wp_loop_rounds 5 ?_
      rw [rounds_succ]
      go_wp2_with (go_at_call 16; refine (c_rIs _ _ _ HA.out).mono ?_; rintro e w' ⟨rfl, rfl⟩)
      go_ret; exact ⟨rfl, rfl⟩
/-- The reference's Bad at two. -/
theorem c_Bad2 (k a a2 : Int) (b : Nat) (w : World) (ha : 0 ≤ a ∧ a < 18446744073709551616) (hb : 0 ≤ a2 ∧ a2 < 18446744073709551616) (hc : w.cell? ⟨b, 0, none⟩ = some (.int .u64 a)) (hd : w.cell? ⟨b, 1, none⟩ = some (.int .u64 a2)) :
    Calls Try.prog 37 #[.int .i64 k, .slice (some ⟨b, 0, none⟩) 2 2] w fun e w' => e = .returned (.int .i64 (e2 k a a2)) ∧ w = w' := by
  have HA := Lib.hid ha
  have HB := Lib.hid hb
  clear ha hb
  cases h : wh k with
  | false =>
    have e : e2 k a a2 = 2 := by simp [e2, h]
    rw [e]; clear e
    go_enter Try.func37, Try.ntmps37
    go_wp2_with (go_at_call 17; refine (c_Whole _ _).mono ?_; rintro e w' ⟨rfl, rfl⟩)
    go_ret; exact ⟨rfl, rfl⟩
  | true =>
    cases hi : iz k a with
    | true =>
      have hz : (wr k a != a) = false := by simpa [iz] using hi
      cases hj : iz k a2 with
      | true =>
        have e : e2 k a a2 = 0 := by simp [e2, h, hi, hj]
        have hy : (wr k a2 != a2) = false := by simpa [iz] using hj
        rw [e]; clear e
        go_enter Try.func37, Try.ntmps37
        go_wp2_with (go_at_call 17; refine (c_Whole _ _).mono ?_; rintro e w' ⟨rfl, rfl⟩)
        refine wp_loop_rounds 5 ?_
        rw [rounds_succ]
        go_wp2_with (go_at_call 16; refine (c_rIs _ _ _ HA.out).mono ?_; rintro e w' ⟨rfl, rfl⟩)
        rw [rounds_succ]
        go_wp2_with (go_at_call 16; refine (c_rIs _ _ _ HB.out).mono ?_; rintro e w' ⟨rfl, rfl⟩)
        rw [rounds_succ]
        go_wp2_with fail
        go_ret; exact ⟨rfl, rfl⟩
      | false =>
        have e : e2 k a a2 = 1 := by simp [e2, h, hi, hj]
        have hy : (wr k a2 != a2) = true := by simpa [iz] using hj
        rw [e]; clear e
        go_enter Try.func37, Try.ntmps37
        go_wp2_with (go_at_call 17; refine (c_Whole _ _).mono ?_; rintro e w' ⟨rfl, rfl⟩)
        refine wp_loop_rounds 5 ?_
        rw [rounds_succ]
        go_wp2_with (go_at_call 16; refine (c_rIs _ _ _ HA.out).mono ?_; rintro e w' ⟨rfl, rfl⟩)
        rw [rounds_succ]
        go_wp2_with (go_at_call 16; refine (c_rIs _ _ _ HB.out).mono ?_; rintro e w' ⟨rfl, rfl⟩)
        go_ret; exact ⟨rfl, rfl⟩
    | false =>
      have e : e2 k a a2 = 1 := by simp [e2, h, hi]
      have hz : (wr k a != a) = true := by simpa [iz] using hi
      rw [e]; clear e
      go_enter Try.func37, Try.ntmps37
      go_wp2_with (go_at_call 17; refine (c_Whole _ _).mono ?_; rintro e w' ⟨rfl, rfl⟩)
      refine wp_loop_rounds 5 ?_
      rw [rounds_succ]
      go_wp2_with (go_at_call 16; refine (c_rIs _ _ _ HA.out).mono ?_; rintro e w' ⟨rfl, rfl⟩)
      go_ret; exact ⟨rfl, rfl⟩
end Go.Proofs.Ytlpcnkjnjkijbaa
