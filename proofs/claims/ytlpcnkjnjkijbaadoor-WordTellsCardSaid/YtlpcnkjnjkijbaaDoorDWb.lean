/- What check, Is, Wrap and Less of package word and Wrap, Is, Bad and Of of the reference answer, in the translation of WordTells. Condition: a word is between 0 and 2 to the 64. -/
import Derived.Test.YtlpcnkjnjkijbaaDoorDWa
namespace Go.Proofs.YtlpcnkjnjkijbaaDoor
open Go.RowKit Plain
set_option linter.unusedVariables false


theorem c_rWrap (k n : Int) (w : World) (h : wh k = true) (hn : 0 ≤ n ∧ n < 18446744073709551616) :
    Calls Tryd.prog 24 #[.int .i64 k, .int .u64 n] w fun e w' => e = .returned (.int .u64 (wr k n)) ∧ w = w' := by
  have H := Lib.hid hn
  obtain ⟨hn0, hn1⟩ := hn
  clear hn1
  go_enter Tryd.func24, Tryd.ntmps24
  go_wp2_with fail
  go_loop [5, 6, 7] (fun o b i => ∃ j : Nat, j ≤ 64 ∧ i = .int .i64 j ∧ o = .int .u64 (lo k n j) ∧ b = .int .u64 (bi k n j)) (fun _ _ i => 64 - (intOf i).toNat)
  case atStart => exact ⟨0, by omega, rfl, by rw [lo_0 k n], by rw [bi_0 k n]⟩
  case round =>
    obtain ⟨j, hj, rfl, rfl, rfl⟩ := hrel
    by_cases hlt : j < 64
    · by_cases hb : (j : Int) < bt k
      · go_wp2_with (go_at_call 29; refine (c_rBits _ _).mono ?_; rintro e w' ⟨rfl, rfl⟩)
        have hr := round_low (k := k) (n := n) hn0 hlt (by rw [bn_cast] at hb; omega)
        go_round
        case rel => exact ⟨j + 1, by omega, by go_num, by rw [hr.2], by rw [hr.1]⟩
        case measure => simp [intOf]; omega
      · have hb' : bn k ≤ j := by rw [bn_cast] at hb; omega
        cases hs : sg k with
        | true =>
          go_wp2_with (first | (go_at_call 29; refine (c_rBits _ _).mono ?_; rintro e w' ⟨rfl, rfl⟩) | (go_at_call 19; refine (c_rSigned _ _).mono ?_; rintro e w' ⟨rfl, rfl⟩))
          have hr := round_high (k := k) (n := n) h hlt hb' hs
          go_round
          case rel => exact ⟨j + 1, by omega, by go_num, by rw [hr.2], by rw [hr.1]⟩
          case measure => simp [intOf]; omega
        | false =>
          have hl := lo_range (n := n) h hj
          go_wp2_with (first | (go_at_call 29; refine (c_rBits _ _).mono ?_; rintro e w' ⟨rfl, rfl⟩) | (go_at_call 19; refine (c_rSigned _ _).mono ?_; rintro e w' ⟨rfl, rfl⟩))
          have hr := round_none (k := k) (n := n) h hlt hb' hs
          go_round
          case rel => exact ⟨j + 1, by omega, by go_num, by rw [← hr.2], by rw [hr.1]⟩
          case measure => simp [intOf]; omega
    · obtain rfl : j = 64 := by omega
      have hl := lo_end (n := n) h
      go_wp2_with fail
      go_ret
      exact ⟨rfl, rfl⟩

/-- The reference's Is. -/
theorem c_rIs (k n : Int) (w : World) (hn : 0 ≤ n ∧ n < 18446744073709551616) :
    Calls Tryd.prog 16 #[.int .i64 k, .int .u64 n] w fun e w' => e = .returned (.bool (wh k && iz k n)) ∧ w = w' := by
  have H := Lib.hid hn
  clear hn
  cases h : wh k with
  | false =>
    go_enter Tryd.func16, Tryd.ntmps16
    go_wp2_with (first | (go_at_call 15; refine (c_Whole _ _).mono ?_; rintro e w' ⟨rfl, rfl⟩))
    go_ret; exact ⟨rfl, rfl⟩
  | true =>
    go_enter Tryd.func16, Tryd.ntmps16
    go_wp2_with (first | (go_at_call 15; refine (c_Whole _ _).mono ?_; rintro e w' ⟨rfl, rfl⟩) | (go_at_call 24; refine (c_rWrap _ _ _ h H.out).mono ?_; rintro e w' ⟨rfl, rfl⟩))
    go_ret; exact ⟨rfl, rfl⟩

/-- check at one word. -/
theorem c_check1 (k a : Int) (b : Nat) (w : World) (ha : 0 ≤ a ∧ a < 18446744073709551616) (hc : w.cell? ⟨b, 0, none⟩ = some (.int .u64 a)) :
    Calls Tryd.prog 11 #[.int .i64 k, .slice (some ⟨b, 0, none⟩) 1 1] w fun e w' => e = .returned (.int .i64 (e1 k a)) ∧ w = w' := by
  have HA := Lib.hid ha
  clear ha
  cases h : wh k with
  | false =>
    have e : e1 k a = 2 := by simp [e1, h]
    rw [e]; clear e
    go_enter Tryd.func11, Tryd.ntmps11
    go_wp2_with (go_at_call 20; refine (c_isKind _ _).mono ?_; rintro e w' ⟨rfl, rfl⟩)
    go_ret; exact ⟨rfl, rfl⟩
  | true =>
    cases hi : iz k a with
    | true =>
      have e : e1 k a = 0 := by simp [e1, h, hi]
      have hz : (wr k a != a) = false := by simpa [iz] using hi
      rw [e]; clear e
      go_enter Tryd.func11, Tryd.ntmps11
      go_wp2_with (go_at_call 20; refine (c_isKind _ _).mono ?_; rintro e w' ⟨rfl, rfl⟩)
      refine wp_loop_rounds 5 ?_
      rw [rounds_succ]
      go_wp2_with (go_at_call 21; refine (c_wrap _ _ _ h HA.out).mono ?_; rintro e w' ⟨rfl, rfl⟩)
      rw [rounds_succ]
      go_wp2_with fail
      go_ret; exact ⟨rfl, rfl⟩
    | false =>
      have e : e1 k a = 1 := by simp [e1, h, hi]
      have hz : (wr k a != a) = true := by simpa [iz] using hi
      rw [e]; clear e
      go_enter Tryd.func11, Tryd.ntmps11
      go_wp2_with (go_at_call 20; refine (c_isKind _ _).mono ?_; rintro e w' ⟨rfl, rfl⟩)
      refine wp_loop_rounds 5 ?_
      rw [rounds_succ]
      go_wp2_with (go_at_call 21; refine (c_wrap _ _ _ h HA.out).mono ?_; rintro e w' ⟨rfl, rfl⟩)
      go_ret; exact ⟨rfl, rfl⟩
/-- check at two. -/
theorem c_check2 (k a a2 : Int) (b : Nat) (w : World) (ha : 0 ≤ a ∧ a < 18446744073709551616) (hb : 0 ≤ a2 ∧ a2 < 18446744073709551616) (hc : w.cell? ⟨b, 0, none⟩ = some (.int .u64 a)) (hd : w.cell? ⟨b, 1, none⟩ = some (.int .u64 a2)) :
    Calls Tryd.prog 11 #[.int .i64 k, .slice (some ⟨b, 0, none⟩) 2 2] w fun e w' => e = .returned (.int .i64 (e2 k a a2)) ∧ w = w' := by
  have HA := Lib.hid ha
  have HB := Lib.hid hb
  clear ha hb
  cases h : wh k with
  | false =>
    have e : e2 k a a2 = 2 := by simp [e2, h]
    rw [e]; clear e
    go_enter Tryd.func11, Tryd.ntmps11
    go_wp2_with (go_at_call 20; refine (c_isKind _ _).mono ?_; rintro e w' ⟨rfl, rfl⟩)
    go_ret; exact ⟨rfl, rfl⟩
  | true =>
    cases hi : iz k a with
    | true =>
      have hz : (wr k a != a) = false := by simpa [iz] using hi
      cases hj : iz k a2 with
      | true =>
        have e : e2 k a a2 = 0 := by simp [e2, h, hi, hj]
        have hy : (wr k a2 != a2) = false := by simpa [iz] using hj
        rw [e]; clear e
        go_enter Tryd.func11, Tryd.ntmps11
        go_wp2_with (go_at_call 20; refine (c_isKind _ _).mono ?_; rintro e w' ⟨rfl, rfl⟩)
        refine wp_loop_rounds 5 ?_
        rw [rounds_succ]
        go_wp2_with (go_at_call 21; refine (c_wrap _ _ _ h HA.out).mono ?_; rintro e w' ⟨rfl, rfl⟩)
        rw [rounds_succ]
        go_wp2_with (go_at_call 21; refine (c_wrap _ _ _ h HB.out).mono ?_; rintro e w' ⟨rfl, rfl⟩)
        rw [rounds_succ]
        go_wp2_with fail
        go_ret; exact ⟨rfl, rfl⟩
      | false =>
        have e : e2 k a a2 = 1 := by simp [e2, h, hi, hj]
        have hy : (wr k a2 != a2) = true := by simpa [iz] using hj
        rw [e]; clear e
        go_enter Tryd.func11, Tryd.ntmps11
        go_wp2_with (go_at_call 20; refine (c_isKind _ _).mono ?_; rintro e w' ⟨rfl, rfl⟩)
        refine wp_loop_rounds 5 ?_
        rw [rounds_succ]
        go_wp2_with (go_at_call 21; refine (c_wrap _ _ _ h HA.out).mono ?_; rintro e w' ⟨rfl, rfl⟩)
        rw [rounds_succ]
        go_wp2_with (go_at_call 21; refine (c_wrap _ _ _ h HB.out).mono ?_; rintro e w' ⟨rfl, rfl⟩)
        go_ret; exact ⟨rfl, rfl⟩
    | false =>
      have e : e2 k a a2 = 1 := by simp [e2, h, hi]
      have hz : (wr k a != a) = true := by simpa [iz] using hi
      rw [e]; clear e
      go_enter Tryd.func11, Tryd.ntmps11
      go_wp2_with (go_at_call 20; refine (c_isKind _ _).mono ?_; rintro e w' ⟨rfl, rfl⟩)
      refine wp_loop_rounds 5 ?_
      rw [rounds_succ]
      go_wp2_with (go_at_call 21; refine (c_wrap _ _ _ h HA.out).mono ?_; rintro e w' ⟨rfl, rfl⟩)
      go_ret; exact ⟨rfl, rfl⟩
/-- The reference's Bad at one word. -/
theorem c_Bad1 (k a : Int) (b : Nat) (w : World) (ha : 0 ≤ a ∧ a < 18446744073709551616) (hc : w.cell? ⟨b, 0, none⟩ = some (.int .u64 a)) :
    Calls Tryd.prog 6 #[.int .i64 k, .slice (some ⟨b, 0, none⟩) 1 1] w fun e w' => e = .returned (.int .i64 (e1 k a)) ∧ w = w' := by
  have HA := Lib.hid ha
  clear ha
  cases h : wh k with
  | false =>
    have e : e1 k a = 2 := by simp [e1, h]
    rw [e]; clear e
    go_enter Tryd.func6, Tryd.ntmps6
    go_wp2_with (go_at_call 15; refine (c_Whole _ _).mono ?_; rintro e w' ⟨rfl, rfl⟩)
    go_ret; exact ⟨rfl, rfl⟩
  | true =>
    cases hi : iz k a with
    | true =>
      have e : e1 k a = 0 := by simp [e1, h, hi]
      have hz : (wr k a != a) = false := by simpa [iz] using hi
      rw [e]; clear e
      go_enter Tryd.func6, Tryd.ntmps6
      go_wp2_with (go_at_call 15; refine (c_Whole _ _).mono ?_; rintro e w' ⟨rfl, rfl⟩)
      refine wp_loop_rounds 5 ?_
      rw [rounds_succ]
      go_wp2_with (go_at_call 16; refine (c_rIs _ _ _ HA.out).mono ?_; rintro e w' ⟨rfl, rfl⟩)
      rw [rounds_succ]
      go_wp2_with fail
      go_ret; exact ⟨rfl, rfl⟩
    | false =>
      have e : e1 k a = 1 := by simp [e1, h, hi]
      have hz : (wr k a != a) = true := by simpa [iz] using hi
      rw [e]; clear e
      go_enter Tryd.func6, Tryd.ntmps6
      go_wp2_with (go_at_call 15; refine (c_Whole _ _).mono ?_; rintro e w' ⟨rfl, rfl⟩)
      refine wp_loop_rounds 5 ?_
      rw [rounds_succ]
      go_wp2_with (go_at_call 16; refine (c_rIs _ _ _ HA.out).mono ?_; rintro e w' ⟨rfl, rfl⟩)
      go_ret; exact ⟨rfl, rfl⟩
/-- The reference's Bad at two. -/
theorem c_Bad2 (k a a2 : Int) (b : Nat) (w : World) (ha : 0 ≤ a ∧ a < 18446744073709551616) (hb : 0 ≤ a2 ∧ a2 < 18446744073709551616) (hc : w.cell? ⟨b, 0, none⟩ = some (.int .u64 a)) (hd : w.cell? ⟨b, 1, none⟩ = some (.int .u64 a2)) :
    Calls Tryd.prog 6 #[.int .i64 k, .slice (some ⟨b, 0, none⟩) 2 2] w fun e w' => e = .returned (.int .i64 (e2 k a a2)) ∧ w = w' := by
  have HA := Lib.hid ha
  have HB := Lib.hid hb
  clear ha hb
  cases h : wh k with
  | false =>
    have e : e2 k a a2 = 2 := by simp [e2, h]
    rw [e]; clear e
    go_enter Tryd.func6, Tryd.ntmps6
    go_wp2_with (go_at_call 15; refine (c_Whole _ _).mono ?_; rintro e w' ⟨rfl, rfl⟩)
    go_ret; exact ⟨rfl, rfl⟩
  | true =>
    cases hi : iz k a with
    | true =>
      have hz : (wr k a != a) = false := by simpa [iz] using hi
      cases hj : iz k a2 with
      | true =>
        have e : e2 k a a2 = 0 := by simp [e2, h, hi, hj]
        have hy : (wr k a2 != a2) = false := by simpa [iz] using hj
        rw [e]; clear e
        go_enter Tryd.func6, Tryd.ntmps6
        go_wp2_with (go_at_call 15; refine (c_Whole _ _).mono ?_; rintro e w' ⟨rfl, rfl⟩)
        refine wp_loop_rounds 5 ?_
        rw [rounds_succ]
        go_wp2_with (go_at_call 16; refine (c_rIs _ _ _ HA.out).mono ?_; rintro e w' ⟨rfl, rfl⟩)
        rw [rounds_succ]
        go_wp2_with (go_at_call 16; refine (c_rIs _ _ _ HB.out).mono ?_; rintro e w' ⟨rfl, rfl⟩)
        rw [rounds_succ]
        go_wp2_with fail
        go_ret; exact ⟨rfl, rfl⟩
      | false =>
        have e : e2 k a a2 = 1 := by simp [e2, h, hi, hj]
        have hy : (wr k a2 != a2) = true := by simpa [iz] using hj
        rw [e]; clear e
        go_enter Tryd.func6, Tryd.ntmps6
        go_wp2_with (go_at_call 15; refine (c_Whole _ _).mono ?_; rintro e w' ⟨rfl, rfl⟩)
        refine wp_loop_rounds 5 ?_
        rw [rounds_succ]
        go_wp2_with (go_at_call 16; refine (c_rIs _ _ _ HA.out).mono ?_; rintro e w' ⟨rfl, rfl⟩)
        rw [rounds_succ]
        go_wp2_with (go_at_call 16; refine (c_rIs _ _ _ HB.out).mono ?_; rintro e w' ⟨rfl, rfl⟩)
        go_ret; exact ⟨rfl, rfl⟩
    | false =>
      have e : e2 k a a2 = 1 := by simp [e2, h, hi]
      have hz : (wr k a != a) = true := by simpa [iz] using hi
      rw [e]; clear e
      go_enter Tryd.func6, Tryd.ntmps6
      go_wp2_with (go_at_call 15; refine (c_Whole _ _).mono ?_; rintro e w' ⟨rfl, rfl⟩)
      refine wp_loop_rounds 5 ?_
      rw [rounds_succ]
      go_wp2_with (go_at_call 16; refine (c_rIs _ _ _ HA.out).mono ?_; rintro e w' ⟨rfl, rfl⟩)
      go_ret; exact ⟨rfl, rfl⟩

theorem c_Is (k a : Int) (w : World) (ha : 0 ≤ a ∧ a < 18446744073709551616) :
    Calls Tryd.prog 18 #[.int .i64 k, .int .u64 a] w fun e w' => e = .returned (.bool (wh k && iz k a)) ∧ Kp w w' := by
  have HA := Lib.hid ha
  clear ha
  have he : (wh k && iz k a) = (e1 k a == 0) := by unfold e1; cases wh k <;> cases iz k a <;> simp
  rw [he]; clear he
  go_enter Tryd.func18, Tryd.ntmps18
  go_wp2_with (go_at_call 11; with_reducible refine (c_check1 _ _ _ _ HA.out ?_).mono ?_; (focus (simp [go_sem]));rintro e w' ⟨rfl, rfl⟩)
  go_ret
  exact ⟨rfl, (Kp.refl w).alloc _ _⟩
theorem c_Wrap (k a : Int) (w : World) (ha : 0 ≤ a ∧ a < 18446744073709551616) (h : wh k = true) :
    Calls Tryd.prog 17 #[.int .i64 k, .int .u64 a] w fun e w' => e = .returned (.tuple #[.int .u64 (wr k a), .int .i64 0]) ∧ w = w' := by
  have HA := Lib.hid ha
  clear ha
  go_enter Tryd.func17, Tryd.ntmps17
  go_wp2_with (first | (go_at_call 20; with_reducible refine (c_isKind _ _).mono ?_; rintro e w' ⟨rfl, rfl⟩) | (go_at_call 21; with_reducible refine (c_wrap _ _ _ h HA.out).mono ?_; rintro e w' ⟨rfl, rfl⟩))
  go_ret2
  exact ⟨rfl, rfl⟩
theorem c_answers (w : World) :
    Calls Tryd.prog 7 #[] w fun e w' => e = .returned (.bool true) ∧ Kp w w' := by
  have f1 : (wr 2 255 == 18446744073709551615) = true := by decide
  have f2 : (wh 3 && iz 3 255) = true := by decide
  go_enter Tryd.func7, Tryd.ntmps7
  go_wp2_with (first | (go_at_call 17; with_reducible refine (c_Wrap _ _ _ (by omega) (by decide)).mono ?_; rintro e w' ⟨rfl, rfl⟩) | (go_at_call 18; with_reducible refine (c_Is _ _ _ (by omega)).mono ?_; rintro e w' ⟨rfl, hk⟩))
  go_ret
  exact ⟨rfl, hk⟩
/-- Less, of numbers of its kind. -/
theorem c_Less (k a n : Int) (w : World) (ha : 0 ≤ a ∧ a < 18446744073709551616) (hn : 0 ≤ n ∧ n < 18446744073709551616) (h : wh k = true) (hi : iz k a = true) (hj : iz k n = true) :
    Calls Tryd.prog 4 #[.int .i64 k, .int .u64 a, .int .u64 n] w fun e w' => e = .returned (.tuple #[.bool (decide (sv k a < sv k n)), .int .i64 0]) ∧ Kp w w' := by
  have HA := Lib.hid ha
  have HN := Lib.hid hn
  have he : e2 k a n = 0 := by simp [e2, h, hi, hj]
  cases hs : sg k with
  | true =>
    have q1 : wrap64 a = sv k a := w64_sv ha hs
    have q2 : wrap64 n = sv k n := w64_sv hn hs
    clear ha hn
    go_enter Tryd.func4, Tryd.ntmps4
    go_wp2_with (first | (go_at_call 11; with_reducible refine (c_check2 _ _ _ _ _ HA.out HN.out ?_ ?_).mono ?_; (focus (simp [go_sem])); (focus (simp [go_sem]));rintro e w' ⟨rfl, rfl⟩) | (go_at_call 12; with_reducible refine (c_hasSign _ _).mono ?_; rintro e w' ⟨rfl, rfl⟩))
    go_ret2
    exact ⟨rfl, (Kp.refl w).alloc _ _⟩
  | false =>
    rw [sv_un hs, sv_un hs]
    clear ha hn
    go_enter Tryd.func4, Tryd.ntmps4
    go_wp2_with (first | (go_at_call 11; with_reducible refine (c_check2 _ _ _ _ _ HA.out HN.out ?_ ?_).mono ?_; (focus (simp [go_sem])); (focus (simp [go_sem]));rintro e w' ⟨rfl, rfl⟩) | (go_at_call 12; with_reducible refine (c_hasSign _ _).mono ?_; rintro e w' ⟨rfl, rfl⟩))
    go_ret2
    exact ⟨rfl, (Kp.refl w).alloc _ _⟩
theorem c_Of (k n : Int) (w : World) (hn : 0 ≤ n ∧ n < 18446744073709551616) :
    Calls Tryd.prog 9 #[.int .i64 k, .int .u64 n] w fun e w' => e = .returned (.agg #[.bool (ng k n), .int .u64 (sz k n)]) ∧ Kp w w' := by
  cases hs : sg k with
  | true =>
    by_cases hb : 9223372036854775808 ≤ n
    · have e1 : ng k n = true := by simp [ng, hs, hb]
      have e2 : sz k n = IntKind.u64.wrap (-n) := by simp [sz, e1, IntKind.wrap_u64]; omega
      rw [e1, e2]; clear e1 e2 hn
      go_enter Tryd.func9, Tryd.ntmps9
      go_wp2_with (go_at_call 19; with_reducible refine (c_rSigned _ _).mono ?_; rintro e w' ⟨rfl, rfl⟩)
      go_returns
      exact ⟨rfl, (Kp.refl w).alloc _ _⟩
    · have e1 : ng k n = false := by simp [ng, hs]; omega
      have e2 : sz k n = n := by simp [sz, e1]
      rw [e1, e2]; clear e1 e2 hn
      go_enter Tryd.func9, Tryd.ntmps9
      go_wp2_with (go_at_call 19; with_reducible refine (c_rSigned _ _).mono ?_; rintro e w' ⟨rfl, rfl⟩)
      go_returns
      exact ⟨rfl, (Kp.refl w).alloc _ _⟩
  | false =>
    have e1 : ng k n = false := by simp [ng, hs]
    have e2 : sz k n = n := by simp [sz, e1]
    rw [e1, e2]; clear e1 e2 hn
    go_enter Tryd.func9, Tryd.ntmps9
    go_wp2_with (go_at_call 19; with_reducible refine (c_rSigned _ _).mono ?_; rintro e w' ⟨rfl, rfl⟩)
    go_returns
    exact ⟨rfl, (Kp.refl w).alloc _ _⟩
theorem kback {a b c : World} (k : Kp b c) (h : Kp a b) : Kp a c := h.trans k
theorem keepc {w w' : World} (hk : Kp w w') {b o : Nat} {v : Value} (hc : w.cell? ⟨b, o, none⟩ = some v) : w'.cell? ⟨b, o, none⟩ = some v := by
  have hb : b < w.heap.size := by
    apply Classical.byContradiction
    intro hn
    have : w.heap[b]? = none := by simp; omega
    simp [World.cell?, this] at hc
  rw [hk.cell hb, hc]
theorem keeps {w w' : World} {o : Obj} (hk : Kp (w.alloc o) w') : w.heap.size < w'.heap.size := by
  have := hk.below.size
  simp at this; omega
end Go.Proofs.YtlpcnkjnjkijbaaDoor
