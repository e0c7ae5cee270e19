/- What check and Is of package word and Wrap, Is, Sign and bitwise of the reference answer, in the translation of stage 7. Condition: a word is between 0 and 2 to the 64. -/
import Derived.Test.YtihchlkoohficaaK1
import Derived.Test.YtihchlkoohficaaPlain2
namespace Go.Proofs.Ytihchlkoohficaa
open Go.RowKit Plain
set_option linter.unusedVariables false


theorem c_rWrap (k n : Int) (w : World) (h : wh k = true) (hn : 0 ≤ n ∧ n < 18446744073709551616) :
    Calls Try.prog 39 #[.int .i64 k, .int .u64 n] w fun e w' => e = .returned (.int .u64 (wr k n)) ∧ w = w' := by
  have H := Lib.hid hn
  obtain ⟨hn0, hn1⟩ := hn
  clear hn1
  go_enter Try.func39, Try.ntmps39
  go_wp2_with fail
  go_loop [5, 6, 7] (fun o b i => ∃ j : Nat, j ≤ 64 ∧ i = .int .i64 j ∧ o = .int .u64 (lo k n j) ∧ b = .int .u64 (bi k n j)) (fun _ _ i => 64 - (intOf i).toNat)
  case atStart => exact ⟨0, by omega, rfl, by rw [lo_0 k n], by rw [bi_0 k n]⟩
  case round =>
    obtain ⟨j, hj, rfl, rfl, rfl⟩ := hrel
    by_cases hlt : j < 64
    · by_cases hb : (j : Int) < bt k
      · go_wp2_with (go_at_call 50; refine (c_rBits _ _).mono ?_; rintro e w' ⟨rfl, rfl⟩)
        have hr := round_low (k := k) (n := n) hn0 hlt (by rw [bn_cast] at hb; omega)
        go_round
        case rel => exact ⟨j + 1, by omega, by go_num, by rw [hr.2], by rw [hr.1]⟩
        case measure => simp [intOf]; omega
      · have hb' : bn k ≤ j := by rw [bn_cast] at hb; omega
        cases hs : sg k with
        | true =>
          go_wp2_with (first | (go_at_call 50; refine (c_rBits _ _).mono ?_; rintro e w' ⟨rfl, rfl⟩) | (go_at_call 51; refine (c_rSigned _ _).mono ?_; rintro e w' ⟨rfl, rfl⟩))
          have hr := round_high (k := k) (n := n) h hlt hb' hs
          go_round
          case rel => exact ⟨j + 1, by omega, by go_num, by rw [hr.2], by rw [hr.1]⟩
          case measure => simp [intOf]; omega
        | false =>
          have hl := lo_range (n := n) h hj
          go_wp2_with (first | (go_at_call 50; refine (c_rBits _ _).mono ?_; rintro e w' ⟨rfl, rfl⟩) | (go_at_call 51; refine (c_rSigned _ _).mono ?_; rintro e w' ⟨rfl, rfl⟩))
          have hr := round_none (k := k) (n := n) h hlt hb' hs
          go_round
          case rel => exact ⟨j + 1, by omega, by go_num, by rw [← hr.2], by rw [hr.1]⟩
          case measure => simp [intOf]; omega
    · obtain rfl : j = 64 := by omega
      have hl := lo_end (n := n) h
      go_wp2_with fail
      go_ret
      exact ⟨rfl, rfl⟩

/-- The reference's Is. -/
theorem c_rIs (k n : Int) (w : World) (hn : 0 ≤ n ∧ n < 18446744073709551616) :
    Calls Try.prog 17 #[.int .i64 k, .int .u64 n] w fun e w' => e = .returned (.bool (wh k && iz k n)) ∧ w = w' := by
  have H := Lib.hid hn
  clear hn
  cases h : wh k with
  | false =>
    go_enter Try.func17, Try.ntmps17
    go_wp2_with (first | (go_at_call 38; refine (c_Whole _ _).mono ?_; rintro e w' ⟨rfl, rfl⟩))
    go_ret; exact ⟨rfl, rfl⟩
  | true =>
    go_enter Try.func17, Try.ntmps17
    go_wp2_with (first | (go_at_call 38; refine (c_Whole _ _).mono ?_; rintro e w' ⟨rfl, rfl⟩) | (go_at_call 39; refine (c_rWrap _ _ _ h H.out).mono ?_; rintro e w' ⟨rfl, rfl⟩))
    go_ret; exact ⟨rfl, rfl⟩

/-- check at one word. -/
theorem c_check1 (k a : Int) (b : Nat) (w : World) (ha : 0 ≤ a ∧ a < 18446744073709551616) (hc : w.cell? ⟨b, 0, none⟩ = some (.int .u64 a)) :
    Calls Try.prog 49 #[.int .i64 k, .slice (some ⟨b, 0, none⟩) 1 1] w fun e w' => e = .returned (.int .i64 (e1 k a)) ∧ w = w' := by
  have HA := Lib.hid ha
  clear ha
  cases h : wh k with
  | false =>
    have e : e1 k a = 2 := by simp [e1, h]
    rw [e]; clear e
    go_enter Try.func49, Try.ntmps49
    go_wp2_with (go_at_call 47; refine (c_isKind _ _).mono ?_; rintro e w' ⟨rfl, rfl⟩)
    go_ret; exact ⟨rfl, rfl⟩
  | true =>
    cases hi : iz k a with
    | true =>
      have e : e1 k a = 0 := by simp [e1, h, hi]
      have hz : (wr k a != a) = false := by simpa [iz] using hi
      rw [e]; clear e
      go_enter Try.func49, Try.ntmps49
      go_wp2_with (go_at_call 47; refine (c_isKind _ _).mono ?_; rintro e w' ⟨rfl, rfl⟩)
      refine wp_loop_rounds 5 ?_
      rw [rounds_succ]
      go_wp2_with (go_at_call 52; refine (c_wrap _ _ _ h HA.out).mono ?_; rintro e w' ⟨rfl, rfl⟩)
      rw [rounds_succ]
      go_wp2_with fail
      go_ret; exact ⟨rfl, rfl⟩
    | false =>
      have e : e1 k a = 1 := by simp [e1, h, hi]
      have hz : (wr k a != a) = true := by simpa [iz] using hi
      rw [e]; clear e
      go_enter Try.func49, Try.ntmps49
      go_wp2_with (go_at_call 47; refine (c_isKind _ _).mono ?_; rintro e w' ⟨rfl, rfl⟩)
      refine wp_loop_rounds 5 ?_
      rw [rounds_succ]
      go_wp2_with (go_at_call 52; refine (c_wrap _ _ _ h HA.out).mono ?_; rintro e w' ⟨rfl, rfl⟩)
      go_ret; exact ⟨rfl, rfl⟩

theorem c_Is (k a : Int) (w : World) (ha : 0 ≤ a ∧ a < 18446744073709551616) :
    Calls Try.prog 36 #[.int .i64 k, .int .u64 a] w fun e w' => e = .returned (.bool (wh k && iz k a)) ∧ Kp w w' := by
  have HA := Lib.hid ha
  clear ha
  have he : (wh k && iz k a) = (e1 k a == 0) := by unfold e1; cases wh k <;> cases iz k a <;> simp
  rw [he]; clear he
  go_enter Try.func36, Try.ntmps36
  go_wp2_with (go_at_call 49; with_reducible refine (c_check1 _ _ _ _ HA.out ?_).mono ?_; (focus (simp [go_sem]));rintro e w' ⟨rfl, rfl⟩)
  go_ret
  exact ⟨rfl, (Kp.refl w).alloc _ _⟩
/-- The nine operators. -/
def isop (op : ByteArray) : Bool := op.toList == [43] || op.toList == [45] || op.toList == [42] || op.toList == [47] || op.toList == [37] || op.toList == [38] || op.toList == [124] || op.toList == [94] || op.toList == [38, 94]
theorem c_rSign (op : ByteArray) (w : World) : Calls Try.prog 25 #[.string op] w fun e w' => e = .returned (.bool (isop op)) ∧ w = w' := by
  cases x0 : (op.toList == [43]) with
  | true =>
    have e : isop op = true := by unfold isop; rw [x0]; rfl
    rw [e]; clear e
    go_enter Try.func25, Try.ntmps25
    go_wp2; go_ret; exact ⟨rfl, rfl⟩
  | false =>
    cases x1 : (op.toList == [45]) with
    | true =>
      have e : isop op = true := by unfold isop; rw [x0, x1]; rfl
      rw [e]; clear e
      go_enter Try.func25, Try.ntmps25
      go_wp2; go_ret; exact ⟨rfl, rfl⟩
    | false =>
      cases x2 : (op.toList == [42]) with
      | true =>
        have e : isop op = true := by unfold isop; rw [x0, x1, x2]; rfl
        rw [e]; clear e
        go_enter Try.func25, Try.ntmps25
        go_wp2; go_ret; exact ⟨rfl, rfl⟩
      | false =>
        cases x3 : (op.toList == [47]) with
        | true =>
          have e : isop op = true := by unfold isop; rw [x0, x1, x2, x3]; rfl
          rw [e]; clear e
          go_enter Try.func25, Try.ntmps25
          go_wp2; go_ret; exact ⟨rfl, rfl⟩
        | false =>
          cases x4 : (op.toList == [37]) with
          | true =>
            have e : isop op = true := by unfold isop; rw [x0, x1, x2, x3, x4]; rfl
            rw [e]; clear e
            go_enter Try.func25, Try.ntmps25
            go_wp2; go_ret; exact ⟨rfl, rfl⟩
          | false =>
            cases x5 : (op.toList == [38]) with
            | true =>
              have e : isop op = true := by unfold isop; rw [x0, x1, x2, x3, x4, x5]; rfl
              rw [e]; clear e
              go_enter Try.func25, Try.ntmps25
              go_wp2; go_ret; exact ⟨rfl, rfl⟩
            | false =>
              cases x6 : (op.toList == [124]) with
              | true =>
                have e : isop op = true := by unfold isop; rw [x0, x1, x2, x3, x4, x5, x6]; rfl
                rw [e]; clear e
                go_enter Try.func25, Try.ntmps25
                go_wp2; go_ret; exact ⟨rfl, rfl⟩
              | false =>
                cases x7 : (op.toList == [94]) with
                | true =>
                  have e : isop op = true := by unfold isop; rw [x0, x1, x2, x3, x4, x5, x6, x7]; rfl
                  rw [e]; clear e
                  go_enter Try.func25, Try.ntmps25
                  go_wp2; go_ret; exact ⟨rfl, rfl⟩
                | false =>
                  cases x8 : (op.toList == [38, 94]) with
                  | true =>
                    have e : isop op = true := by unfold isop; rw [x0, x1, x2, x3, x4, x5, x6, x7, x8]; rfl
                    rw [e]; clear e
                    go_enter Try.func25, Try.ntmps25
                    go_wp2; go_ret; exact ⟨rfl, rfl⟩
                  | false =>
                    have e : isop op = false := by unfold isop; rw [x0, x1, x2, x3, x4, x5, x6, x7, x8]; rfl
                    rw [e]; clear e
                    go_enter Try.func25, Try.ntmps25
                    go_wp2; go_ret; exact ⟨rfl, rfl⟩

/-- The reference's bitwise, of and. -/
theorem c_bw_and (a b : Int) (w : World) (ha : 0 ≤ a ∧ a < 18446744073709551616) (hb : 0 ≤ b ∧ b < 18446744073709551616) :
    Calls Try.prog 29 #[.string ⟨#[38]⟩, .int .u64 a, .int .u64 b] w fun e w' => e = .returned (.int .u64 (ban a b)) ∧ w = w' := by
  have HA := Lib.hid ha
  have HB := Lib.hid hb
  clear ha hb
  go_enter Try.func29, Try.ntmps29
  go_wp2_with fail
  go_loop [7, 8] (fun o i => ∃ j : Nat, j ≤ 64 ∧ i = .int .u64 j ∧ o = .int .u64 (low (ban a b) j)) (fun _ i => 64 - (intOf i).toNat)
  case atStart => exact ⟨0, by omega, rfl, by rw [← low_0 (ban a b)]⟩
  case round =>
    obtain ⟨j, hj, rfl, rfl⟩ := hrel
    by_cases hlt : j < 64
    · cases xa : ((a / 2 ^ j).tmod 2 == 1) with
      | true =>
        cases yb : ((b / 2 ^ j).tmod 2 == 1) with
        | true =>
          go_wp2_with fail
          go_round
          case rel => exact ⟨j + 1, by omega, by go_num, by rw [st_on hlt (ban_0 a b) (by rw [tb_and HA.out HB.out, xa, yb]; rfl)]⟩
          case measure => simp [intOf]; omega
        | false =>
          go_wp2_with fail
          go_round
          case rel => exact ⟨j + 1, by omega, by go_num, by rw [st_off (ban_0 a b) (by rw [tb_and HA.out HB.out, xa, yb]; rfl)]⟩
          case measure => simp [intOf]; omega
      | false =>
        cases yb : ((b / 2 ^ j).tmod 2 == 1) with
        | true =>
          go_wp2_with fail
          go_round
          case rel => exact ⟨j + 1, by omega, by go_num, by rw [st_off (ban_0 a b) (by rw [tb_and HA.out HB.out, xa, yb]; rfl)]⟩
          case measure => simp [intOf]; omega
        | false =>
          go_wp2_with fail
          go_round
          case rel => exact ⟨j + 1, by omega, by go_num, by rw [st_off (ban_0 a b) (by rw [tb_and HA.out HB.out, xa, yb]; rfl)]⟩
          case measure => simp [intOf]; omega
    · obtain rfl : j = 64 := by omega
      have hl := low_64 (ban_r (b := b) HA.out)
      go_wp2_with fail
      go_ret
      exact ⟨rfl, rfl⟩
/-- The reference's bitwise, of or. -/
theorem c_bw_or (a b : Int) (w : World) (ha : 0 ≤ a ∧ a < 18446744073709551616) (hb : 0 ≤ b ∧ b < 18446744073709551616) :
    Calls Try.prog 29 #[.string ⟨#[124]⟩, .int .u64 a, .int .u64 b] w fun e w' => e = .returned (.int .u64 (bor a b)) ∧ w = w' := by
  have HA := Lib.hid ha
  have HB := Lib.hid hb
  clear ha hb
  go_enter Try.func29, Try.ntmps29
  go_wp2_with fail
  go_loop [7, 8] (fun o i => ∃ j : Nat, j ≤ 64 ∧ i = .int .u64 j ∧ o = .int .u64 (low (bor a b) j)) (fun _ i => 64 - (intOf i).toNat)
  case atStart => exact ⟨0, by omega, rfl, by rw [← low_0 (bor a b)]⟩
  case round =>
    obtain ⟨j, hj, rfl, rfl⟩ := hrel
    by_cases hlt : j < 64
    · cases xa : ((a / 2 ^ j).tmod 2 == 1) with
      | true =>
        cases yb : ((b / 2 ^ j).tmod 2 == 1) with
        | true =>
          go_wp2_with fail
          go_round
          case rel => exact ⟨j + 1, by omega, by go_num, by rw [st_on hlt (bor_0 a b) (by rw [tb_or HA.out HB.out, xa, yb]; rfl)]⟩
          case measure => simp [intOf]; omega
        | false =>
          go_wp2_with fail
          go_round
          case rel => exact ⟨j + 1, by omega, by go_num, by rw [st_on hlt (bor_0 a b) (by rw [tb_or HA.out HB.out, xa, yb]; rfl)]⟩
          case measure => simp [intOf]; omega
      | false =>
        cases yb : ((b / 2 ^ j).tmod 2 == 1) with
        | true =>
          go_wp2_with fail
          go_round
          case rel => exact ⟨j + 1, by omega, by go_num, by rw [st_on hlt (bor_0 a b) (by rw [tb_or HA.out HB.out, xa, yb]; rfl)]⟩
          case measure => simp [intOf]; omega
        | false =>
          go_wp2_with fail
          go_round
          case rel => exact ⟨j + 1, by omega, by go_num, by rw [st_off (bor_0 a b) (by rw [tb_or HA.out HB.out, xa, yb]; rfl)]⟩
          case measure => simp [intOf]; omega
    · obtain rfl : j = 64 := by omega
      have hl := low_64 (bor_r HA.out HB.out)
      go_wp2_with fail
      go_ret
      exact ⟨rfl, rfl⟩
/-- The reference's bitwise, of xor. -/
theorem c_bw_xor (a b : Int) (w : World) (ha : 0 ≤ a ∧ a < 18446744073709551616) (hb : 0 ≤ b ∧ b < 18446744073709551616) :
    Calls Try.prog 29 #[.string ⟨#[94]⟩, .int .u64 a, .int .u64 b] w fun e w' => e = .returned (.int .u64 (bxo a b)) ∧ w = w' := by
  have HA := Lib.hid ha
  have HB := Lib.hid hb
  clear ha hb
  go_enter Try.func29, Try.ntmps29
  go_wp2_with fail
  go_loop [7, 8] (fun o i => ∃ j : Nat, j ≤ 64 ∧ i = .int .u64 j ∧ o = .int .u64 (low (bxo a b) j)) (fun _ i => 64 - (intOf i).toNat)
  case atStart => exact ⟨0, by omega, rfl, by rw [← low_0 (bxo a b)]⟩
  case round =>
    obtain ⟨j, hj, rfl, rfl⟩ := hrel
    by_cases hlt : j < 64
    · cases xa : ((a / 2 ^ j).tmod 2 == 1) with
      | true =>
        cases yb : ((b / 2 ^ j).tmod 2 == 1) with
        | true =>
          go_wp2_with fail
          go_round
          case rel => exact ⟨j + 1, by omega, by go_num, by rw [st_off (bxo_0 a b) (by rw [tb_xor HA.out HB.out, xa, yb]; rfl)]⟩
          case measure => simp [intOf]; omega
        | false =>
          go_wp2_with fail
          go_round
          case rel => exact ⟨j + 1, by omega, by go_num, by rw [st_on hlt (bxo_0 a b) (by rw [tb_xor HA.out HB.out, xa, yb]; rfl)]⟩
          case measure => simp [intOf]; omega
      | false =>
        cases yb : ((b / 2 ^ j).tmod 2 == 1) with
        | true =>
          go_wp2_with fail
          go_round
          case rel => exact ⟨j + 1, by omega, by go_num, by rw [st_on hlt (bxo_0 a b) (by rw [tb_xor HA.out HB.out, xa, yb]; rfl)]⟩
          case measure => simp [intOf]; omega
        | false =>
          go_wp2_with fail
          go_round
          case rel => exact ⟨j + 1, by omega, by go_num, by rw [st_off (bxo_0 a b) (by rw [tb_xor HA.out HB.out, xa, yb]; rfl)]⟩
          case measure => simp [intOf]; omega
    · obtain rfl : j = 64 := by omega
      have hl := low_64 (bxo_r HA.out HB.out)
      go_wp2_with fail
      go_ret
      exact ⟨rfl, rfl⟩
/-- The reference's bitwise, of not. -/
theorem c_bw_not (a b : Int) (w : World) (ha : 0 ≤ a ∧ a < 18446744073709551616) (hb : 0 ≤ b ∧ b < 18446744073709551616) :
    Calls Try.prog 29 #[.string ⟨#[38, 94]⟩, .int .u64 a, .int .u64 b] w fun e w' => e = .returned (.int .u64 (bnt a b)) ∧ w = w' := by
  have HA := Lib.hid ha
  have HB := Lib.hid hb
  clear ha hb
  go_enter Try.func29, Try.ntmps29
  go_wp2_with fail
  go_loop [7, 8] (fun o i => ∃ j : Nat, j ≤ 64 ∧ i = .int .u64 j ∧ o = .int .u64 (low (bnt a b) j)) (fun _ i => 64 - (intOf i).toNat)
  case atStart => exact ⟨0, by omega, rfl, by rw [← low_0 (bnt a b)]⟩
  case round =>
    obtain ⟨j, hj, rfl, rfl⟩ := hrel
    by_cases hlt : j < 64
    · cases xa : ((a / 2 ^ j).tmod 2 == 1) with
      | true =>
        cases yb : ((b / 2 ^ j).tmod 2 == 1) with
        | true =>
          go_wp2_with fail
          go_round
          case rel => exact ⟨j + 1, by omega, by go_num, by rw [st_off (bnt_0 a b) (by rw [tb_not HA.out HB.out, xa, yb]; rfl)]⟩
          case measure => simp [intOf]; omega
        | false =>
          go_wp2_with fail
          go_round
          case rel => exact ⟨j + 1, by omega, by go_num, by rw [st_on hlt (bnt_0 a b) (by rw [tb_not HA.out HB.out, xa, yb]; rfl)]⟩
          case measure => simp [intOf]; omega
      | false =>
        cases yb : ((b / 2 ^ j).tmod 2 == 1) with
        | true =>
          go_wp2_with fail
          go_round
          case rel => exact ⟨j + 1, by omega, by go_num, by rw [st_off (bnt_0 a b) (by rw [tb_not HA.out HB.out, xa, yb]; rfl)]⟩
          case measure => simp [intOf]; omega
        | false =>
          go_wp2_with fail
          go_round
          case rel => exact ⟨j + 1, by omega, by go_num, by rw [st_off (bnt_0 a b) (by rw [tb_not HA.out HB.out, xa, yb]; rfl)]⟩
          case measure => simp [intOf]; omega
    · obtain rfl : j = 64 := by omega
      have hl := low_64 (bnt_r (b := b) HA.out)
      go_wp2_with fail
      go_ret
      exact ⟨rfl, rfl⟩
end Go.Proofs.Ytihchlkoohficaa
