/- Which texts are operators; and what Arith of word answers for no operator, for wrong words, for division. -/
import Derived.Test.YtlpcnkjnjkijbaaW3
namespace Go.Proofs.Ytlpcnkjnjkijbaa
open Go.RowKit Plain
set_option linter.unusedVariables false
/-- The nine operators. -/
def isop (op : ByteArray) : Bool := op.toList == [43] || op.toList == [45] || op.toList == [42] || op.toList == [47] || op.toList == [37] || op.toList == [38] || op.toList == [124] || op.toList == [94] || op.toList == [38, 94]
theorem c_isArith (op : ByteArray) (w : World) : Calls Try.prog 33 #[.string op] w fun e w' => e = .returned (.bool (isop op)) ∧ w = w' := by
  cases x0 : (op.toList == [43]) with
  | true =>
    have e : isop op = true := by unfold isop; rw [x0]; rfl
    rw [e]; clear e
    go_enter Try.func33, Try.ntmps33
    go_wp2; go_ret; exact ⟨rfl, rfl⟩
  | false =>
    cases x1 : (op.toList == [45]) with
    | true =>
      have e : isop op = true := by unfold isop; rw [x0, x1]; rfl
      rw [e]; clear e
      go_enter Try.func33, Try.ntmps33
      go_wp2; go_ret; exact ⟨rfl, rfl⟩
    | false =>
      cases x2 : (op.toList == [42]) with
      | true =>
        have e : isop op = true := by unfold isop; rw [x0, x1, x2]; rfl
        rw [e]; clear e
        go_enter Try.func33, Try.ntmps33
        go_wp2; go_ret; exact ⟨rfl, rfl⟩
      | false =>
        cases x3 : (op.toList == [47]) with
        | true =>
          have e : isop op = true := by unfold isop; rw [x0, x1, x2, x3]; rfl
          rw [e]; clear e
          go_enter Try.func33, Try.ntmps33
          go_wp2; go_ret; exact ⟨rfl, rfl⟩
        | false =>
          cases x4 : (op.toList == [37]) with
          | true =>
            have e : isop op = true := by unfold isop; rw [x0, x1, x2, x3, x4]; rfl
            rw [e]; clear e
            go_enter Try.func33, Try.ntmps33
            go_wp2; go_ret; exact ⟨rfl, rfl⟩
          | false =>
            cases x5 : (op.toList == [38]) with
            | true =>
              have e : isop op = true := by unfold isop; rw [x0, x1, x2, x3, x4, x5]; rfl
              rw [e]; clear e
              go_enter Try.func33, Try.ntmps33
              go_wp2; go_ret; exact ⟨rfl, rfl⟩
            | false =>
              cases x6 : (op.toList == [124]) with
              | true =>
                have e : isop op = true := by unfold isop; rw [x0, x1, x2, x3, x4, x5, x6]; rfl
                rw [e]; clear e
                go_enter Try.func33, Try.ntmps33
                go_wp2; go_ret; exact ⟨rfl, rfl⟩
              | false =>
                cases x7 : (op.toList == [94]) with
                | true =>
                  have e : isop op = true := by unfold isop; rw [x0, x1, x2, x3, x4, x5, x6, x7]; rfl
                  rw [e]; clear e
                  go_enter Try.func33, Try.ntmps33
                  go_wp2; go_ret; exact ⟨rfl, rfl⟩
                | false =>
                  cases x8 : (op.toList == [38, 94]) with
                  | true =>
                    have e : isop op = true := by unfold isop; rw [x0, x1, x2, x3, x4, x5, x6, x7, x8]; rfl
                    rw [e]; clear e
                    go_enter Try.func33, Try.ntmps33
                    go_wp2; go_ret; exact ⟨rfl, rfl⟩
                  | false =>
                    have e : isop op = false := by unfold isop; rw [x0, x1, x2, x3, x4, x5, x6, x7, x8]; rfl
                    rw [e]; clear e
                    go_enter Try.func33, Try.ntmps33
                    go_wp2; go_ret; exact ⟨rfl, rfl⟩

theorem c_rSign (op : ByteArray) (w : World) : Calls Try.prog 36 #[.string op] w fun e w' => e = .returned (.bool (isop op)) ∧ w = w' := by
  cases x0 : (op.toList == [43]) with
  | true =>
    have e : isop op = true := by unfold isop; rw [x0]; rfl
    rw [e]; clear e
    go_enter Try.func36, Try.ntmps36
    go_wp2; go_ret; exact ⟨rfl, rfl⟩
  | false =>
    cases x1 : (op.toList == [45]) with
    | true =>
      have e : isop op = true := by unfold isop; rw [x0, x1]; rfl
      rw [e]; clear e
      go_enter Try.func36, Try.ntmps36
      go_wp2; go_ret; exact ⟨rfl, rfl⟩
    | false =>
      cases x2 : (op.toList == [42]) with
      | true =>
        have e : isop op = true := by unfold isop; rw [x0, x1, x2]; rfl
        rw [e]; clear e
        go_enter Try.func36, Try.ntmps36
        go_wp2; go_ret; exact ⟨rfl, rfl⟩
      | false =>
        cases x3 : (op.toList == [47]) with
        | true =>
          have e : isop op = true := by unfold isop; rw [x0, x1, x2, x3]; rfl
          rw [e]; clear e
          go_enter Try.func36, Try.ntmps36
          go_wp2; go_ret; exact ⟨rfl, rfl⟩
        | false =>
          cases x4 : (op.toList == [37]) with
          | true =>
            have e : isop op = true := by unfold isop; rw [x0, x1, x2, x3, x4]; rfl
            rw [e]; clear e
            go_enter Try.func36, Try.ntmps36
            go_wp2; go_ret; exact ⟨rfl, rfl⟩
          | false =>
            cases x5 : (op.toList == [38]) with
            | true =>
              have e : isop op = true := by unfold isop; rw [x0, x1, x2, x3, x4, x5]; rfl
              rw [e]; clear e
              go_enter Try.func36, Try.ntmps36
              go_wp2; go_ret; exact ⟨rfl, rfl⟩
            | false =>
              cases x6 : (op.toList == [124]) with
              | true =>
                have e : isop op = true := by unfold isop; rw [x0, x1, x2, x3, x4, x5, x6]; rfl
                rw [e]; clear e
                go_enter Try.func36, Try.ntmps36
                go_wp2; go_ret; exact ⟨rfl, rfl⟩
              | false =>
                cases x7 : (op.toList == [94]) with
                | true =>
                  have e : isop op = true := by unfold isop; rw [x0, x1, x2, x3, x4, x5, x6, x7]; rfl
                  rw [e]; clear e
                  go_enter Try.func36, Try.ntmps36
                  go_wp2; go_ret; exact ⟨rfl, rfl⟩
                | false =>
                  cases x8 : (op.toList == [38, 94]) with
                  | true =>
                    have e : isop op = true := by unfold isop; rw [x0, x1, x2, x3, x4, x5, x6, x7, x8]; rfl
                    rw [e]; clear e
                    go_enter Try.func36, Try.ntmps36
                    go_wp2; go_ret; exact ⟨rfl, rfl⟩
                  | false =>
                    have e : isop op = false := by unfold isop; rw [x0, x1, x2, x3, x4, x5, x6, x7, x8]; rfl
                    rw [e]; clear e
                    go_enter Try.func36, Try.ntmps36
                    go_wp2; go_ret; exact ⟨rfl, rfl⟩

theorem a_noop (k a b : Int) (op : ByteArray) (w : World) (ho : isop op = false) :
    Calls Try.prog 21 #[.int .i64 k, .string op, .int .u64 a, .int .u64 b] w fun e w' => e = .returned (.tuple #[.int .u64 0, .int .i64 2]) ∧ Kp w w' := by
  go_enter Try.func21, Try.ntmps21
  go_wp2_with (go_at_call 33; with_reducible refine (c_isArith _ _).mono ?_; rintro e w' ⟨rfl, rfl⟩)
  go_ret2
  exact ⟨rfl, Kp.refl w⟩
theorem a_bad (k a b : Int) (op : ByteArray) (w : World) (ha : 0 ≤ a ∧ a < 18446744073709551616) (hb : 0 ≤ b ∧ b < 18446744073709551616) (ho : isop op = true) (he : (e2 k a b != 0) = true) :
    Calls Try.prog 21 #[.int .i64 k, .string op, .int .u64 a, .int .u64 b] w fun e w' => e = .returned (.tuple #[.int .u64 0, .int .i64 (e2 k a b)]) ∧ Kp w w' := by
  have HA := Lib.hid ha
  have HB := Lib.hid hb
  clear ha hb
  go_enter Try.func21, Try.ntmps21
  go_wp2_with (first | (go_at_call 33; with_reducible refine (c_isArith _ _).mono ?_; rintro e w' ⟨rfl, rfl⟩) | (go_at_call 32; with_reducible refine (c_check2 _ _ _ _ _ HA.out HB.out ?_ ?_).mono ?_; (focus (simp [go_sem])); (focus (simp [go_sem]));rintro e w' ⟨rfl, rfl⟩))
  go_ret2
  exact ⟨rfl, (Kp.refl w).alloc _ _⟩
theorem a_quo0 (k a : Int) (w : World) (ha : 0 ≤ a ∧ a < 18446744073709551616) (h : wh k = true) (hi : iz k a = true) :
    Calls Try.prog 21 #[.int .i64 k, .string ⟨#[47]⟩, .int .u64 a, .int .u64 0] w fun e w' => e = .returned (.tuple #[.int .u64 0, .int .i64 18]) ∧ Kp w w' := by
  have HA := Lib.hid ha
  have HB : Hid ((0 : Int) ≤ 0 ∧ (0 : Int) < 18446744073709551616) := Lib.hid (by omega)
  have he : e2 k a 0 = 0 := by simp [e2, h, hi, iz_0 h]
  clear ha
  go_enter Try.func21, Try.ntmps21
  go_wp2_with (first | (go_at_call 32; with_reducible refine (c_check2 _ _ _ _ _ HA.out HB.out ?_ ?_).mono ?_; (focus (simp [go_sem])); (focus (simp [go_sem]));rintro e w' ⟨rfl, rfl⟩) | (go_at_call 33; go_in))
  go_ret2
  exact ⟨rfl, (Kp.refl w).alloc _ _⟩
theorem a_quo (k a b : Int) (w : World) (ha : 0 ≤ a ∧ a < 18446744073709551616) (hb : 0 ≤ b ∧ b < 18446744073709551616) (h : wh k = true) (hi : iz k a = true) (hj : iz k b = true) (h0 : b ≠ 0) :
    Calls Try.prog 21 #[.int .i64 k, .string ⟨#[47]⟩, .int .u64 a, .int .u64 b] w fun e w' => e = .returned (.tuple #[.int .u64 (wr k ((sv k a).tdiv (sv k b))), .int .i64 0]) ∧ Kp w w' := by
  have HA := Lib.hid ha
  have HB := Lib.hid hb
  have he : e2 k a b = 0 := by simp [e2, h, hi, hj]
  cases hs : sg k with
  | true =>
    have q1 : wrap64 a = sv k a := w64_sv ha hs
    have q2 : wrap64 b = sv k b := w64_sv hb hs
    have q3 : ¬ sv k b = 0 := by intro x; exact h0 (sv_0 hb x)
    have q4 : ¬ b = 0 := h0
    clear ha hb h0
    go_enter Try.func21, Try.ntmps21
    go_wp2_with (first | (go_at_call 32; with_reducible refine (c_check2 _ _ _ _ _ HA.out HB.out ?_ ?_).mono ?_; (focus (simp [go_sem])); (focus (simp [go_sem]));rintro e w' ⟨rfl, rfl⟩) | (go_at_call 31; with_reducible refine (c_wrap _ _ _ h (u64_r _)).mono ?_; rintro e w' ⟨rfl, rfl⟩) | (go_at_call 30; with_reducible refine (c_hasSign _ _).mono ?_; rintro e w' ⟨rfl, rfl⟩) | (go_at_call 33; go_in) | (go_at_call 35; go_in))
    go_ret2
    exact ⟨by rw [wr_w64 h]; rfl, (Kp.refl w).alloc _ _⟩
  | false =>
    have q1 : sv k a = a := sv_un hs
    have q2 : sv k b = b := sv_un hs
    rw [q1, q2]
    have q4 : ¬ b = 0 := h0
    clear ha hb h0 q1 q2
    go_enter Try.func21, Try.ntmps21
    go_wp2_with (first | (go_at_call 32; with_reducible refine (c_check2 _ _ _ _ _ HA.out HB.out ?_ ?_).mono ?_; (focus (simp [go_sem])); (focus (simp [go_sem]));rintro e w' ⟨rfl, rfl⟩) | (go_at_call 31; with_reducible refine (c_wrap _ _ _ h (u64_r _)).mono ?_; rintro e w' ⟨rfl, rfl⟩) | (go_at_call 30; with_reducible refine (c_hasSign _ _).mono ?_; rintro e w' ⟨rfl, rfl⟩) | (go_at_call 33; go_in) | (go_at_call 35; go_in))
    go_ret2
    exact ⟨by rw [wr_u64 h]; rfl, (Kp.refl w).alloc _ _⟩
theorem a_rem0 (k a : Int) (w : World) (ha : 0 ≤ a ∧ a < 18446744073709551616) (h : wh k = true) (hi : iz k a = true) :
    Calls Try.prog 21 #[.int .i64 k, .string ⟨#[37]⟩, .int .u64 a, .int .u64 0] w fun e w' => e = .returned (.tuple #[.int .u64 0, .int .i64 18]) ∧ Kp w w' := by
  have HA := Lib.hid ha
  have HB : Hid ((0 : Int) ≤ 0 ∧ (0 : Int) < 18446744073709551616) := Lib.hid (by omega)
  have he : e2 k a 0 = 0 := by simp [e2, h, hi, iz_0 h]
  clear ha
  go_enter Try.func21, Try.ntmps21
  go_wp2_with (first | (go_at_call 32; with_reducible refine (c_check2 _ _ _ _ _ HA.out HB.out ?_ ?_).mono ?_; (focus (simp [go_sem])); (focus (simp [go_sem]));rintro e w' ⟨rfl, rfl⟩) | (go_at_call 33; go_in))
  go_ret2
  exact ⟨rfl, (Kp.refl w).alloc _ _⟩
theorem a_rem (k a b : Int) (w : World) (ha : 0 ≤ a ∧ a < 18446744073709551616) (hb : 0 ≤ b ∧ b < 18446744073709551616) (h : wh k = true) (hi : iz k a = true) (hj : iz k b = true) (h0 : b ≠ 0) :
    Calls Try.prog 21 #[.int .i64 k, .string ⟨#[37]⟩, .int .u64 a, .int .u64 b] w fun e w' => e = .returned (.tuple #[.int .u64 (wr k ((sv k a).tmod (sv k b))), .int .i64 0]) ∧ Kp w w' := by
  have HA := Lib.hid ha
  have HB := Lib.hid hb
  have he : e2 k a b = 0 := by simp [e2, h, hi, hj]
  cases hs : sg k with
  | true =>
    have q1 : wrap64 a = sv k a := w64_sv ha hs
    have q2 : wrap64 b = sv k b := w64_sv hb hs
    have q3 : ¬ sv k b = 0 := by intro x; exact h0 (sv_0 hb x)
    have q4 : ¬ b = 0 := h0
    clear ha hb h0
    go_enter Try.func21, Try.ntmps21
    go_wp2_with (first | (go_at_call 32; with_reducible refine (c_check2 _ _ _ _ _ HA.out HB.out ?_ ?_).mono ?_; (focus (simp [go_sem])); (focus (simp [go_sem]));rintro e w' ⟨rfl, rfl⟩) | (go_at_call 31; with_reducible refine (c_wrap _ _ _ h (u64_r _)).mono ?_; rintro e w' ⟨rfl, rfl⟩) | (go_at_call 30; with_reducible refine (c_hasSign _ _).mono ?_; rintro e w' ⟨rfl, rfl⟩) | (go_at_call 33; go_in) | (go_at_call 35; go_in))
    go_ret2
    exact ⟨by rw [wr_u64 h]; rfl, (Kp.refl w).alloc _ _⟩
  | false =>
    have q1 : sv k a = a := sv_un hs
    have q2 : sv k b = b := sv_un hs
    rw [q1, q2]
    have q4 : ¬ b = 0 := h0
    have hr : Hid (0 ≤ a.tmod b ∧ a.tmod b < 18446744073709551616) := Lib.hid (tmod_r ha hb h0)
    clear ha hb h0 q1 q2
    go_enter Try.func21, Try.ntmps21
    go_wp2_with (first | (go_at_call 32; with_reducible refine (c_check2 _ _ _ _ _ HA.out HB.out ?_ ?_).mono ?_; (focus (simp [go_sem])); (focus (simp [go_sem]));rintro e w' ⟨rfl, rfl⟩) | (go_at_call 31; with_reducible refine (c_wrap _ _ _ h hr.out).mono ?_; rintro e w' ⟨rfl, rfl⟩) | (go_at_call 30; with_reducible refine (c_hasSign _ _).mono ?_; rintro e w' ⟨rfl, rfl⟩) | (go_at_call 33; go_in) | (go_at_call 35; go_in))
    go_ret2
    exact ⟨rfl, (Kp.refl w).alloc _ _⟩
end Go.Proofs.Ytlpcnkjnjkijbaa
