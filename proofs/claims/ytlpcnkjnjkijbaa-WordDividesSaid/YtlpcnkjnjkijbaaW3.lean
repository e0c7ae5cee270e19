/- What the exported functions of package word answer, by plain functions. -/
import Derived.Test.YtlpcnkjnjkijbaaW2
namespace Go.Proofs.Ytlpcnkjnjkijbaa
open Go.RowKit Plain
set_option linter.unusedVariables false

theorem c_Is (k a : Int) (w : World) (ha : 0 ≤ a ∧ a < 18446744073709551616) :
    Calls Try.prog 15 #[.int .i64 k, .int .u64 a] w fun e w' => e = .returned (.bool (wh k && iz k a)) ∧ Kp w w' := by
  have HA := Lib.hid ha
  clear ha
  have he : (wh k && iz k a) = (e1 k a == 0) := by unfold e1; cases wh k <;> cases iz k a <;> simp
  rw [he]; clear he
  go_enter Try.func15, Try.ntmps15
  go_wp2_with (go_at_call 32; with_reducible refine (c_check1 _ _ _ _ HA.out ?_).mono ?_; (focus (simp [go_sem]));rintro e w' ⟨rfl, rfl⟩)
  go_ret
  exact ⟨rfl, (Kp.refl w).alloc _ _⟩
theorem c_Wrap (k a : Int) (w : World) (ha : 0 ≤ a ∧ a < 18446744073709551616) (h : wh k = true) :
    Calls Try.prog 13 #[.int .i64 k, .int .u64 a] w fun e w' => e = .returned (.tuple #[.int .u64 (wr k a), .int .i64 0]) ∧ w = w' := by
  have HA := Lib.hid ha
  clear ha
  go_enter Try.func13, Try.ntmps13
  go_wp2_with (first | (go_at_call 29; with_reducible refine (c_isKind _ _).mono ?_; rintro e w' ⟨rfl, rfl⟩) | (go_at_call 31; with_reducible refine (c_wrap _ _ _ h HA.out).mono ?_; rintro e w' ⟨rfl, rfl⟩))
  go_ret2
  exact ⟨rfl, rfl⟩
theorem c_Wrap_no (k a : Int) (w : World) (h : wh k = false) :
    Calls Try.prog 13 #[.int .i64 k, .int .u64 a] w fun e w' => e = .returned (.tuple #[.int .u64 0, .int .i64 2]) ∧ w = w' := by
  go_enter Try.func13, Try.ntmps13
  go_wp2_with (first | (go_at_call 29; with_reducible refine (c_isKind _ _).mono ?_; rintro e w' ⟨rfl, rfl⟩))
  go_ret2
  exact ⟨rfl, rfl⟩
theorem c_answers (w : World) :
    Calls Try.prog 14 #[] w fun e w' => e = .returned (.bool true) ∧ Kp w w' := by
  have f1 : (wr 2 255 == 18446744073709551615) = true := by decide
  have f2 : (wh 3 && iz 3 255) = true := by decide
  go_enter Try.func14, Try.ntmps14
  go_wp2_with (first | (go_at_call 13; with_reducible refine (c_Wrap _ _ _ (by omega) (by decide)).mono ?_; rintro e w' ⟨rfl, rfl⟩) | (go_at_call 15; with_reducible refine (c_Is _ _ _ (by omega)).mono ?_; rintro e w' ⟨rfl, hk⟩))
  go_ret
  exact ⟨rfl, hk⟩
theorem c_Convert (f t a : Int) (w : World) (ha : 0 ≤ a ∧ a < 18446744073709551616) (ht : wh t = true) (h : wh f = true) (hi : iz f a = true) :
    Calls Try.prog 25 #[.int .i64 f, .int .i64 t, .int .u64 a] w fun e w' => e = .returned (.tuple #[.int .u64 (wr t a), .int .i64 0]) ∧ Kp w w' := by
  have HA := Lib.hid ha
  clear ha
  have he : e1 f a = 0 := by simp [e1, h, hi]
  clear h
  have h := ht
  go_enter Try.func25, Try.ntmps25
  go_wp2_with (first | (go_at_call 29; with_reducible refine (c_isKind _ _).mono ?_; rintro e w' ⟨rfl, rfl⟩) | (go_at_call 32; with_reducible refine (c_check1 _ _ _ _ HA.out ?_).mono ?_; (focus (simp [go_sem]));rintro e w' ⟨rfl, rfl⟩) | (go_at_call 31; with_reducible refine (c_wrap _ _ _ h HA.out).mono ?_; rintro e w' ⟨rfl, rfl⟩))
  go_ret2
  exact ⟨rfl, (Kp.refl w).alloc _ _⟩
theorem c_Convert_kind (f t a : Int) (w : World) (h : wh t = false) :
    Calls Try.prog 25 #[.int .i64 f, .int .i64 t, .int .u64 a] w fun e w' => e = .returned (.tuple #[.int .u64 0, .int .i64 2]) ∧ Kp w w' := by
  go_enter Try.func25, Try.ntmps25
  go_wp2_with (first | (go_at_call 29; with_reducible refine (c_isKind _ _).mono ?_; rintro e w' ⟨rfl, rfl⟩))
  go_ret2
  exact ⟨rfl, Kp.refl w⟩
theorem c_Convert_bad (f t a : Int) (w : World) (ha : 0 ≤ a ∧ a < 18446744073709551616) (ht : wh t = true) (hb : (e1 f a != 0) = true) :
    Calls Try.prog 25 #[.int .i64 f, .int .i64 t, .int .u64 a] w fun e w' => e = .returned (.tuple #[.int .u64 0, .int .i64 (e1 f a)]) ∧ Kp w w' := by
  have HA := Lib.hid ha
  clear ha
  go_enter Try.func25, Try.ntmps25
  go_wp2_with (first | (go_at_call 29; with_reducible refine (c_isKind _ _).mono ?_; rintro e w' ⟨rfl, rfl⟩) | (go_at_call 32; with_reducible refine (c_check1 _ _ _ _ HA.out ?_).mono ?_; (focus (simp [go_sem]));rintro e w' ⟨rfl, rfl⟩))
  go_ret2
  exact ⟨rfl, (Kp.refl w).alloc _ _⟩
theorem a_add (k a b : Int) (w : World) (ha : 0 ≤ a ∧ a < 18446744073709551616) (hb : 0 ≤ b ∧ b < 18446744073709551616) (h : wh k = true) (hi : iz k a = true) (hj : iz k b = true) :
    Calls Try.prog 21 #[.int .i64 k, .string ⟨#[43]⟩, .int .u64 a, .int .u64 b] w fun e w' => e = .returned (.tuple #[.int .u64 (wr k (a + b)), .int .i64 0]) ∧ Kp w w' := by
  have HA := Lib.hid ha
  have HB := Lib.hid hb
  have he : e2 k a b = 0 := by simp [e2, h, hi, hj]
  clear ha hb
  go_enter Try.func21, Try.ntmps21
  go_wp2_with (first | (go_at_call 32; with_reducible refine (c_check2 _ _ _ _ _ HA.out HB.out ?_ ?_).mono ?_; (focus (simp [go_sem])); (focus (simp [go_sem]));rintro e w' ⟨rfl, rfl⟩) | (go_at_call 31; with_reducible refine (c_wrap _ _ _ h (u64_r _)).mono ?_; rintro e w' ⟨rfl, rfl⟩) | (go_at_call 33; go_in) | (go_at_call 34; go_in))
  go_ret2
  exact ⟨by rw [wr_u64 h]; rfl, (Kp.refl w).alloc _ _⟩
theorem a_sub (k a b : Int) (w : World) (ha : 0 ≤ a ∧ a < 18446744073709551616) (hb : 0 ≤ b ∧ b < 18446744073709551616) (h : wh k = true) (hi : iz k a = true) (hj : iz k b = true) :
    Calls Try.prog 21 #[.int .i64 k, .string ⟨#[45]⟩, .int .u64 a, .int .u64 b] w fun e w' => e = .returned (.tuple #[.int .u64 (wr k (a - b)), .int .i64 0]) ∧ Kp w w' := by
  have HA := Lib.hid ha
  have HB := Lib.hid hb
  have he : e2 k a b = 0 := by simp [e2, h, hi, hj]
  clear ha hb
  go_enter Try.func21, Try.ntmps21
  go_wp2_with (first | (go_at_call 32; with_reducible refine (c_check2 _ _ _ _ _ HA.out HB.out ?_ ?_).mono ?_; (focus (simp [go_sem])); (focus (simp [go_sem]));rintro e w' ⟨rfl, rfl⟩) | (go_at_call 31; with_reducible refine (c_wrap _ _ _ h (u64_r _)).mono ?_; rintro e w' ⟨rfl, rfl⟩) | (go_at_call 33; go_in) | (go_at_call 34; go_in))
  go_ret2
  exact ⟨by rw [wr_u64 h]; rfl, (Kp.refl w).alloc _ _⟩
theorem a_mul (k a b : Int) (w : World) (ha : 0 ≤ a ∧ a < 18446744073709551616) (hb : 0 ≤ b ∧ b < 18446744073709551616) (h : wh k = true) (hi : iz k a = true) (hj : iz k b = true) :
    Calls Try.prog 21 #[.int .i64 k, .string ⟨#[42]⟩, .int .u64 a, .int .u64 b] w fun e w' => e = .returned (.tuple #[.int .u64 (wr k (a * b)), .int .i64 0]) ∧ Kp w w' := by
  have HA := Lib.hid ha
  have HB := Lib.hid hb
  have he : e2 k a b = 0 := by simp [e2, h, hi, hj]
  clear ha hb
  go_enter Try.func21, Try.ntmps21
  go_wp2_with (first | (go_at_call 32; with_reducible refine (c_check2 _ _ _ _ _ HA.out HB.out ?_ ?_).mono ?_; (focus (simp [go_sem])); (focus (simp [go_sem]));rintro e w' ⟨rfl, rfl⟩) | (go_at_call 31; with_reducible refine (c_wrap _ _ _ h (u64_r _)).mono ?_; rintro e w' ⟨rfl, rfl⟩) | (go_at_call 33; go_in) | (go_at_call 34; go_in))
  go_ret2
  exact ⟨by rw [wr_u64 h]; rfl, (Kp.refl w).alloc _ _⟩
theorem a_and (k a b : Int) (w : World) (ha : 0 ≤ a ∧ a < 18446744073709551616) (hb : 0 ≤ b ∧ b < 18446744073709551616) (h : wh k = true) (hi : iz k a = true) (hj : iz k b = true) :
    Calls Try.prog 21 #[.int .i64 k, .string ⟨#[38]⟩, .int .u64 a, .int .u64 b] w fun e w' => e = .returned (.tuple #[.int .u64 (wr k (ban a b)), .int .i64 0]) ∧ Kp w w' := by
  have HA := Lib.hid ha
  have HB := Lib.hid hb
  have he : e2 k a b = 0 := by simp [e2, h, hi, hj]
  have hx := l_and ha hb
  clear ha hb
  go_enter Try.func21, Try.ntmps21
  go_wp2_with (first | (go_at_call 32; with_reducible refine (c_check2 _ _ _ _ _ HA.out HB.out ?_ ?_).mono ?_; (focus (simp [go_sem])); (focus (simp [go_sem]));rintro e w' ⟨rfl, rfl⟩) | (go_at_call 31; with_reducible refine (c_wrap _ _ _ h (ban_r HA.out)).mono ?_; rintro e w' ⟨rfl, rfl⟩) | (go_at_call 33; go_in) | (go_at_call 34; go_in))
  go_ret2
  exact ⟨rfl, (Kp.refl w).alloc _ _⟩
theorem a_or (k a b : Int) (w : World) (ha : 0 ≤ a ∧ a < 18446744073709551616) (hb : 0 ≤ b ∧ b < 18446744073709551616) (h : wh k = true) (hi : iz k a = true) (hj : iz k b = true) :
    Calls Try.prog 21 #[.int .i64 k, .string ⟨#[124]⟩, .int .u64 a, .int .u64 b] w fun e w' => e = .returned (.tuple #[.int .u64 (wr k (bor a b)), .int .i64 0]) ∧ Kp w w' := by
  have HA := Lib.hid ha
  have HB := Lib.hid hb
  have he : e2 k a b = 0 := by simp [e2, h, hi, hj]
  have hx := l_or ha hb
  clear ha hb
  go_enter Try.func21, Try.ntmps21
  go_wp2_with (first | (go_at_call 32; with_reducible refine (c_check2 _ _ _ _ _ HA.out HB.out ?_ ?_).mono ?_; (focus (simp [go_sem])); (focus (simp [go_sem]));rintro e w' ⟨rfl, rfl⟩) | (go_at_call 31; with_reducible refine (c_wrap _ _ _ h (bor_r HA.out HB.out)).mono ?_; rintro e w' ⟨rfl, rfl⟩) | (go_at_call 33; go_in) | (go_at_call 34; go_in))
  go_ret2
  exact ⟨rfl, (Kp.refl w).alloc _ _⟩
theorem a_xor (k a b : Int) (w : World) (ha : 0 ≤ a ∧ a < 18446744073709551616) (hb : 0 ≤ b ∧ b < 18446744073709551616) (h : wh k = true) (hi : iz k a = true) (hj : iz k b = true) :
    Calls Try.prog 21 #[.int .i64 k, .string ⟨#[94]⟩, .int .u64 a, .int .u64 b] w fun e w' => e = .returned (.tuple #[.int .u64 (wr k (bxo a b)), .int .i64 0]) ∧ Kp w w' := by
  have HA := Lib.hid ha
  have HB := Lib.hid hb
  have he : e2 k a b = 0 := by simp [e2, h, hi, hj]
  have hx := l_xor ha hb
  clear ha hb
  go_enter Try.func21, Try.ntmps21
  go_wp2_with (first | (go_at_call 32; with_reducible refine (c_check2 _ _ _ _ _ HA.out HB.out ?_ ?_).mono ?_; (focus (simp [go_sem])); (focus (simp [go_sem]));rintro e w' ⟨rfl, rfl⟩) | (go_at_call 31; with_reducible refine (c_wrap _ _ _ h (bxo_r HA.out HB.out)).mono ?_; rintro e w' ⟨rfl, rfl⟩) | (go_at_call 33; go_in) | (go_at_call 34; go_in))
  go_ret2
  exact ⟨rfl, (Kp.refl w).alloc _ _⟩
theorem a_not (k a b : Int) (w : World) (ha : 0 ≤ a ∧ a < 18446744073709551616) (hb : 0 ≤ b ∧ b < 18446744073709551616) (h : wh k = true) (hi : iz k a = true) (hj : iz k b = true) :
    Calls Try.prog 21 #[.int .i64 k, .string ⟨#[38, 94]⟩, .int .u64 a, .int .u64 b] w fun e w' => e = .returned (.tuple #[.int .u64 (wr k (bnt a b)), .int .i64 0]) ∧ Kp w w' := by
  have HA := Lib.hid ha
  have HB := Lib.hid hb
  have he : e2 k a b = 0 := by simp [e2, h, hi, hj]
  have hx := l_not ha hb
  clear ha hb
  go_enter Try.func21, Try.ntmps21
  go_wp2_with (first | (go_at_call 32; with_reducible refine (c_check2 _ _ _ _ _ HA.out HB.out ?_ ?_).mono ?_; (focus (simp [go_sem])); (focus (simp [go_sem]));rintro e w' ⟨rfl, rfl⟩) | (go_at_call 31; with_reducible refine (c_wrap _ _ _ h (bnt_r HA.out)).mono ?_; rintro e w' ⟨rfl, rfl⟩) | (go_at_call 33; go_in) | (go_at_call 34; go_in))
  go_ret2
  exact ⟨rfl, (Kp.refl w).alloc _ _⟩
end Go.Proofs.Ytlpcnkjnjkijbaa
