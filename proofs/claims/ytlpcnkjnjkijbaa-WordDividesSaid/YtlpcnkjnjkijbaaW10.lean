/- What the reference's Arith answers, by plain functions: the same as Arith of word. -/
import Derived.Test.YtlpcnkjnjkijbaaW9
import Derived.Test.YtlpcnkjnjkijbaaPlain3
import Derived.Deep.QuietTactic
import Derived.BigQuiet
namespace Go.Proofs.Ytlpcnkjnjkijbaa
open Go.RowKit Plain
set_option linter.unusedVariables false
theorem kback {a b c : World} (k : Kp b c) (h : Kp a b) : Kp a c := h.trans k
theorem keepc {w w' : World} (hk : Kp w w') {b o : Nat} {v : Value} (hc : w.cell? ⟨b, o, none⟩ = some v) : w'.cell? ⟨b, o, none⟩ = some v := by
  have hb : b < w.heap.size := by
    apply Classical.byContradiction
    intro hn
    have : w.heap[b]? = none := by simp; omega
    simp [World.cell?, this] at hc
  rw [hk.cell hb, hc]
theorem keeps {w w' : World} {o : Obj} (hk : Kp (w.alloc o) w') : w.heap.size < w'.heap.size := by
  have := hk.below.size
  simp at this; omega
theorem c_sn (k n : Int) (neg : Bool) (w : World) (h : wh k = true) (hn : 0 ≤ n ∧ n < 18446744073709551616) :
    Calls Try.prog 38 #[.int .i64 k, .bool neg, .int .u64 n] w fun e w' => e = .returned (.int .u64 (sn k neg n)) ∧ w = w' := c_signed k n neg w h hn
theorem c_sn' (k n : Int) (neg : Bool) (w : World) (h : wh k = true) (hn : 0 ≤ n ∧ n < 18446744073709551616) :
    Calls Try.prog 38 #[.int .i64 k, .bool neg, .int .u64 n] w fun e w' => e = .returned (.int .u64 (sn k neg n)) ∧ w' = w := (c_signed k n neg w h hn).mono fun _ _ q => ⟨q.1, q.2.symm⟩
theorem q_noop (k a b : Int) (op : ByteArray) (w : World) (ho : isop op = false) :
    Calls Try.prog 22 #[.int .i64 k, .string op, .int .u64 a, .int .u64 b] w fun e w' => e = .returned (.tuple #[.int .u64 0, .int .i64 2]) ∧ Kp w w' := by
  go_enter Try.func22, Try.ntmps22
  go_wp2_with (go_at_call 36; with_reducible refine (c_rSign _ _).mono ?_; rintro e w' ⟨rfl, rfl⟩)
  go_ret2
  exact ⟨rfl, Kp.refl w⟩
theorem q_bad (k a b : Int) (op : ByteArray) (w : World) (ha : 0 ≤ a ∧ a < 18446744073709551616) (hb : 0 ≤ b ∧ b < 18446744073709551616) (ho : isop op = true) (he : (e2 k a b != 0) = true) :
    Calls Try.prog 22 #[.int .i64 k, .string op, .int .u64 a, .int .u64 b] w fun e w' => e = .returned (.tuple #[.int .u64 0, .int .i64 (e2 k a b)]) ∧ Kp w w' := by
  have HA := Lib.hid ha
  have HB := Lib.hid hb
  clear ha hb
  go_enter Try.func22, Try.ntmps22
  go_wp2_with (first | (go_at_call 36; with_reducible refine (c_rSign _ _).mono ?_; rintro e w' ⟨rfl, rfl⟩) | (go_at_call 37; with_reducible refine (c_Bad2 _ _ _ _ _ HA.out HB.out ?_ ?_).mono ?_; (focus (simp [go_sem])); (focus (simp [go_sem]));rintro e w' ⟨rfl, rfl⟩))
  go_ret2
  exact ⟨rfl, (Kp.refl w).alloc _ _⟩
theorem q_add (k a b : Int) (w : World) (ha : 0 ≤ a ∧ a < 18446744073709551616) (hb : 0 ≤ b ∧ b < 18446744073709551616) (h : wh k = true) (hi : iz k a = true) (hj : iz k b = true) :
    Calls Try.prog 22 #[.int .i64 k, .string ⟨#[43]⟩, .int .u64 a, .int .u64 b] w fun e w' => e = .returned (.tuple #[.int .u64 (wr k (a + b)), .int .i64 0]) ∧ Kp w w' := by
  have HA := Lib.hid ha
  have HB := Lib.hid hb
  have he : e2 k a b = 0 := by simp [e2, h, hi, hj]
  clear ha hb
  go_enter Try.func22, Try.ntmps22
  go_wp2_with (first | (go_at_call 37; with_reducible refine (c_Bad2 _ _ _ _ _ HA.out HB.out ?_ ?_).mono ?_; (focus (simp [go_sem])); (focus (simp [go_sem]));rintro e w' ⟨rfl, rfl⟩) | (go_at_call 27; with_reducible refine (c_Of k a _ HA.out).mono ?_; rintro e w1 ⟨rfl, hk1⟩) | (go_at_call 27; with_reducible refine (c_Of k b _ HB.out).mono ?_; rintro e w2 ⟨rfl, hk2⟩; have hs := keeps hk2; have hc0 := keepc hk2 (b := w1.heap.size) (o := 0) (v := .bool (ng k a)) (by simp [go_sem]); have hc1 := keepc hk2 (b := w1.heap.size) (o := 1) (v := .int .u64 (sz k a)) (by simp [go_sem])) | (go_at_call 20; with_reducible refine (c_rWrap _ _ _ h (u64_r _)).mono ?_; rintro e w' ⟨rfl, rfl⟩) | (go_at_call 36; go_in))
  go_ret2
  exact ⟨by rw [wr_u64 h]; rfl, by (repeat (first | exact Kp.refl _ | refine kback (by assumption) ?_ | refine Kp.alloc ?_ _ _))⟩
theorem q_sub (k a b : Int) (w : World) (ha : 0 ≤ a ∧ a < 18446744073709551616) (hb : 0 ≤ b ∧ b < 18446744073709551616) (h : wh k = true) (hi : iz k a = true) (hj : iz k b = true) :
    Calls Try.prog 22 #[.int .i64 k, .string ⟨#[45]⟩, .int .u64 a, .int .u64 b] w fun e w' => e = .returned (.tuple #[.int .u64 (wr k (a - b)), .int .i64 0]) ∧ Kp w w' := by
  have HA := Lib.hid ha
  have HB := Lib.hid hb
  have he : e2 k a b = 0 := by simp [e2, h, hi, hj]
  clear ha hb
  go_enter Try.func22, Try.ntmps22
  go_wp2_with (first | (go_at_call 37; with_reducible refine (c_Bad2 _ _ _ _ _ HA.out HB.out ?_ ?_).mono ?_; (focus (simp [go_sem])); (focus (simp [go_sem]));rintro e w' ⟨rfl, rfl⟩) | (go_at_call 27; with_reducible refine (c_Of k a _ HA.out).mono ?_; rintro e w1 ⟨rfl, hk1⟩) | (go_at_call 27; with_reducible refine (c_Of k b _ HB.out).mono ?_; rintro e w2 ⟨rfl, hk2⟩; have hs := keeps hk2; have hc0 := keepc hk2 (b := w1.heap.size) (o := 0) (v := .bool (ng k a)) (by simp [go_sem]); have hc1 := keepc hk2 (b := w1.heap.size) (o := 1) (v := .int .u64 (sz k a)) (by simp [go_sem])) | (go_at_call 20; with_reducible refine (c_rWrap _ _ _ h (u64_r _)).mono ?_; rintro e w' ⟨rfl, rfl⟩) | (go_at_call 36; go_in))
  go_ret2
  exact ⟨ret_pair (sub_u64 h a b), by (repeat (first | exact Kp.refl _ | refine kback (by assumption) ?_ | refine Kp.alloc ?_ _ _))⟩
theorem q_mul (k a b : Int) (w : World) (ha : 0 ≤ a ∧ a < 18446744073709551616) (hb : 0 ≤ b ∧ b < 18446744073709551616) (h : wh k = true) (hi : iz k a = true) (hj : iz k b = true) :
    Calls Try.prog 22 #[.int .i64 k, .string ⟨#[42]⟩, .int .u64 a, .int .u64 b] w fun e w' => e = .returned (.tuple #[.int .u64 (wr k (a * b)), .int .i64 0]) ∧ Kp w w' := by
  have HA := Lib.hid ha
  have HB := Lib.hid hb
  have he : e2 k a b = 0 := by simp [e2, h, hi, hj]
  have hq := Lib.hid (mul_sn h ha hb)
  clear ha hb
  go_enter Try.func22, Try.ntmps22
  go_wp2_with (first | (go_at_call 37; with_reducible refine (c_Bad2 _ _ _ _ _ HA.out HB.out ?_ ?_).mono ?_; (focus (simp [go_sem])); (focus (simp [go_sem]));rintro e w' ⟨rfl, rfl⟩) | (go_at_call 27; with_reducible refine (c_Of k a _ HA.out).mono ?_; rintro e w1 ⟨rfl, hk1⟩) | (go_at_call 27; with_reducible refine (c_Of k b _ HB.out).mono ?_; rintro e w2 ⟨rfl, hk2⟩; have hs := keeps hk2; have hc0 := keepc hk2 (b := w1.heap.size) (o := 0) (v := .bool (ng k a)) (by simp [go_sem]); have hc1 := keepc hk2 (b := w1.heap.size) (o := 1) (v := .int .u64 (sz k a)) (by simp [go_sem])) | (go_at_call 38; with_reducible refine (c_sn _ _ _ _ h (u64_r _)).mono ?_; rintro e w' ⟨rfl, rfl⟩) | (go_at_call 36; go_in))
  go_ret2
  exact ⟨ret_pair hq.out, by (repeat (first | exact Kp.refl _ | refine kback (by assumption) ?_ | refine Kp.alloc ?_ _ _))⟩
theorem q_and (k a b : Int) (w : World) (ha : 0 ≤ a ∧ a < 18446744073709551616) (hb : 0 ≤ b ∧ b < 18446744073709551616) (h : wh k = true) (hi : iz k a = true) (hj : iz k b = true) :
    Calls Try.prog 22 #[.int .i64 k, .string ⟨#[38]⟩, .int .u64 a, .int .u64 b] w fun e w' => e = .returned (.tuple #[.int .u64 (wr k (ban a b)), .int .i64 0]) ∧ Kp w w' := by
  have HA := Lib.hid ha
  have HB := Lib.hid hb
  have he : e2 k a b = 0 := by simp [e2, h, hi, hj]
  clear ha hb
  go_enter Try.func22, Try.ntmps22
  go_wp2_with (first | (go_at_call 37; with_reducible refine (c_Bad2 _ _ _ _ _ HA.out HB.out ?_ ?_).mono ?_; (focus (simp [go_sem])); (focus (simp [go_sem]));rintro e w' ⟨rfl, rfl⟩) | (go_at_call 27; with_reducible refine (c_Of k a _ HA.out).mono ?_; rintro e w1 ⟨rfl, hk1⟩) | (go_at_call 27; with_reducible refine (c_Of k b _ HB.out).mono ?_; rintro e w2 ⟨rfl, hk2⟩; have hs := keeps hk2; have hc0 := keepc hk2 (b := w1.heap.size) (o := 0) (v := .bool (ng k a)) (by simp [go_sem]); have hc1 := keepc hk2 (b := w1.heap.size) (o := 1) (v := .int .u64 (sz k a)) (by simp [go_sem])) | (go_at_call 39; with_reducible refine (c_bw_and _ _ _ HA.out HB.out).mono ?_; rintro e w' ⟨rfl, rfl⟩) | (go_at_call 20; with_reducible refine (c_rWrap _ _ _ h (ban_r HA.out)).mono ?_; rintro e w' ⟨rfl, rfl⟩) | (go_at_call 36; go_in))
  go_ret2
  exact ⟨rfl, by (repeat (first | exact Kp.refl _ | refine kback (by assumption) ?_ | refine Kp.alloc ?_ _ _))⟩
theorem q_or (k a b : Int) (w : World) (ha : 0 ≤ a ∧ a < 18446744073709551616) (hb : 0 ≤ b ∧ b < 18446744073709551616) (h : wh k = true) (hi : iz k a = true) (hj : iz k b = true) :
    Calls Try.prog 22 #[.int .i64 k, .string ⟨#[124]⟩, .int .u64 a, .int .u64 b] w fun e w' => e = .returned (.tuple #[.int .u64 (wr k (bor a b)), .int .i64 0]) ∧ Kp w w' := by
  have HA := Lib.hid ha
  have HB := Lib.hid hb
  have he : e2 k a b = 0 := by simp [e2, h, hi, hj]
  clear ha hb
  go_enter Try.func22, Try.ntmps22
  go_wp2_with (first | (go_at_call 37; with_reducible refine (c_Bad2 _ _ _ _ _ HA.out HB.out ?_ ?_).mono ?_; (focus (simp [go_sem])); (focus (simp [go_sem]));rintro e w' ⟨rfl, rfl⟩) | (go_at_call 27; with_reducible refine (c_Of k a _ HA.out).mono ?_; rintro e w1 ⟨rfl, hk1⟩) | (go_at_call 27; with_reducible refine (c_Of k b _ HB.out).mono ?_; rintro e w2 ⟨rfl, hk2⟩; have hs := keeps hk2; have hc0 := keepc hk2 (b := w1.heap.size) (o := 0) (v := .bool (ng k a)) (by simp [go_sem]); have hc1 := keepc hk2 (b := w1.heap.size) (o := 1) (v := .int .u64 (sz k a)) (by simp [go_sem])) | (go_at_call 39; with_reducible refine (c_bw_or _ _ _ HA.out HB.out).mono ?_; rintro e w' ⟨rfl, rfl⟩) | (go_at_call 20; with_reducible refine (c_rWrap _ _ _ h (bor_r HA.out HB.out)).mono ?_; rintro e w' ⟨rfl, rfl⟩) | (go_at_call 36; go_in))
  go_ret2
  exact ⟨rfl, by (repeat (first | exact Kp.refl _ | refine kback (by assumption) ?_ | refine Kp.alloc ?_ _ _))⟩
theorem q_xor (k a b : Int) (w : World) (ha : 0 ≤ a ∧ a < 18446744073709551616) (hb : 0 ≤ b ∧ b < 18446744073709551616) (h : wh k = true) (hi : iz k a = true) (hj : iz k b = true) :
    Calls Try.prog 22 #[.int .i64 k, .string ⟨#[94]⟩, .int .u64 a, .int .u64 b] w fun e w' => e = .returned (.tuple #[.int .u64 (wr k (bxo a b)), .int .i64 0]) ∧ Kp w w' := by
  have HA := Lib.hid ha
  have HB := Lib.hid hb
  have he : e2 k a b = 0 := by simp [e2, h, hi, hj]
  clear ha hb
  go_enter Try.func22, Try.ntmps22
  go_wp2_with (first | (go_at_call 37; with_reducible refine (c_Bad2 _ _ _ _ _ HA.out HB.out ?_ ?_).mono ?_; (focus (simp [go_sem])); (focus (simp [go_sem]));rintro e w' ⟨rfl, rfl⟩) | (go_at_call 27; with_reducible refine (c_Of k a _ HA.out).mono ?_; rintro e w1 ⟨rfl, hk1⟩) | (go_at_call 27; with_reducible refine (c_Of k b _ HB.out).mono ?_; rintro e w2 ⟨rfl, hk2⟩; have hs := keeps hk2; have hc0 := keepc hk2 (b := w1.heap.size) (o := 0) (v := .bool (ng k a)) (by simp [go_sem]); have hc1 := keepc hk2 (b := w1.heap.size) (o := 1) (v := .int .u64 (sz k a)) (by simp [go_sem])) | (go_at_call 39; with_reducible refine (c_bw_xor _ _ _ HA.out HB.out).mono ?_; rintro e w' ⟨rfl, rfl⟩) | (go_at_call 20; with_reducible refine (c_rWrap _ _ _ h (bxo_r HA.out HB.out)).mono ?_; rintro e w' ⟨rfl, rfl⟩) | (go_at_call 36; go_in))
  go_ret2
  exact ⟨rfl, by (repeat (first | exact Kp.refl _ | refine kback (by assumption) ?_ | refine Kp.alloc ?_ _ _))⟩
theorem q_not (k a b : Int) (w : World) (ha : 0 ≤ a ∧ a < 18446744073709551616) (hb : 0 ≤ b ∧ b < 18446744073709551616) (h : wh k = true) (hi : iz k a = true) (hj : iz k b = true) :
    Calls Try.prog 22 #[.int .i64 k, .string ⟨#[38, 94]⟩, .int .u64 a, .int .u64 b] w fun e w' => e = .returned (.tuple #[.int .u64 (wr k (bnt a b)), .int .i64 0]) ∧ Kp w w' := by
  have HA := Lib.hid ha
  have HB := Lib.hid hb
  have he : e2 k a b = 0 := by simp [e2, h, hi, hj]
  clear ha hb
  go_enter Try.func22, Try.ntmps22
  go_wp2_with (first | (go_at_call 37; with_reducible refine (c_Bad2 _ _ _ _ _ HA.out HB.out ?_ ?_).mono ?_; (focus (simp [go_sem])); (focus (simp [go_sem]));rintro e w' ⟨rfl, rfl⟩) | (go_at_call 27; with_reducible refine (c_Of k a _ HA.out).mono ?_; rintro e w1 ⟨rfl, hk1⟩) | (go_at_call 27; with_reducible refine (c_Of k b _ HB.out).mono ?_; rintro e w2 ⟨rfl, hk2⟩; have hs := keeps hk2; have hc0 := keepc hk2 (b := w1.heap.size) (o := 0) (v := .bool (ng k a)) (by simp [go_sem]); have hc1 := keepc hk2 (b := w1.heap.size) (o := 1) (v := .int .u64 (sz k a)) (by simp [go_sem])) | (go_at_call 39; with_reducible refine (c_bw_not _ _ _ HA.out HB.out).mono ?_; rintro e w' ⟨rfl, rfl⟩) | (go_at_call 20; with_reducible refine (c_rWrap _ _ _ h (bnt_r HA.out)).mono ?_; rintro e w' ⟨rfl, rfl⟩) | (go_at_call 36; go_in))
  go_ret2
  exact ⟨rfl, by (repeat (first | exact Kp.refl _ | refine kback (by assumption) ?_ | refine Kp.alloc ?_ _ _))⟩
theorem q_quo0 (k a : Int) (w : World) (ha : 0 ≤ a ∧ a < 18446744073709551616) (h : wh k = true) (hi : iz k a = true) :
    Calls Try.prog 22 #[.int .i64 k, .string ⟨#[47]⟩, .int .u64 a, .int .u64 0] w fun e w' => e = .returned (.tuple #[.int .u64 0, .int .i64 18]) ∧ Kp w w' := by
  have HA := Lib.hid ha
  have HB : Hid ((0 : Int) ≤ 0 ∧ (0 : Int) < 18446744073709551616) := Lib.hid (by omega)
  have he : e2 k a 0 = 0 := by simp [e2, h, hi, iz_0 h]
  have hz : sz k 0 = 0 := by simp [sz, ng]
  clear ha
  go_enter Try.func22, Try.ntmps22
  go_wp2_with (first | (go_at_call 37; with_reducible refine (c_Bad2 _ _ _ _ _ HA.out HB.out ?_ ?_).mono ?_; (focus (simp [go_sem])); (focus (simp [go_sem]));rintro e w' ⟨rfl, rfl⟩) | (go_at_call 27; with_reducible refine (c_Of k a _ HA.out).mono ?_; rintro e w1 ⟨rfl, hk1⟩) | (go_at_call 27; with_reducible refine (c_Of k 0 _ HB.out).mono ?_; rintro e w2 ⟨rfl, hk2⟩; have hs := keeps hk2; have hc0 := keepc hk2 (b := w1.heap.size) (o := 0) (v := .bool (ng k a)) (by simp [go_sem]); have hc1 := keepc hk2 (b := w1.heap.size) (o := 1) (v := .int .u64 (sz k a)) (by simp [go_sem])) | (go_at_call 36; go_in))
  go_ret2
  exact ⟨rfl, by (repeat (first | exact Kp.refl _ | refine kback (by assumption) ?_ | refine Kp.alloc ?_ _ _ | refine Kp.drewN ?_ _ | refine Kp.drew ?_))⟩
theorem q_quo (k a b : Int) (w : World) (ha : 0 ≤ a ∧ a < 18446744073709551616) (hb : 0 ≤ b ∧ b < 18446744073709551616) (h : wh k = true) (hi : iz k a = true) (hj : iz k b = true) (h0 : b ≠ 0) :
    Calls Try.prog 22 #[.int .i64 k, .string ⟨#[47]⟩, .int .u64 a, .int .u64 b] w fun e w' => e = .returned (.tuple #[.int .u64 (wr k ((sv k a).tdiv (sv k b))), .int .i64 0]) ∧ Kp w w' := by
  have HA := Lib.hid ha
  have HB := Lib.hid hb
  have he : e2 k a b = 0 := by simp [e2, h, hi, hj]
  have hq := Lib.hid (quo_sn (a := a) (b := b) h)
  have hz0 : ¬ sz k b = 0 := sz_0 hb h0
  have hz1 : (sz k b == 0) = false := by simp [hz0]
  clear ha hb h0
  go_enter Try.func22, Try.ntmps22
  go_wp2_with (first | (go_at_call 37; with_reducible refine (c_Bad2 _ _ _ _ _ HA.out HB.out ?_ ?_).mono ?_; (focus (simp [go_sem])); (focus (simp [go_sem]));rintro e w' ⟨rfl, rfl⟩) | (go_at_call 27; with_reducible refine (c_Of k a _ HA.out).mono ?_; rintro e w1 ⟨rfl, hk1⟩) | (go_at_call 27; with_reducible refine (c_Of k b _ HB.out).mono ?_; rintro e w2 ⟨rfl, hk2⟩; have hs := keeps hk2; have hc0 := keepc hk2 (b := w1.heap.size) (o := 0) (v := .bool (ng k a)) (by simp [go_sem]); have hc1 := keepc hk2 (b := w1.heap.size) (o := 1) (v := .int .u64 (sz k a)) (by simp [go_sem])) | (go_at_call 36; go_in))
  go_quiet ((go_at_call 38; exact Calls.quiet_of_same (c_sn' _ _ _ _ h (u64_r _))))
  go_wp2_with fail
  go_ret2
  exact ⟨ret_pair hq.out, by (repeat (first | exact Kp.refl _ | refine kback (by assumption) ?_ | refine Kp.alloc ?_ _ _ | refine Kp.drewN ?_ _ | refine Kp.drew ?_))⟩
theorem q_rem0 (k a : Int) (w : World) (ha : 0 ≤ a ∧ a < 18446744073709551616) (h : wh k = true) (hi : iz k a = true) :
    Calls Try.prog 22 #[.int .i64 k, .string ⟨#[37]⟩, .int .u64 a, .int .u64 0] w fun e w' => e = .returned (.tuple #[.int .u64 0, .int .i64 18]) ∧ Kp w w' := by
  have HA := Lib.hid ha
  have HB : Hid ((0 : Int) ≤ 0 ∧ (0 : Int) < 18446744073709551616) := Lib.hid (by omega)
  have he : e2 k a 0 = 0 := by simp [e2, h, hi, iz_0 h]
  have hz : sz k 0 = 0 := by simp [sz, ng]
  clear ha
  go_enter Try.func22, Try.ntmps22
  go_wp2_with (first | (go_at_call 37; with_reducible refine (c_Bad2 _ _ _ _ _ HA.out HB.out ?_ ?_).mono ?_; (focus (simp [go_sem])); (focus (simp [go_sem]));rintro e w' ⟨rfl, rfl⟩) | (go_at_call 27; with_reducible refine (c_Of k a _ HA.out).mono ?_; rintro e w1 ⟨rfl, hk1⟩) | (go_at_call 27; with_reducible refine (c_Of k 0 _ HB.out).mono ?_; rintro e w2 ⟨rfl, hk2⟩; have hs := keeps hk2; have hc0 := keepc hk2 (b := w1.heap.size) (o := 0) (v := .bool (ng k a)) (by simp [go_sem]); have hc1 := keepc hk2 (b := w1.heap.size) (o := 1) (v := .int .u64 (sz k a)) (by simp [go_sem])) | (go_at_call 36; go_in))
  go_ret2
  exact ⟨rfl, by (repeat (first | exact Kp.refl _ | refine kback (by assumption) ?_ | refine Kp.alloc ?_ _ _ | refine Kp.drewN ?_ _ | refine Kp.drew ?_))⟩
theorem q_rem (k a b : Int) (w : World) (ha : 0 ≤ a ∧ a < 18446744073709551616) (hb : 0 ≤ b ∧ b < 18446744073709551616) (h : wh k = true) (hi : iz k a = true) (hj : iz k b = true) (h0 : b ≠ 0) :
    Calls Try.prog 22 #[.int .i64 k, .string ⟨#[37]⟩, .int .u64 a, .int .u64 b] w fun e w' => e = .returned (.tuple #[.int .u64 (wr k ((sv k a).tmod (sv k b))), .int .i64 0]) ∧ Kp w w' := by
  have HA := Lib.hid ha
  have HB := Lib.hid hb
  have he : e2 k a b = 0 := by simp [e2, h, hi, hj]
  have hq := Lib.hid (rem_sn (k := k) (a := a) (b := b) ha hb h0)
  have hz0 : ¬ sz k b = 0 := sz_0 hb h0
  have hz1 : (sz k b == 0) = false := by simp [hz0]
  clear ha hb h0
  go_enter Try.func22, Try.ntmps22
  go_wp2_with (first | (go_at_call 37; with_reducible refine (c_Bad2 _ _ _ _ _ HA.out HB.out ?_ ?_).mono ?_; (focus (simp [go_sem])); (focus (simp [go_sem]));rintro e w' ⟨rfl, rfl⟩) | (go_at_call 27; with_reducible refine (c_Of k a _ HA.out).mono ?_; rintro e w1 ⟨rfl, hk1⟩) | (go_at_call 27; with_reducible refine (c_Of k b _ HB.out).mono ?_; rintro e w2 ⟨rfl, hk2⟩; have hs := keeps hk2; have hc0 := keepc hk2 (b := w1.heap.size) (o := 0) (v := .bool (ng k a)) (by simp [go_sem]); have hc1 := keepc hk2 (b := w1.heap.size) (o := 1) (v := .int .u64 (sz k a)) (by simp [go_sem])) | (go_at_call 36; go_in))
  go_quiet ((go_at_call 38; exact Calls.quiet_of_same (c_sn' _ _ _ _ h (u64_r _))))
  go_wp2_with fail
  go_ret2
  exact ⟨ret_pair hq.out, by (repeat (first | exact Kp.refl _ | refine kback (by assumption) ?_ | refine Kp.alloc ?_ _ _ | refine Kp.drewN ?_ _ | refine Kp.drew ?_))⟩
end Go.Proofs.Ytlpcnkjnjkijbaa
