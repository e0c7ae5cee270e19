/- What moved of the reference answers: a shift by the number, one bit after the other. Conditions: the constants are sound, a size is between 0 and 2 to the 64. -/
import Derived.Test.YtihchlkoohficaaK13
namespace Go.Proofs.Ytihchlkoohficaa
open Go.RowKit Plain
set_option linter.unusedVariables false
set_option linter.unusedSimpArgs false
/-- The three boxes of moved: what is shifted, the count, and what is answered. -/
structure Bx (w wr : World) (a : Bool) (v : Int) (b : Bool) (n : Int) : Prop where
  c00 : wr.cell? ⟨w.heap.size, 0, none⟩ = some (.bool a)
  c01 : wr.cell? ⟨w.heap.size, 1, none⟩ = some (.int .u64 v)
  c10 : wr.cell? ⟨w.heap.size + 1, 0, none⟩ = some (.bool b)
  c11 : wr.cell? ⟨w.heap.size + 1, 1, none⟩ = some (.int .u64 n)
  c20 : wr.cell? ⟨w.heap.size + 1 + 1, 0, none⟩ = some (.bool false)
  c21 : wr.cell? ⟨w.heap.size + 1 + 1, 1, none⟩ = some (.int .u64 0)
  f01 : wr.frozen? ⟨w.heap.size, 1, none⟩ = false
  f20 : wr.frozen? ⟨w.heap.size + 1 + 1, 0, none⟩ = false
  f21 : wr.frozen? ⟨w.heap.size + 1 + 1, 1, none⟩ = false
  kp : Kp w wr
theorem Bx.set {w wr : World} {a : Bool} {v : Int} {b : Bool} {n : Int} (h : Bx w wr a v b n) (v' : Int) : Bx w (wr.setCell ⟨w.heap.size, 1, none⟩ (.int .u64 v')) a v' b n where
  c00 := by simp [go_sem, h.c00]
  c01 := World.cell?_setCell_same _ _ _ h.c01
  c10 := by simp [go_sem, h.c10]
  c11 := by simp [go_sem, h.c11]
  c20 := by simp [go_sem, h.c20]
  c21 := by simp [go_sem, h.c21]
  f01 := by rw [World.frozen?_setCell]; exact h.f01
  f20 := by rw [World.frozen?_setCell]; exact h.f20
  f21 := by rw [World.frozen?_setCell]; exact h.f21
  kp := h.kp.setCell (by simp) _
theorem Bx.start (w : World) (a : Bool) (v : Int) (b : Bool) (n : Int) : Bx w (((w.alloc (.cells #[.bool a, .int .u64 v] 24)).alloc (.cells #[.bool b, .int .u64 n] 24)).alloc (.cells #[.bool false, .int .u64 0] 24)) a v b n := by
  constructor <;> first | (simp [go_sem]; done) | exact (by (repeat (first | exact Kp.refl _ | refine kback (by assumption) ?_ | refine Kp.setCell ?_ (by first | omega | (simp; done) | (simp; omega)) _ | refine Kp.alloc ?_ _ _ | refine Kp.drewN ?_ _ | refine Kp.drew ?_)))
/-! ### Plain -/
theorem up_over {v : Int} (h : 0 ≤ v ∧ v < 18446744073709551616) : decide (IntKind.u64.wrap (v + v) < v) = decide (18446744073709551616 ≤ v + v) := by
  rw [IntKind.wrap_u64, Bool.eq_iff_iff]; simp; omega
theorem up_next {v : Int} (h : 0 ≤ v) (h2 : v + v < 18446744073709551616) : IntKind.u64.wrap (v + v) = v + v := u64_id (by omega)
theorem pow_next (m : Int) (j : Nat) : m * 2 ^ j + m * 2 ^ j = m * 2 ^ (j + 1) := by rw [pow_succ2, Int.mul_left_comm]; omega
theorem pow_mono {m : Int} (hm : 0 ≤ m) {i j : Nat} (h : i ≤ j) : m * 2 ^ i ≤ m * 2 ^ j := by
  obtain ⟨d, rfl⟩ := Nat.exists_eq_add_of_le h
  rw [pow_split, ← Int.mul_assoc]
  have h1 := Int.mul_nonneg hm (Int.le_of_lt (pow_pos2 i))
  have h2 := pow_pos2 d
  have h3 : m * 2 ^ i * 1 ≤ m * 2 ^ i * 2 ^ d := Int.mul_le_mul_of_nonneg_left (by omega) h1
  omega
theorem zero_of {m : Int} (hm : 0 ≤ m) {j : Nat} (h : m * 2 ^ j < 18446744073709551616) (hj : 64 ≤ j) : m = 0 := by
  have h1 := pow_mono hm hj
  rw [pow64] at h1
  omega
theorem up_end {a : Bool} {m n : Int} (hm : 0 ≤ m) {j : Nat} (h : m * 2 ^ j < 18446744073709551616) (hj : j = min n.toNat 70) : tv a (m * 2 ^ j) (!false) = vl a m * 2 ^ min n.toNat 64 := by
  have e : tv a (m * 2 ^ j) (!false) = vl a m * 2 ^ j := by cases a <;> simp [tv, vl, Int.neg_mul]
  rw [e]
  by_cases hl : j ≤ 64
  · rw [show min n.toNat 64 = j by omega]
  · have := zero_of hm h (by omega)
    subst this; cases a <;> simp [vl]
theorem up_no {a : Bool} {m n : Int} (hm : 0 ≤ m) {j : Nat} (h : m * 2 ^ j < 18446744073709551616) (h2 : 18446744073709551616 ≤ m * 2 ^ j + m * 2 ^ j) (hj : (j : Int) < n) : ft (vl a m * 2 ^ min n.toNat 64) = false := by
  rw [pow_next] at h2
  have e : vl a m * 2 ^ min n.toNat 64 = vl a (m * 2 ^ min n.toNat 64) := by cases a <;> simp [vl, Int.neg_mul]
  rw [e]
  apply ft_big
  have hl : j + 1 ≤ 64 := by
    apply Classical.byContradiction
    intro hc
    have := zero_of hm h (by omega)
    subst this
    simp at h2
  have := pow_mono hm (show j + 1 ≤ min n.toNat 64 by omega)
  omega
/-- Shifted down by j. -/
def dJ (a : Bool) (m : Int) (j : Nat) : Int := if a then (m - 1) / 2 ^ j + 1 else m / 2 ^ j
theorem dJ_0 {a : Bool} {m : Int} : dJ a m 0 = m := by cases a <;> simp [dJ]
theorem dJ_r {a : Bool} {m : Int} (hk : kc a m = true) (hm : 0 ≤ m ∧ m < 18446744073709551616) (j : Nat) : 0 ≤ dJ a m j ∧ dJ a m j < 18446744073709551616 := by
  cases a with
  | false => have := dn_range (m := m) j hm; simp [dJ]; omega
  | true =>
    have hk : 1 ≤ m ∧ m ≤ 9223372036854775808 := by simpa [kc] using hk
    have := dn_range (m := m - 1) j (by omega); simp [dJ]; omega
theorem div_next (m : Int) (j : Nat) : m / 2 ^ j / 2 = m / 2 ^ (j + 1) := by
  rw [Int.ediv_ediv_of_nonneg (Int.le_of_lt (pow_pos2 j)), Int.pow_succ]
theorem dJ_pos {m : Int} (hm : 0 ≤ m) (j : Nat) : (dJ false m j).tdiv 2 = dJ false m (j + 1) := by
  have := Int.ediv_nonneg hm (Int.le_of_lt (pow_pos2 j))
  simp only [dJ, Bool.false_eq_true, if_false]
  rw [Int.tdiv_eq_ediv_of_nonneg this, div_next]
theorem dJ_neg {m : Int} (hm : 1 ≤ m) (j : Nat) : (dJ true m j).tdiv 2 + dJ true m j % 2 = dJ true m (j + 1) := by
  have := Int.ediv_nonneg (a := m - 1) (b := 2 ^ j) (by omega) (Int.le_of_lt (pow_pos2 j))
  simp only [dJ, if_true]
  rw [Int.tdiv_eq_ediv_of_nonneg (by omega), ← div_next]
  omega
theorem dn_big {m : Int} (hm : 0 ≤ m ∧ m < 18446744073709551616) {j : Nat} (hj : 64 ≤ j) : m / 2 ^ j = 0 := by
  refine Int.ediv_eq_zero_of_lt hm.1 ?_
  have := pow_mono (m := 1) (by omega) hj
  rw [pow64] at this
  omega
theorem dn_end {a : Bool} {m n : Int} (hk : kc a m = true) (hm : 0 ≤ m ∧ m < 18446744073709551616) : tv a (dJ a m (min n.toNat 70)) (!false) = vl a m / 2 ^ min n.toNat 64 := by
  rw [← shr_v]
  by_cases hl : n.toNat ≤ 64
  · rw [show min n.toNat 70 = n.toNat by omega, show min n.toNat 64 = n.toNat by omega]; rfl
  · rw [show min n.toNat 64 = 64 by omega]
    cases a with
    | false =>
      simp only [dJ, Bool.false_eq_true, if_false, Bool.not_false]
      rw [dn_big hm (by omega), dn_big hm (by omega)]
    | true =>
      have hk : 1 ≤ m ∧ m ≤ 9223372036854775808 := by simpa [kc] using hk
      simp only [dJ, if_true, Bool.not_false]
      rw [dn_big (m := m - 1) (by omega) (by omega), dn_big (m := m - 1) (by omega) (by omega)]
/-! ### The walks -/
theorem mv_shl1 (a : Bool) (m n : Int) (w : World) : Calls Try.prog 28 #[.string ⟨#[60, 60]⟩, .agg #[.bool a, .int .u64 m], .agg #[.bool true, .int .u64 n]] w fun e w' => e = .returned (.tuple #[.agg #[.bool false, .int .u64 0], .int .i64 19]) ∧ Kp w w' := by
  go_enter Try.func28, Try.ntmps28
  go_wp2_with fail
  go_returns
  exact ⟨rfl, (by (repeat (first | exact Kp.refl _ | refine kback (by assumption) ?_ | refine Kp.setCell ?_ (by first | omega | (simp; done) | (simp; omega)) _ | refine Kp.alloc ?_ _ _ | refine Kp.drewN ?_ _ | refine Kp.drew ?_)))⟩
theorem mv_shr1 (a : Bool) (m n : Int) (w : World) : Calls Try.prog 28 #[.string ⟨#[62, 62]⟩, .agg #[.bool a, .int .u64 m], .agg #[.bool true, .int .u64 n]] w fun e w' => e = .returned (.tuple #[.agg #[.bool false, .int .u64 0], .int .i64 19]) ∧ Kp w w' := by
  go_enter Try.func28, Try.ntmps28
  go_wp2_with fail
  go_returns
  exact ⟨rfl, (by (repeat (first | exact Kp.refl _ | refine kback (by assumption) ?_ | refine Kp.setCell ?_ (by first | omega | (simp; done) | (simp; omega)) _ | refine Kp.alloc ?_ _ _ | refine Kp.drewN ?_ _ | refine Kp.drew ?_)))⟩
set_option maxRecDepth 100000 in
set_option maxHeartbeats 6400000 in
theorem mv_shl (a : Bool) (m n : Int) (w : World) (hm : 0 ≤ m ∧ m < 18446744073709551616) (hn : 0 ≤ n ∧ n < 18446744073709551616) : Calls Try.prog 28 #[.string ⟨#[60, 60]⟩, .agg #[.bool a, .int .u64 m], .agg #[.bool false, .int .u64 n]] w fun e w' => e = toldR (vl a m * 2 ^ min n.toNat 64) ∧ Kp w w' := by
  have HM := Lib.hid hm
  have HN := Lib.hid hn
  have hn0 : 0 ≤ n := hn.1
  clear hm hn
  go_enter Try.func28, Try.ntmps28
  go_wp2_with fail
  go_loopw [8, 9] (fun i od wr => ∃ j : Nat, j ≤ 70 ∧ (j : Int) ≤ n ∧ i = .int .u64 j ∧ m * 2 ^ j < 18446744073709551616 ∧ Bx w wr a (m * 2 ^ j) false n) (fun i _ _ => 70 - (intOf i).toNat)
  case atStart => exact ⟨0, by omega, hn0, rfl, by have := HM.out.2; simpa using this, by have := Bx.start w a m false n; simpa using this⟩
  case round =>
    obtain ⟨j, hj, hjn, rfl, hlt, hbx⟩ := hrel
    have hv : 0 ≤ m * 2 ^ j := Int.mul_nonneg HM.out.1 (Int.le_of_lt (pow_pos2 j))
    have HB := Lib.hid hbx
    obtain ⟨c00, c01, c10, c11, c20, c21, f01, f20, f21, kp⟩ := hbx
    by_cases h1 : (j : Int) < n
    · by_cases h2 : (j : Int) < 70
      · by_cases h3 : 18446744073709551616 ≤ m * 2 ^ j + m * 2 ^ j
        · have ho : IntKind.u64.wrap (m * 2 ^ j + m * 2 ^ j) < m * 2 ^ j := by rw [IntKind.wrap_u64]; omega
          have he := Lib.hid (toldR_of (r_none (ft_out (up_no (a := a) HM.out.1 hlt h3 h1))))
          go_wp2_with fail
          refine bodyPost_ret (by simp [results, Try.results28, go_sem, c20, c21]; try rfl) rfl ?_
          exact ⟨he.out.symm, by refine Kp.setCell (Kp.setCell kp ?_ _) ?_ _ <;> (simp; omega)⟩
        · have ho : ¬ IntKind.u64.wrap (m * 2 ^ j + m * 2 ^ j) < m * 2 ^ j := by rw [IntKind.wrap_u64]; omega
          have hw : IntKind.u64.wrap (m * 2 ^ j + m * 2 ^ j) = m * 2 ^ (j + 1) := by rw [up_next hv (by omega), pow_next]
          have hp := Lib.hid (show m * 2 ^ (j + 1) < 18446744073709551616 by rw [← pow_next]; omega)
          have hb2 := Lib.hid (HB.out.set (m * 2 ^ (j + 1)))
          go_wp2_with fail
          go_roundw
          case rel => exact ⟨j + 1, by omega, by omega, by go_num, hp.out, hb2.out⟩
          case measure => simp [intOf]; omega
      · have hj' : j = min n.toNat 70 := by omega
        have he := Lib.hid (toldR_eq (Or.inl (up_end (a := a) (n := n) HM.out.1 hlt hj')))
        clear hj'
        have HV := Lib.hid (show 0 ≤ m * 2 ^ j ∧ m * 2 ^ j < 18446744073709551616 from ⟨hv, hlt⟩)
        go_wp2_with ((go_at_call 27; with_reducible refine (c_toldX a false (m * 2 ^ j) _ HV.out).mono ?_; rintro e w1 ⟨rfl, hk⟩; have hr0 := keepc hk (b := w.heap.size + 1 + 1) (o := 0) (v := .bool false) (by assumption); have hr1 := keepc hk (b := w.heap.size + 1 + 1) (o := 1) (v := .int .u64 0) (by assumption); have g0 : w1.frozen? ⟨w.heap.size + 1 + 1, 0, none⟩ = false := (by rw [hk.frozen]; assumption); have g1 : w1.frozen? ⟨w.heap.size + 1 + 1, 1, none⟩ = false := (by rw [hk.frozen]; assumption)))
        refine bodyPost_ret (by simp [results, Try.results28, go_sem, hr0, hr1]; try rfl) rfl ?_
        exact ⟨he.out, by refine Kp.setCell (Kp.setCell (kp.trans hk) ?_ _) ?_ _ <;> (simp; omega)⟩
    · have hj' : j = min n.toNat 70 := by omega
      have he := Lib.hid (toldR_eq (Or.inl (up_end (a := a) (n := n) HM.out.1 hlt hj')))
      clear hj'
      have HV := Lib.hid (show 0 ≤ m * 2 ^ j ∧ m * 2 ^ j < 18446744073709551616 from ⟨hv, hlt⟩)
      go_wp2_with ((go_at_call 27; with_reducible refine (c_toldX a false (m * 2 ^ j) _ HV.out).mono ?_; rintro e w1 ⟨rfl, hk⟩; have hr0 := keepc hk (b := w.heap.size + 1 + 1) (o := 0) (v := .bool false) (by assumption); have hr1 := keepc hk (b := w.heap.size + 1 + 1) (o := 1) (v := .int .u64 0) (by assumption); have g0 : w1.frozen? ⟨w.heap.size + 1 + 1, 0, none⟩ = false := (by rw [hk.frozen]; assumption); have g1 : w1.frozen? ⟨w.heap.size + 1 + 1, 1, none⟩ = false := (by rw [hk.frozen]; assumption)))
      refine bodyPost_ret (by simp [results, Try.results28, go_sem, hr0, hr1]; try rfl) rfl ?_
      exact ⟨he.out, by refine Kp.setCell (Kp.setCell (kp.trans hk) ?_ _) ?_ _ <;> (simp; omega)⟩
set_option maxRecDepth 100000 in
set_option maxHeartbeats 6400000 in
theorem mv_shr_false (m n : Int) (w : World) (hkk : kc false m = true) (hm : 0 ≤ m ∧ m < 18446744073709551616) (hn : 0 ≤ n ∧ n < 18446744073709551616) : Calls Try.prog 28 #[.string ⟨#[62, 62]⟩, .agg #[.bool false, .int .u64 m], .agg #[.bool false, .int .u64 n]] w fun e w' => e = toldR (vl false m / 2 ^ min n.toNat 64) ∧ Kp w w' := by
  have HM := Lib.hid hm
  have HN := Lib.hid hn
  have HK := Lib.hid hkk
  have hn0 : 0 ≤ n := hn.1
  clear hm hn hkk
  go_enter Try.func28, Try.ntmps28
  go_wp2_with fail
  go_loopw [8, 9] (fun i od wr => ∃ j : Nat, j ≤ 70 ∧ (j : Int) ≤ n ∧ i = .int .u64 j ∧ Bx w wr false (dJ false m j) false n) (fun i _ _ => 70 - (intOf i).toNat)
  case atStart => exact ⟨0, by omega, hn0, rfl, by rw [dJ_0]; exact Bx.start w false m false n⟩
  case round =>
    obtain ⟨j, hj, hjn, rfl, hbx⟩ := hrel
    have hv := dJ_r HK.out HM.out j
    have HV := Lib.hid hv
    have HB := Lib.hid hbx
    obtain ⟨c00, c01, c10, c11, c20, c21, f01, f20, f21, kp⟩ := hbx
    by_cases h1 : (j : Int) < n
    · by_cases h2 : (j : Int) < 70
      · have hw := dJ_pos HM.out.1 j
        have hu : IntKind.u64.wrap (dJ false m (j + 1)) = dJ false m (j + 1) := u64_id (dJ_r HK.out HM.out _)
        have hb2 := Lib.hid (HB.out.set (dJ false m (j + 1)))
        go_wp2_with fail
        go_roundw
        case rel => exact ⟨j + 1, by omega, by omega, by go_num, hb2.out⟩
        case measure => simp [intOf]; omega
      · have he := Lib.hid (toldR_eq (Or.inl (dn_end (n := n) HK.out HM.out)))
        rw [show min n.toNat 70 = j by omega] at he
        go_wp2_with ((go_at_call 27; with_reducible refine (c_toldX false false (dJ false m j) _ HV.out).mono ?_; rintro e w1 ⟨rfl, hk⟩; have hr0 := keepc hk (b := w.heap.size + 1 + 1) (o := 0) (v := .bool false) (by assumption); have hr1 := keepc hk (b := w.heap.size + 1 + 1) (o := 1) (v := .int .u64 0) (by assumption); have g0 : w1.frozen? ⟨w.heap.size + 1 + 1, 0, none⟩ = false := (by rw [hk.frozen]; assumption); have g1 : w1.frozen? ⟨w.heap.size + 1 + 1, 1, none⟩ = false := (by rw [hk.frozen]; assumption)))
        refine bodyPost_ret (by simp [results, Try.results28, go_sem, hr0, hr1]; try rfl) rfl ?_
        exact ⟨he.out, by refine Kp.setCell (Kp.setCell (kp.trans hk) ?_ _) ?_ _ <;> (simp; omega)⟩
    · have he := Lib.hid (toldR_eq (Or.inl (dn_end (n := n) HK.out HM.out)))
      rw [show min n.toNat 70 = j by omega] at he
      go_wp2_with ((go_at_call 27; with_reducible refine (c_toldX false false (dJ false m j) _ HV.out).mono ?_; rintro e w1 ⟨rfl, hk⟩; have hr0 := keepc hk (b := w.heap.size + 1 + 1) (o := 0) (v := .bool false) (by assumption); have hr1 := keepc hk (b := w.heap.size + 1 + 1) (o := 1) (v := .int .u64 0) (by assumption); have g0 : w1.frozen? ⟨w.heap.size + 1 + 1, 0, none⟩ = false := (by rw [hk.frozen]; assumption); have g1 : w1.frozen? ⟨w.heap.size + 1 + 1, 1, none⟩ = false := (by rw [hk.frozen]; assumption)))
      refine bodyPost_ret (by simp [results, Try.results28, go_sem, hr0, hr1]; try rfl) rfl ?_
      exact ⟨he.out, by refine Kp.setCell (Kp.setCell (kp.trans hk) ?_ _) ?_ _ <;> (simp; omega)⟩
set_option maxRecDepth 100000 in
set_option maxHeartbeats 6400000 in
theorem mv_shr_true (m n : Int) (w : World) (hkk : kc true m = true) (hm : 0 ≤ m ∧ m < 18446744073709551616) (hn : 0 ≤ n ∧ n < 18446744073709551616) : Calls Try.prog 28 #[.string ⟨#[62, 62]⟩, .agg #[.bool true, .int .u64 m], .agg #[.bool false, .int .u64 n]] w fun e w' => e = toldR (vl true m / 2 ^ min n.toNat 64) ∧ Kp w w' := by
  have HM := Lib.hid hm
  have HN := Lib.hid hn
  have HK := Lib.hid hkk
  have hn0 : 0 ≤ n := hn.1
  clear hm hn hkk
  go_enter Try.func28, Try.ntmps28
  go_wp2_with fail
  go_loopw [8, 9] (fun i od wr => ∃ j : Nat, j ≤ 70 ∧ (j : Int) ≤ n ∧ i = .int .u64 j ∧ Bx w wr true (dJ true m j) false n) (fun i _ _ => 70 - (intOf i).toNat)
  case atStart => exact ⟨0, by omega, hn0, rfl, by rw [dJ_0]; exact Bx.start w true m false n⟩
  case round =>
    obtain ⟨j, hj, hjn, rfl, hbx⟩ := hrel
    have hv := dJ_r HK.out HM.out j
    have HV := Lib.hid hv
    have HB := Lib.hid hbx
    obtain ⟨c00, c01, c10, c11, c20, c21, f01, f20, f21, kp⟩ := hbx
    by_cases h1 : (j : Int) < n
    · by_cases h2 : (j : Int) < 70
      · have hk1 : 1 ≤ m ∧ m ≤ 9223372036854775808 := by have := HK.out; simpa [kc] using this
        have hw := dJ_neg hk1.1 j
        have hr2 : 0 ≤ (dJ true m j).tdiv 2 ∧ (dJ true m j).tdiv 2 < 18446744073709551616 := by rw [Int.tdiv_eq_ediv_of_nonneg hv.1]; omega
        have hu : IntKind.u64.wrap ((dJ true m j).tdiv 2) = (dJ true m j).tdiv 2 := u64_id hr2
        have hu2 : IntKind.u64.wrap ((dJ true m j).tdiv 2 + dJ true m j % 2) = dJ true m (j + 1) := by rw [hw]; exact u64_id (dJ_r HK.out HM.out _)
        have hb1 := HB.out.set ((dJ true m j).tdiv 2)
        have hb2 := Lib.hid (hb1.set (dJ true m (j + 1)))
        obtain ⟨d00, d01, d10, d11, d20, d21, g01, g20, g21, kp1⟩ := hb1
        clear hk1 hw hr2
        go_wp2_with fail
        go_roundw
        case rel => exact ⟨j + 1, by omega, by omega, by go_num, hb2.out⟩
        case measure => simp [intOf]; omega
      · have he := Lib.hid (toldR_eq (Or.inl (dn_end (n := n) HK.out HM.out)))
        rw [show min n.toNat 70 = j by omega] at he
        go_wp2_with ((go_at_call 27; with_reducible refine (c_toldX true false (dJ true m j) _ HV.out).mono ?_; rintro e w1 ⟨rfl, hk⟩; have hr0 := keepc hk (b := w.heap.size + 1 + 1) (o := 0) (v := .bool false) (by assumption); have hr1 := keepc hk (b := w.heap.size + 1 + 1) (o := 1) (v := .int .u64 0) (by assumption); have g0 : w1.frozen? ⟨w.heap.size + 1 + 1, 0, none⟩ = false := (by rw [hk.frozen]; assumption); have g1 : w1.frozen? ⟨w.heap.size + 1 + 1, 1, none⟩ = false := (by rw [hk.frozen]; assumption)))
        refine bodyPost_ret (by simp [results, Try.results28, go_sem, hr0, hr1]; try rfl) rfl ?_
        exact ⟨he.out, by refine Kp.setCell (Kp.setCell (kp.trans hk) ?_ _) ?_ _ <;> (simp; omega)⟩
    · have he := Lib.hid (toldR_eq (Or.inl (dn_end (n := n) HK.out HM.out)))
      rw [show min n.toNat 70 = j by omega] at he
      go_wp2_with ((go_at_call 27; with_reducible refine (c_toldX true false (dJ true m j) _ HV.out).mono ?_; rintro e w1 ⟨rfl, hk⟩; have hr0 := keepc hk (b := w.heap.size + 1 + 1) (o := 0) (v := .bool false) (by assumption); have hr1 := keepc hk (b := w.heap.size + 1 + 1) (o := 1) (v := .int .u64 0) (by assumption); have g0 : w1.frozen? ⟨w.heap.size + 1 + 1, 0, none⟩ = false := (by rw [hk.frozen]; assumption); have g1 : w1.frozen? ⟨w.heap.size + 1 + 1, 1, none⟩ = false := (by rw [hk.frozen]; assumption)))
      refine bodyPost_ret (by simp [results, Try.results28, go_sem, hr0, hr1]; try rfl) rfl ?_
      exact ⟨he.out, by refine Kp.setCell (Kp.setCell (kp.trans hk) ?_ _) ?_ _ <;> (simp; omega)⟩
end Go.Proofs.Ytihchlkoohficaa
