/- What text and number an operator's node must have, in the reference: label. Condition: the node lies in memory. -/
import Derived.Test.YtefanekfelokmaaG4
namespace Go.Proofs.Ytefanekfelokmaa
open Go.RowKit
set_option linter.unusedVariables false
set_option linter.unusedSimpArgs false
/-- An operator of one or of two, in the reference. -/
noncomputable def lab33 (tx : ByteArray) (n : Int) (ll : Nat) : Bool := decide (n = 0) && ((decide (ll = 1) && inB ops1 tx) || (decide (ll = 2) && inB ops2 tx))
set_option maxHeartbeats 3200000 in
set_option maxRecDepth 100000 in
theorem label_minus (n at_ : Int) (la : Option Addr) (ll lc : Nat) (w : World) (hbl : ll ≤ 4398046511104) :
    Calls Try.prog 38 #[.agg #[.int .i64 33, .string ⟨#[45]⟩, .int .u64 n, .int .i64 at_, .slice la ll lc]] w fun e w' => e = .returned (.bool (lab33 ⟨#[45]⟩ n ll)) ∧ Kp w w' := by
  have hs : (⟨#[45]⟩ : ByteArray).size ≤ 140737488351232 := (show (1 : Nat) ≤ 140737488351232 by omega)
  have h1 : inB ops1 ⟨#[45]⟩ = true := inB_yes (by simp [ops1])
  have hS : inB ops2 ⟨#[45]⟩ = true := inB_yes (by simp [ops2])
  by_cases h0 : n = 0
  · have e0 : (n == 0) = true := beq_iff_eq.2 h0
    have hc : ll = 1 ∨ ll = 2 ∨ (ll ≠ 1 ∧ ll ≠ 2) := by omega
    rcases hc with h | h | h
    · have hv := Lib.hid (show lab33 ⟨#[45]⟩ n ll = true by unfold lab33; rw [decide_eq_true h0, decide_eq_true h, decide_eq_false (show ¬ ll = 2 by omega), h1]; rfl)
      have f0 : ((ll : Int) == 1) = true := beq_iff_eq.2 (by omega)
      have f1 : ((ll : Int) == 2) = false := beq_eq_false_iff_ne.2 (by omega)
      clear h h0
      go_enter Try.func38, Try.ntmps38
      go_wp2_with (first | (go_at_call 45; (with_reducible refine (c_rName ⟨#[45]⟩ _ hs).mono ?_); rintro e w1 ⟨rfl, hk1⟩; have bb := boxed (w := w) (h := ⟨33, ⟨#[45]⟩, n, at_, la, ll, lc⟩) (show Kp _ w1 by (repeat (first | with_reducible exact Kp.refl _ | with_reducible refine Kp.alloc ?_ _ | with_reducible refine Kp.drew ?_ | with_reducible refine Kp.back (by assumption) ?_))); simp only at bb; obtain ⟨b0, b1, b2, b3, b4, bs⟩ := bb) | (go_at_call 46; (with_reducible refine (c_Strength ⟨#[45]⟩ _).mono ?_); rintro e w2 ⟨⟨mm, rfl, hmm⟩, rfl⟩; rw [hS] at hmm))
      go_ret
      exact ⟨ret_boolA hv.out.symm, by (repeat (first | with_reducible exact Kp.refl _ | with_reducible refine Kp.alloc ?_ _ | with_reducible refine Kp.drew ?_ | with_reducible refine Kp.back (by assumption) ?_))⟩
    · have hv := Lib.hid (show lab33 ⟨#[45]⟩ n ll = true by unfold lab33; rw [decide_eq_true h0, decide_eq_true h, decide_eq_false (show ¬ ll = 1 by omega), hS]; rfl)
      have f0 : ((ll : Int) == 1) = false := beq_eq_false_iff_ne.2 (by omega)
      have f1 : ((ll : Int) == 2) = true := beq_iff_eq.2 (by omega)
      clear h h0
      go_enter Try.func38, Try.ntmps38
      go_wp2_with (first | (go_at_call 45; (with_reducible refine (c_rName ⟨#[45]⟩ _ hs).mono ?_); rintro e w1 ⟨rfl, hk1⟩; have bb := boxed (w := w) (h := ⟨33, ⟨#[45]⟩, n, at_, la, ll, lc⟩) (show Kp _ w1 by (repeat (first | with_reducible exact Kp.refl _ | with_reducible refine Kp.alloc ?_ _ | with_reducible refine Kp.drew ?_ | with_reducible refine Kp.back (by assumption) ?_))); simp only at bb; obtain ⟨b0, b1, b2, b3, b4, bs⟩ := bb) | (go_at_call 46; (with_reducible refine (c_Strength ⟨#[45]⟩ _).mono ?_); rintro e w2 ⟨⟨mm, rfl, hmm⟩, rfl⟩; rw [hS] at hmm))
      go_ret
      exact ⟨ret_boolA hv.out.symm, by (repeat (first | with_reducible exact Kp.refl _ | with_reducible refine Kp.alloc ?_ _ | with_reducible refine Kp.drew ?_ | with_reducible refine Kp.back (by assumption) ?_))⟩
    · have hv := Lib.hid (show lab33 ⟨#[45]⟩ n ll = false by unfold lab33; rw [decide_eq_true h0, decide_eq_false h.1, decide_eq_false h.2]; rfl)
      have f0 : ((ll : Int) == 1) = false := beq_eq_false_iff_ne.2 (by omega)
      have f1 : ((ll : Int) == 2) = false := beq_eq_false_iff_ne.2 (by omega)
      clear h h0
      go_enter Try.func38, Try.ntmps38
      go_wp2_with (first | (go_at_call 45; (with_reducible refine (c_rName ⟨#[45]⟩ _ hs).mono ?_); rintro e w1 ⟨rfl, hk1⟩; have bb := boxed (w := w) (h := ⟨33, ⟨#[45]⟩, n, at_, la, ll, lc⟩) (show Kp _ w1 by (repeat (first | with_reducible exact Kp.refl _ | with_reducible refine Kp.alloc ?_ _ | with_reducible refine Kp.drew ?_ | with_reducible refine Kp.back (by assumption) ?_))); simp only at bb; obtain ⟨b0, b1, b2, b3, b4, bs⟩ := bb) | (go_at_call 46; (with_reducible refine (c_Strength ⟨#[45]⟩ _).mono ?_); rintro e w2 ⟨⟨mm, rfl, hmm⟩, rfl⟩; rw [hS] at hmm))
      go_ret
      exact ⟨ret_boolA hv.out.symm, by (repeat (first | with_reducible exact Kp.refl _ | with_reducible refine Kp.alloc ?_ _ | with_reducible refine Kp.drew ?_ | with_reducible refine Kp.back (by assumption) ?_))⟩
  · have hv := Lib.hid (show lab33 ⟨#[45]⟩ n ll = false by unfold lab33; rw [decide_eq_false h0, Bool.false_and])
    have e0 : (n == 0) = false := beq_eq_false_iff_ne.2 h0
    clear h0
    go_enter Try.func38, Try.ntmps38
    go_wp2_with (first | (go_at_call 45; (with_reducible refine (c_rName ⟨#[45]⟩ _ hs).mono ?_); rintro e w1 ⟨rfl, hk1⟩; have bb := boxed (w := w) (h := ⟨33, ⟨#[45]⟩, n, at_, la, ll, lc⟩) (show Kp _ w1 by (repeat (first | with_reducible exact Kp.refl _ | with_reducible refine Kp.alloc ?_ _ | with_reducible refine Kp.drew ?_ | with_reducible refine Kp.back (by assumption) ?_))); simp only at bb; obtain ⟨b0, b1, b2, b3, b4, bs⟩ := bb) | (go_at_call 46; (with_reducible refine (c_Strength ⟨#[45]⟩ _).mono ?_); rintro e w2 ⟨⟨mm, rfl, hmm⟩, rfl⟩; rw [hS] at hmm))
    go_ret
    exact ⟨ret_boolA hv.out.symm, by (repeat (first | with_reducible exact Kp.refl _ | with_reducible refine Kp.alloc ?_ _ | with_reducible refine Kp.drew ?_ | with_reducible refine Kp.back (by assumption) ?_))⟩
set_option maxHeartbeats 3200000 in
set_option maxRecDepth 100000 in
theorem label_hat (n at_ : Int) (la : Option Addr) (ll lc : Nat) (w : World) (hbl : ll ≤ 4398046511104) :
    Calls Try.prog 38 #[.agg #[.int .i64 33, .string ⟨#[94]⟩, .int .u64 n, .int .i64 at_, .slice la ll lc]] w fun e w' => e = .returned (.bool (lab33 ⟨#[94]⟩ n ll)) ∧ Kp w w' := by
  have hs : (⟨#[94]⟩ : ByteArray).size ≤ 140737488351232 := (show (1 : Nat) ≤ 140737488351232 by omega)
  have h1 : inB ops1 ⟨#[94]⟩ = true := inB_yes (by simp [ops1])
  have hS : inB ops2 ⟨#[94]⟩ = true := inB_yes (by simp [ops2])
  by_cases h0 : n = 0
  · have e0 : (n == 0) = true := beq_iff_eq.2 h0
    have hc : ll = 1 ∨ ll = 2 ∨ (ll ≠ 1 ∧ ll ≠ 2) := by omega
    rcases hc with h | h | h
    · have hv := Lib.hid (show lab33 ⟨#[94]⟩ n ll = true by unfold lab33; rw [decide_eq_true h0, decide_eq_true h, decide_eq_false (show ¬ ll = 2 by omega), h1]; rfl)
      have f0 : ((ll : Int) == 1) = true := beq_iff_eq.2 (by omega)
      have f1 : ((ll : Int) == 2) = false := beq_eq_false_iff_ne.2 (by omega)
      clear h h0
      go_enter Try.func38, Try.ntmps38
      go_wp2_with (first | (go_at_call 45; (with_reducible refine (c_rName ⟨#[94]⟩ _ hs).mono ?_); rintro e w1 ⟨rfl, hk1⟩; have bb := boxed (w := w) (h := ⟨33, ⟨#[94]⟩, n, at_, la, ll, lc⟩) (show Kp _ w1 by (repeat (first | with_reducible exact Kp.refl _ | with_reducible refine Kp.alloc ?_ _ | with_reducible refine Kp.drew ?_ | with_reducible refine Kp.back (by assumption) ?_))); simp only at bb; obtain ⟨b0, b1, b2, b3, b4, bs⟩ := bb) | (go_at_call 46; (with_reducible refine (c_Strength ⟨#[94]⟩ _).mono ?_); rintro e w2 ⟨⟨mm, rfl, hmm⟩, rfl⟩; rw [hS] at hmm))
      go_ret
      exact ⟨ret_boolA hv.out.symm, by (repeat (first | with_reducible exact Kp.refl _ | with_reducible refine Kp.alloc ?_ _ | with_reducible refine Kp.drew ?_ | with_reducible refine Kp.back (by assumption) ?_))⟩
    · have hv := Lib.hid (show lab33 ⟨#[94]⟩ n ll = true by unfold lab33; rw [decide_eq_true h0, decide_eq_true h, decide_eq_false (show ¬ ll = 1 by omega), hS]; rfl)
      have f0 : ((ll : Int) == 1) = false := beq_eq_false_iff_ne.2 (by omega)
      have f1 : ((ll : Int) == 2) = true := beq_iff_eq.2 (by omega)
      clear h h0
      go_enter Try.func38, Try.ntmps38
      go_wp2_with (first | (go_at_call 45; (with_reducible refine (c_rName ⟨#[94]⟩ _ hs).mono ?_); rintro e w1 ⟨rfl, hk1⟩; have bb := boxed (w := w) (h := ⟨33, ⟨#[94]⟩, n, at_, la, ll, lc⟩) (show Kp _ w1 by (repeat (first | with_reducible exact Kp.refl _ | with_reducible refine Kp.alloc ?_ _ | with_reducible refine Kp.drew ?_ | with_reducible refine Kp.back (by assumption) ?_))); simp only at bb; obtain ⟨b0, b1, b2, b3, b4, bs⟩ := bb) | (go_at_call 46; (with_reducible refine (c_Strength ⟨#[94]⟩ _).mono ?_); rintro e w2 ⟨⟨mm, rfl, hmm⟩, rfl⟩; rw [hS] at hmm))
      go_ret
      exact ⟨ret_boolA hv.out.symm, by (repeat (first | with_reducible exact Kp.refl _ | with_reducible refine Kp.alloc ?_ _ | with_reducible refine Kp.drew ?_ | with_reducible refine Kp.back (by assumption) ?_))⟩
    · have hv := Lib.hid (show lab33 ⟨#[94]⟩ n ll = false by unfold lab33; rw [decide_eq_true h0, decide_eq_false h.1, decide_eq_false h.2]; rfl)
      have f0 : ((ll : Int) == 1) = false := beq_eq_false_iff_ne.2 (by omega)
      have f1 : ((ll : Int) == 2) = false := beq_eq_false_iff_ne.2 (by omega)
      clear h h0
      go_enter Try.func38, Try.ntmps38
      go_wp2_with (first | (go_at_call 45; (with_reducible refine (c_rName ⟨#[94]⟩ _ hs).mono ?_); rintro e w1 ⟨rfl, hk1⟩; have bb := boxed (w := w) (h := ⟨33, ⟨#[94]⟩, n, at_, la, ll, lc⟩) (show Kp _ w1 by (repeat (first | with_reducible exact Kp.refl _ | with_reducible refine Kp.alloc ?_ _ | with_reducible refine Kp.drew ?_ | with_reducible refine Kp.back (by assumption) ?_))); simp only at bb; obtain ⟨b0, b1, b2, b3, b4, bs⟩ := bb) | (go_at_call 46; (with_reducible refine (c_Strength ⟨#[94]⟩ _).mono ?_); rintro e w2 ⟨⟨mm, rfl, hmm⟩, rfl⟩; rw [hS] at hmm))
      go_ret
      exact ⟨ret_boolA hv.out.symm, by (repeat (first | with_reducible exact Kp.refl _ | with_reducible refine Kp.alloc ?_ _ | with_reducible refine Kp.drew ?_ | with_reducible refine Kp.back (by assumption) ?_))⟩
  · have hv := Lib.hid (show lab33 ⟨#[94]⟩ n ll = false by unfold lab33; rw [decide_eq_false h0, Bool.false_and])
    have e0 : (n == 0) = false := beq_eq_false_iff_ne.2 h0
    clear h0
    go_enter Try.func38, Try.ntmps38
    go_wp2_with (first | (go_at_call 45; (with_reducible refine (c_rName ⟨#[94]⟩ _ hs).mono ?_); rintro e w1 ⟨rfl, hk1⟩; have bb := boxed (w := w) (h := ⟨33, ⟨#[94]⟩, n, at_, la, ll, lc⟩) (show Kp _ w1 by (repeat (first | with_reducible exact Kp.refl _ | with_reducible refine Kp.alloc ?_ _ | with_reducible refine Kp.drew ?_ | with_reducible refine Kp.back (by assumption) ?_))); simp only at bb; obtain ⟨b0, b1, b2, b3, b4, bs⟩ := bb) | (go_at_call 46; (with_reducible refine (c_Strength ⟨#[94]⟩ _).mono ?_); rintro e w2 ⟨⟨mm, rfl, hmm⟩, rfl⟩; rw [hS] at hmm))
    go_ret
    exact ⟨ret_boolA hv.out.symm, by (repeat (first | with_reducible exact Kp.refl _ | with_reducible refine Kp.alloc ?_ _ | with_reducible refine Kp.drew ?_ | with_reducible refine Kp.back (by assumption) ?_))⟩
set_option maxHeartbeats 3200000 in
set_option maxRecDepth 100000 in
theorem label_bang (n at_ : Int) (la : Option Addr) (ll lc : Nat) (w : World) (hbl : ll ≤ 4398046511104) :
    Calls Try.prog 38 #[.agg #[.int .i64 33, .string ⟨#[33]⟩, .int .u64 n, .int .i64 at_, .slice la ll lc]] w fun e w' => e = .returned (.bool (lab33 ⟨#[33]⟩ n ll)) ∧ Kp w w' := by
  have hs : (⟨#[33]⟩ : ByteArray).size ≤ 140737488351232 := (show (1 : Nat) ≤ 140737488351232 by omega)
  have h1 : inB ops1 ⟨#[33]⟩ = true := inB_yes (by simp [ops1])
  have hS : inB ops2 ⟨#[33]⟩ = false := inB_no (by simp only [ops2, List.mem_cons, List.not_mem_nil, or_false]; decide)
  by_cases h0 : n = 0
  · have e0 : (n == 0) = true := beq_iff_eq.2 h0
    have hc : ll = 1 ∨ ll = 2 ∨ (ll ≠ 1 ∧ ll ≠ 2) := by omega
    rcases hc with h | h | h
    · have hv := Lib.hid (show lab33 ⟨#[33]⟩ n ll = true by unfold lab33; rw [decide_eq_true h0, decide_eq_true h, decide_eq_false (show ¬ ll = 2 by omega), h1]; rfl)
      have f0 : ((ll : Int) == 1) = true := beq_iff_eq.2 (by omega)
      have f1 : ((ll : Int) == 2) = false := beq_eq_false_iff_ne.2 (by omega)
      clear h h0
      go_enter Try.func38, Try.ntmps38
      go_wp2_with (first | (go_at_call 45; (with_reducible refine (c_rName ⟨#[33]⟩ _ hs).mono ?_); rintro e w1 ⟨rfl, hk1⟩; have bb := boxed (w := w) (h := ⟨33, ⟨#[33]⟩, n, at_, la, ll, lc⟩) (show Kp _ w1 by (repeat (first | with_reducible exact Kp.refl _ | with_reducible refine Kp.alloc ?_ _ | with_reducible refine Kp.drew ?_ | with_reducible refine Kp.back (by assumption) ?_))); simp only at bb; obtain ⟨b0, b1, b2, b3, b4, bs⟩ := bb) | (go_at_call 46; (with_reducible refine (c_Strength ⟨#[33]⟩ _).mono ?_); rintro e w2 ⟨⟨mm, rfl, hmm⟩, rfl⟩; rw [hS] at hmm))
      go_ret
      exact ⟨ret_boolA hv.out.symm, by (repeat (first | with_reducible exact Kp.refl _ | with_reducible refine Kp.alloc ?_ _ | with_reducible refine Kp.drew ?_ | with_reducible refine Kp.back (by assumption) ?_))⟩
    · have hv := Lib.hid (show lab33 ⟨#[33]⟩ n ll = false by unfold lab33; rw [decide_eq_true h0, decide_eq_true h, decide_eq_false (show ¬ ll = 1 by omega), hS]; rfl)
      have f0 : ((ll : Int) == 1) = false := beq_eq_false_iff_ne.2 (by omega)
      have f1 : ((ll : Int) == 2) = true := beq_iff_eq.2 (by omega)
      clear h h0
      go_enter Try.func38, Try.ntmps38
      go_wp2_with (first | (go_at_call 45; (with_reducible refine (c_rName ⟨#[33]⟩ _ hs).mono ?_); rintro e w1 ⟨rfl, hk1⟩; have bb := boxed (w := w) (h := ⟨33, ⟨#[33]⟩, n, at_, la, ll, lc⟩) (show Kp _ w1 by (repeat (first | with_reducible exact Kp.refl _ | with_reducible refine Kp.alloc ?_ _ | with_reducible refine Kp.drew ?_ | with_reducible refine Kp.back (by assumption) ?_))); simp only at bb; obtain ⟨b0, b1, b2, b3, b4, bs⟩ := bb) | (go_at_call 46; (with_reducible refine (c_Strength ⟨#[33]⟩ _).mono ?_); rintro e w2 ⟨⟨mm, rfl, hmm⟩, rfl⟩; rw [hS] at hmm))
      go_ret
      exact ⟨ret_boolA hv.out.symm, by (repeat (first | with_reducible exact Kp.refl _ | with_reducible refine Kp.alloc ?_ _ | with_reducible refine Kp.drew ?_ | with_reducible refine Kp.back (by assumption) ?_))⟩
    · have hv := Lib.hid (show lab33 ⟨#[33]⟩ n ll = false by unfold lab33; rw [decide_eq_true h0, decide_eq_false h.1, decide_eq_false h.2]; rfl)
      have f0 : ((ll : Int) == 1) = false := beq_eq_false_iff_ne.2 (by omega)
      have f1 : ((ll : Int) == 2) = false := beq_eq_false_iff_ne.2 (by omega)
      clear h h0
      go_enter Try.func38, Try.ntmps38
      go_wp2_with (first | (go_at_call 45; (with_reducible refine (c_rName ⟨#[33]⟩ _ hs).mono ?_); rintro e w1 ⟨rfl, hk1⟩; have bb := boxed (w := w) (h := ⟨33, ⟨#[33]⟩, n, at_, la, ll, lc⟩) (show Kp _ w1 by (repeat (first | with_reducible exact Kp.refl _ | with_reducible refine Kp.alloc ?_ _ | with_reducible refine Kp.drew ?_ | with_reducible refine Kp.back (by assumption) ?_))); simp only at bb; obtain ⟨b0, b1, b2, b3, b4, bs⟩ := bb) | (go_at_call 46; (with_reducible refine (c_Strength ⟨#[33]⟩ _).mono ?_); rintro e w2 ⟨⟨mm, rfl, hmm⟩, rfl⟩; rw [hS] at hmm))
      go_ret
      exact ⟨ret_boolA hv.out.symm, by (repeat (first | with_reducible exact Kp.refl _ | with_reducible refine Kp.alloc ?_ _ | with_reducible refine Kp.drew ?_ | with_reducible refine Kp.back (by assumption) ?_))⟩
  · have hv := Lib.hid (show lab33 ⟨#[33]⟩ n ll = false by unfold lab33; rw [decide_eq_false h0, Bool.false_and])
    have e0 : (n == 0) = false := beq_eq_false_iff_ne.2 h0
    clear h0
    go_enter Try.func38, Try.ntmps38
    go_wp2_with (first | (go_at_call 45; (with_reducible refine (c_rName ⟨#[33]⟩ _ hs).mono ?_); rintro e w1 ⟨rfl, hk1⟩; have bb := boxed (w := w) (h := ⟨33, ⟨#[33]⟩, n, at_, la, ll, lc⟩) (show Kp _ w1 by (repeat (first | with_reducible exact Kp.refl _ | with_reducible refine Kp.alloc ?_ _ | with_reducible refine Kp.drew ?_ | with_reducible refine Kp.back (by assumption) ?_))); simp only at bb; obtain ⟨b0, b1, b2, b3, b4, bs⟩ := bb) | (go_at_call 46; (with_reducible refine (c_Strength ⟨#[33]⟩ _).mono ?_); rintro e w2 ⟨⟨mm, rfl, hmm⟩, rfl⟩; rw [hS] at hmm))
    go_ret
    exact ⟨ret_boolA hv.out.symm, by (repeat (first | with_reducible exact Kp.refl _ | with_reducible refine Kp.alloc ?_ _ | with_reducible refine Kp.drew ?_ | with_reducible refine Kp.back (by assumption) ?_))⟩
set_option maxHeartbeats 3200000 in
set_option maxRecDepth 100000 in
theorem label_op_true (tx : ByteArray) (n at_ : Int) (la : Option Addr) (ll lc : Nat) (w : World) (hbl : ll ≤ 4398046511104) (hs : tx.size ≤ 140737488351232) (hm : tx ∉ ops1) (hS : inB ops2 tx = true) :
    Calls Try.prog 38 #[.agg #[.int .i64 33, .string tx, .int .u64 n, .int .i64 at_, .slice la ll lc]] w fun e w' => e = .returned (.bool (lab33 tx n ll)) ∧ Kp w w' := by
  have h1 : inB ops1 tx = false := inB_no hm
  simp only [ops1, List.mem_cons, List.not_mem_nil, or_false, not_or] at hm
  have g1 : (tx.toList == [45]) = false := ne_list hm.1
  have g2 : (tx.toList == [94]) = false := ne_list hm.2.1
  have g3 : (tx.toList == [33]) = false := ne_list hm.2.2
  clear hm
  by_cases h0 : n = 0
  · have e0 : (n == 0) = true := beq_iff_eq.2 h0
    have hc : ll = 1 ∨ ll = 2 ∨ (ll ≠ 1 ∧ ll ≠ 2) := by omega
    rcases hc with h | h | h
    · have hv := Lib.hid (show lab33 tx n ll = false by unfold lab33; rw [decide_eq_true h0, decide_eq_true h, decide_eq_false (show ¬ ll = 2 by omega), h1]; rfl)
      have f0 : ((ll : Int) == 1) = true := beq_iff_eq.2 (by omega)
      have f1 : ((ll : Int) == 2) = false := beq_eq_false_iff_ne.2 (by omega)
      clear h h0
      go_enter Try.func38, Try.ntmps38
      go_wp2_with (first | (go_at_call 45; (with_reducible refine (c_rName tx _ hs).mono ?_); rintro e w1 ⟨rfl, hk1⟩; have bb := boxed (w := w) (h := ⟨33, tx, n, at_, la, ll, lc⟩) (show Kp _ w1 by (repeat (first | with_reducible exact Kp.refl _ | with_reducible refine Kp.alloc ?_ _ | with_reducible refine Kp.drew ?_ | with_reducible refine Kp.back (by assumption) ?_))); simp only at bb; obtain ⟨b0, b1, b2, b3, b4, bs⟩ := bb) | (go_at_call 46; (with_reducible refine (c_Strength tx _).mono ?_); rintro e w2 ⟨⟨mm, rfl, hmm⟩, rfl⟩; rw [hS] at hmm))
      go_ret
      exact ⟨ret_boolA hv.out.symm, by (repeat (first | with_reducible exact Kp.refl _ | with_reducible refine Kp.alloc ?_ _ | with_reducible refine Kp.drew ?_ | with_reducible refine Kp.back (by assumption) ?_))⟩
    · have hv := Lib.hid (show lab33 tx n ll = true by unfold lab33; rw [decide_eq_true h0, decide_eq_true h, decide_eq_false (show ¬ ll = 1 by omega), hS]; rfl)
      have f0 : ((ll : Int) == 1) = false := beq_eq_false_iff_ne.2 (by omega)
      have f1 : ((ll : Int) == 2) = true := beq_iff_eq.2 (by omega)
      clear h h0
      go_enter Try.func38, Try.ntmps38
      go_wp2_with (first | (go_at_call 45; (with_reducible refine (c_rName tx _ hs).mono ?_); rintro e w1 ⟨rfl, hk1⟩; have bb := boxed (w := w) (h := ⟨33, tx, n, at_, la, ll, lc⟩) (show Kp _ w1 by (repeat (first | with_reducible exact Kp.refl _ | with_reducible refine Kp.alloc ?_ _ | with_reducible refine Kp.drew ?_ | with_reducible refine Kp.back (by assumption) ?_))); simp only at bb; obtain ⟨b0, b1, b2, b3, b4, bs⟩ := bb) | (go_at_call 46; (with_reducible refine (c_Strength tx _).mono ?_); rintro e w2 ⟨⟨mm, rfl, hmm⟩, rfl⟩; rw [hS] at hmm))
      go_ret
      exact ⟨ret_boolA hv.out.symm, by (repeat (first | with_reducible exact Kp.refl _ | with_reducible refine Kp.alloc ?_ _ | with_reducible refine Kp.drew ?_ | with_reducible refine Kp.back (by assumption) ?_))⟩
    · have hv := Lib.hid (show lab33 tx n ll = false by unfold lab33; rw [decide_eq_true h0, decide_eq_false h.1, decide_eq_false h.2]; rfl)
      have f0 : ((ll : Int) == 1) = false := beq_eq_false_iff_ne.2 (by omega)
      have f1 : ((ll : Int) == 2) = false := beq_eq_false_iff_ne.2 (by omega)
      clear h h0
      go_enter Try.func38, Try.ntmps38
      go_wp2_with (first | (go_at_call 45; (with_reducible refine (c_rName tx _ hs).mono ?_); rintro e w1 ⟨rfl, hk1⟩; have bb := boxed (w := w) (h := ⟨33, tx, n, at_, la, ll, lc⟩) (show Kp _ w1 by (repeat (first | with_reducible exact Kp.refl _ | with_reducible refine Kp.alloc ?_ _ | with_reducible refine Kp.drew ?_ | with_reducible refine Kp.back (by assumption) ?_))); simp only at bb; obtain ⟨b0, b1, b2, b3, b4, bs⟩ := bb) | (go_at_call 46; (with_reducible refine (c_Strength tx _).mono ?_); rintro e w2 ⟨⟨mm, rfl, hmm⟩, rfl⟩; rw [hS] at hmm))
      go_ret
      exact ⟨ret_boolA hv.out.symm, by (repeat (first | with_reducible exact Kp.refl _ | with_reducible refine Kp.alloc ?_ _ | with_reducible refine Kp.drew ?_ | with_reducible refine Kp.back (by assumption) ?_))⟩
  · have hv := Lib.hid (show lab33 tx n ll = false by unfold lab33; rw [decide_eq_false h0, Bool.false_and])
    have e0 : (n == 0) = false := beq_eq_false_iff_ne.2 h0
    clear h0
    go_enter Try.func38, Try.ntmps38
    go_wp2_with (first | (go_at_call 45; (with_reducible refine (c_rName tx _ hs).mono ?_); rintro e w1 ⟨rfl, hk1⟩; have bb := boxed (w := w) (h := ⟨33, tx, n, at_, la, ll, lc⟩) (show Kp _ w1 by (repeat (first | with_reducible exact Kp.refl _ | with_reducible refine Kp.alloc ?_ _ | with_reducible refine Kp.drew ?_ | with_reducible refine Kp.back (by assumption) ?_))); simp only at bb; obtain ⟨b0, b1, b2, b3, b4, bs⟩ := bb) | (go_at_call 46; (with_reducible refine (c_Strength tx _).mono ?_); rintro e w2 ⟨⟨mm, rfl, hmm⟩, rfl⟩; rw [hS] at hmm))
    go_ret
    exact ⟨ret_boolA hv.out.symm, by (repeat (first | with_reducible exact Kp.refl _ | with_reducible refine Kp.alloc ?_ _ | with_reducible refine Kp.drew ?_ | with_reducible refine Kp.back (by assumption) ?_))⟩
set_option maxHeartbeats 3200000 in
set_option maxRecDepth 100000 in
theorem label_op_false (tx : ByteArray) (n at_ : Int) (la : Option Addr) (ll lc : Nat) (w : World) (hbl : ll ≤ 4398046511104) (hs : tx.size ≤ 140737488351232) (hm : tx ∉ ops1) (hS : inB ops2 tx = false) :
    Calls Try.prog 38 #[.agg #[.int .i64 33, .string tx, .int .u64 n, .int .i64 at_, .slice la ll lc]] w fun e w' => e = .returned (.bool (lab33 tx n ll)) ∧ Kp w w' := by
  have h1 : inB ops1 tx = false := inB_no hm
  simp only [ops1, List.mem_cons, List.not_mem_nil, or_false, not_or] at hm
  have g1 : (tx.toList == [45]) = false := ne_list hm.1
  have g2 : (tx.toList == [94]) = false := ne_list hm.2.1
  have g3 : (tx.toList == [33]) = false := ne_list hm.2.2
  clear hm
  by_cases h0 : n = 0
  · have e0 : (n == 0) = true := beq_iff_eq.2 h0
    have hc : ll = 1 ∨ ll = 2 ∨ (ll ≠ 1 ∧ ll ≠ 2) := by omega
    rcases hc with h | h | h
    · have hv := Lib.hid (show lab33 tx n ll = false by unfold lab33; rw [decide_eq_true h0, decide_eq_true h, decide_eq_false (show ¬ ll = 2 by omega), h1]; rfl)
      have f0 : ((ll : Int) == 1) = true := beq_iff_eq.2 (by omega)
      have f1 : ((ll : Int) == 2) = false := beq_eq_false_iff_ne.2 (by omega)
      clear h h0
      go_enter Try.func38, Try.ntmps38
      go_wp2_with (first | (go_at_call 45; (with_reducible refine (c_rName tx _ hs).mono ?_); rintro e w1 ⟨rfl, hk1⟩; have bb := boxed (w := w) (h := ⟨33, tx, n, at_, la, ll, lc⟩) (show Kp _ w1 by (repeat (first | with_reducible exact Kp.refl _ | with_reducible refine Kp.alloc ?_ _ | with_reducible refine Kp.drew ?_ | with_reducible refine Kp.back (by assumption) ?_))); simp only at bb; obtain ⟨b0, b1, b2, b3, b4, bs⟩ := bb) | (go_at_call 46; (with_reducible refine (c_Strength tx _).mono ?_); rintro e w2 ⟨⟨mm, rfl, hmm⟩, rfl⟩; rw [hS] at hmm))
      go_ret
      exact ⟨ret_boolA hv.out.symm, by (repeat (first | with_reducible exact Kp.refl _ | with_reducible refine Kp.alloc ?_ _ | with_reducible refine Kp.drew ?_ | with_reducible refine Kp.back (by assumption) ?_))⟩
    · have hv := Lib.hid (show lab33 tx n ll = false by unfold lab33; rw [decide_eq_true h0, decide_eq_true h, decide_eq_false (show ¬ ll = 1 by omega), hS]; rfl)
      have f0 : ((ll : Int) == 1) = false := beq_eq_false_iff_ne.2 (by omega)
      have f1 : ((ll : Int) == 2) = true := beq_iff_eq.2 (by omega)
      clear h h0
      go_enter Try.func38, Try.ntmps38
      go_wp2_with (first | (go_at_call 45; (with_reducible refine (c_rName tx _ hs).mono ?_); rintro e w1 ⟨rfl, hk1⟩; have bb := boxed (w := w) (h := ⟨33, tx, n, at_, la, ll, lc⟩) (show Kp _ w1 by (repeat (first | with_reducible exact Kp.refl _ | with_reducible refine Kp.alloc ?_ _ | with_reducible refine Kp.drew ?_ | with_reducible refine Kp.back (by assumption) ?_))); simp only at bb; obtain ⟨b0, b1, b2, b3, b4, bs⟩ := bb) | (go_at_call 46; (with_reducible refine (c_Strength tx _).mono ?_); rintro e w2 ⟨⟨mm, rfl, hmm⟩, rfl⟩; rw [hS] at hmm))
      go_ret
      exact ⟨ret_boolA hv.out.symm, by (repeat (first | with_reducible exact Kp.refl _ | with_reducible refine Kp.alloc ?_ _ | with_reducible refine Kp.drew ?_ | with_reducible refine Kp.back (by assumption) ?_))⟩
    · have hv := Lib.hid (show lab33 tx n ll = false by unfold lab33; rw [decide_eq_true h0, decide_eq_false h.1, decide_eq_false h.2]; rfl)
      have f0 : ((ll : Int) == 1) = false := beq_eq_false_iff_ne.2 (by omega)
      have f1 : ((ll : Int) == 2) = false := beq_eq_false_iff_ne.2 (by omega)
      clear h h0
      go_enter Try.func38, Try.ntmps38
      go_wp2_with (first | (go_at_call 45; (with_reducible refine (c_rName tx _ hs).mono ?_); rintro e w1 ⟨rfl, hk1⟩; have bb := boxed (w := w) (h := ⟨33, tx, n, at_, la, ll, lc⟩) (show Kp _ w1 by (repeat (first | with_reducible exact Kp.refl _ | with_reducible refine Kp.alloc ?_ _ | with_reducible refine Kp.drew ?_ | with_reducible refine Kp.back (by assumption) ?_))); simp only at bb; obtain ⟨b0, b1, b2, b3, b4, bs⟩ := bb) | (go_at_call 46; (with_reducible refine (c_Strength tx _).mono ?_); rintro e w2 ⟨⟨mm, rfl, hmm⟩, rfl⟩; rw [hS] at hmm))
      go_ret
      exact ⟨ret_boolA hv.out.symm, by (repeat (first | with_reducible exact Kp.refl _ | with_reducible refine Kp.alloc ?_ _ | with_reducible refine Kp.drew ?_ | with_reducible refine Kp.back (by assumption) ?_))⟩
  · have hv := Lib.hid (show lab33 tx n ll = false by unfold lab33; rw [decide_eq_false h0, Bool.false_and])
    have e0 : (n == 0) = false := beq_eq_false_iff_ne.2 h0
    clear h0
    go_enter Try.func38, Try.ntmps38
    go_wp2_with (first | (go_at_call 45; (with_reducible refine (c_rName tx _ hs).mono ?_); rintro e w1 ⟨rfl, hk1⟩; have bb := boxed (w := w) (h := ⟨33, tx, n, at_, la, ll, lc⟩) (show Kp _ w1 by (repeat (first | with_reducible exact Kp.refl _ | with_reducible refine Kp.alloc ?_ _ | with_reducible refine Kp.drew ?_ | with_reducible refine Kp.back (by assumption) ?_))); simp only at bb; obtain ⟨b0, b1, b2, b3, b4, bs⟩ := bb) | (go_at_call 46; (with_reducible refine (c_Strength tx _).mono ?_); rintro e w2 ⟨⟨mm, rfl, hmm⟩, rfl⟩; rw [hS] at hmm))
    go_ret
    exact ⟨ret_boolA hv.out.symm, by (repeat (first | with_reducible exact Kp.refl _ | with_reducible refine Kp.alloc ?_ _ | with_reducible refine Kp.drew ?_ | with_reducible refine Kp.back (by assumption) ?_))⟩
theorem label_33 (tx : ByteArray) (n at_ : Int) (la : Option Addr) (ll lc : Nat) (w : World) (hbl : ll ≤ 4398046511104) (hs : tx.size ≤ 140737488351232) :
    Calls Try.prog 38 #[.agg #[.int .i64 33, .string tx, .int .u64 n, .int .i64 at_, .slice la ll lc]] w fun e w' => e = .returned (.bool (lab33 tx n ll)) ∧ Kp w w' := by
  by_cases hm : tx ∈ ops1
  · simp only [ops1, List.mem_cons, List.not_mem_nil, or_false] at hm
    rcases hm with rfl | rfl | rfl
    · exact label_minus n at_ la ll lc w hbl
    · exact label_hat n at_ la ll lc w hbl
    · exact label_bang n at_ la ll lc w hbl
  · cases hS : inB ops2 tx with
    | true => exact label_op_true tx n at_ la ll lc w hbl hs hm hS
    | false => exact label_op_false tx n at_ la ll lc w hbl hs hm hS
end Go.Proofs.Ytefanekfelokmaa
