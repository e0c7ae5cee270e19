/- What text and number a node must have by its Kind, in the reference: label. Condition: the node lies in memory. -/
import Derived.Test.YtefanekfelokmaaG3
import Derived.Test.YtefanekfelokmaaF4
namespace Go.Proofs.Ytefanekfelokmaa
open Go.RowKit
set_option linter.unusedVariables false
set_option linter.unusedSimpArgs false
abbrev ops1 : List ByteArray := [⟨#[45]⟩, ⟨#[94]⟩, ⟨#[33]⟩]
set_option maxHeartbeats 6400000 in
set_option maxRecDepth 100000 in
theorem label_2 (tx : ByteArray) (n at_ : Int) (la : Option Addr) (ll lc : Nat) (w : World) (hs : tx.size ≤ 140737488351232) :
    Calls Try.prog 38 #[.agg #[.int .i64 2, .string tx, .int .u64 n, .int .i64 at_, .slice la ll lc]] w fun e w' => e = .returned (.bool (namedB tx n)) ∧ Kp w w' := by
  unfold namedB
  cases hq : nameB tx with
  | false =>
    rw [Bool.false_and]
    go_enter Try.func38, Try.ntmps38
    go_wp2_with (first | (go_at_call 45; (with_reducible refine (c_rName tx _ hs).mono ?_); rintro e w1 ⟨rfl, hk1⟩; rw [hq]; have bb := boxed (w := w) (h := ⟨2, tx, n, at_, la, ll, lc⟩) (show Kp _ w1 by (repeat (first | with_reducible exact Kp.refl _ | with_reducible refine Kp.alloc ?_ _ | with_reducible refine Kp.drew ?_ | with_reducible refine Kp.back (by assumption) ?_))); simp only at bb; obtain ⟨b0, b1, b2, b3, b4, bs⟩ := bb))
    go_ret
    refine ⟨by first | rfl | (simp; done), ?_⟩
    (repeat (first | with_reducible exact Kp.refl _ | with_reducible refine Kp.alloc ?_ _ | with_reducible refine Kp.drew ?_ | with_reducible refine Kp.back (by assumption) ?_))
  | true =>
    rw [Bool.true_and]
    by_cases h0 : n = 0
    · rw [decide_eq_true h0]
      have e0 : (n == 0) = true := beq_iff_eq.2 h0
      clear h0
      go_enter Try.func38, Try.ntmps38
      go_wp2_with (first | (go_at_call 45; (with_reducible refine (c_rName tx _ hs).mono ?_); rintro e w1 ⟨rfl, hk1⟩; rw [hq]; have bb := boxed (w := w) (h := ⟨2, tx, n, at_, la, ll, lc⟩) (show Kp _ w1 by (repeat (first | with_reducible exact Kp.refl _ | with_reducible refine Kp.alloc ?_ _ | with_reducible refine Kp.drew ?_ | with_reducible refine Kp.back (by assumption) ?_))); simp only at bb; obtain ⟨b0, b1, b2, b3, b4, bs⟩ := bb))
      go_ret
      refine ⟨by first | rfl | (simp; done), ?_⟩
      (repeat (first | with_reducible exact Kp.refl _ | with_reducible refine Kp.alloc ?_ _ | with_reducible refine Kp.drew ?_ | with_reducible refine Kp.back (by assumption) ?_))
    · rw [decide_eq_false h0]
      have e0 : (n == 0) = false := beq_eq_false_iff_ne.2 h0
      clear h0
      go_enter Try.func38, Try.ntmps38
      go_wp2_with (first | (go_at_call 45; (with_reducible refine (c_rName tx _ hs).mono ?_); rintro e w1 ⟨rfl, hk1⟩; rw [hq]; have bb := boxed (w := w) (h := ⟨2, tx, n, at_, la, ll, lc⟩) (show Kp _ w1 by (repeat (first | with_reducible exact Kp.refl _ | with_reducible refine Kp.alloc ?_ _ | with_reducible refine Kp.drew ?_ | with_reducible refine Kp.back (by assumption) ?_))); simp only at bb; obtain ⟨b0, b1, b2, b3, b4, bs⟩ := bb))
      go_ret
      refine ⟨by first | rfl | (simp; done), ?_⟩
      (repeat (first | with_reducible exact Kp.refl _ | with_reducible refine Kp.alloc ?_ _ | with_reducible refine Kp.drew ?_ | with_reducible refine Kp.back (by assumption) ?_))
set_option maxHeartbeats 6400000 in
set_option maxRecDepth 100000 in
theorem label_3 (tx : ByteArray) (n at_ : Int) (la : Option Addr) (ll lc : Nat) (w : World) (hs : tx.size ≤ 140737488351232) :
    Calls Try.prog 38 #[.agg #[.int .i64 3, .string tx, .int .u64 n, .int .i64 at_, .slice la ll lc]] w fun e w' => e = .returned (.bool (namedB tx n)) ∧ Kp w w' := by
  unfold namedB
  cases hq : nameB tx with
  | false =>
    rw [Bool.false_and]
    go_enter Try.func38, Try.ntmps38
    go_wp2_with (first | (go_at_call 45; (with_reducible refine (c_rName tx _ hs).mono ?_); rintro e w1 ⟨rfl, hk1⟩; rw [hq]; have bb := boxed (w := w) (h := ⟨3, tx, n, at_, la, ll, lc⟩) (show Kp _ w1 by (repeat (first | with_reducible exact Kp.refl _ | with_reducible refine Kp.alloc ?_ _ | with_reducible refine Kp.drew ?_ | with_reducible refine Kp.back (by assumption) ?_))); simp only at bb; obtain ⟨b0, b1, b2, b3, b4, bs⟩ := bb))
    go_ret
    refine ⟨by first | rfl | (simp; done), ?_⟩
    (repeat (first | with_reducible exact Kp.refl _ | with_reducible refine Kp.alloc ?_ _ | with_reducible refine Kp.drew ?_ | with_reducible refine Kp.back (by assumption) ?_))
  | true =>
    rw [Bool.true_and]
    by_cases h0 : n = 0
    · rw [decide_eq_true h0]
      have e0 : (n == 0) = true := beq_iff_eq.2 h0
      clear h0
      go_enter Try.func38, Try.ntmps38
      go_wp2_with (first | (go_at_call 45; (with_reducible refine (c_rName tx _ hs).mono ?_); rintro e w1 ⟨rfl, hk1⟩; rw [hq]; have bb := boxed (w := w) (h := ⟨3, tx, n, at_, la, ll, lc⟩) (show Kp _ w1 by (repeat (first | with_reducible exact Kp.refl _ | with_reducible refine Kp.alloc ?_ _ | with_reducible refine Kp.drew ?_ | with_reducible refine Kp.back (by assumption) ?_))); simp only at bb; obtain ⟨b0, b1, b2, b3, b4, bs⟩ := bb))
      go_ret
      refine ⟨by first | rfl | (simp; done), ?_⟩
      (repeat (first | with_reducible exact Kp.refl _ | with_reducible refine Kp.alloc ?_ _ | with_reducible refine Kp.drew ?_ | with_reducible refine Kp.back (by assumption) ?_))
    · rw [decide_eq_false h0]
      have e0 : (n == 0) = false := beq_eq_false_iff_ne.2 h0
      clear h0
      go_enter Try.func38, Try.ntmps38
      go_wp2_with (first | (go_at_call 45; (with_reducible refine (c_rName tx _ hs).mono ?_); rintro e w1 ⟨rfl, hk1⟩; rw [hq]; have bb := boxed (w := w) (h := ⟨3, tx, n, at_, la, ll, lc⟩) (show Kp _ w1 by (repeat (first | with_reducible exact Kp.refl _ | with_reducible refine Kp.alloc ?_ _ | with_reducible refine Kp.drew ?_ | with_reducible refine Kp.back (by assumption) ?_))); simp only at bb; obtain ⟨b0, b1, b2, b3, b4, bs⟩ := bb))
      go_ret
      refine ⟨by first | rfl | (simp; done), ?_⟩
      (repeat (first | with_reducible exact Kp.refl _ | with_reducible refine Kp.alloc ?_ _ | with_reducible refine Kp.drew ?_ | with_reducible refine Kp.back (by assumption) ?_))
set_option maxHeartbeats 6400000 in
set_option maxRecDepth 100000 in
theorem label_5 (tx : ByteArray) (n at_ : Int) (la : Option Addr) (ll lc : Nat) (w : World) (hs : tx.size ≤ 140737488351232) :
    Calls Try.prog 38 #[.agg #[.int .i64 5, .string tx, .int .u64 n, .int .i64 at_, .slice la ll lc]] w fun e w' => e = .returned (.bool (namedB tx n)) ∧ Kp w w' := by
  unfold namedB
  cases hq : nameB tx with
  | false =>
    rw [Bool.false_and]
    go_enter Try.func38, Try.ntmps38
    go_wp2_with (first | (go_at_call 45; (with_reducible refine (c_rName tx _ hs).mono ?_); rintro e w1 ⟨rfl, hk1⟩; rw [hq]; have bb := boxed (w := w) (h := ⟨5, tx, n, at_, la, ll, lc⟩) (show Kp _ w1 by (repeat (first | with_reducible exact Kp.refl _ | with_reducible refine Kp.alloc ?_ _ | with_reducible refine Kp.drew ?_ | with_reducible refine Kp.back (by assumption) ?_))); simp only at bb; obtain ⟨b0, b1, b2, b3, b4, bs⟩ := bb))
    go_ret
    refine ⟨by first | rfl | (simp; done), ?_⟩
    (repeat (first | with_reducible exact Kp.refl _ | with_reducible refine Kp.alloc ?_ _ | with_reducible refine Kp.drew ?_ | with_reducible refine Kp.back (by assumption) ?_))
  | true =>
    rw [Bool.true_and]
    by_cases h0 : n = 0
    · rw [decide_eq_true h0]
      have e0 : (n == 0) = true := beq_iff_eq.2 h0
      clear h0
      go_enter Try.func38, Try.ntmps38
      go_wp2_with (first | (go_at_call 45; (with_reducible refine (c_rName tx _ hs).mono ?_); rintro e w1 ⟨rfl, hk1⟩; rw [hq]; have bb := boxed (w := w) (h := ⟨5, tx, n, at_, la, ll, lc⟩) (show Kp _ w1 by (repeat (first | with_reducible exact Kp.refl _ | with_reducible refine Kp.alloc ?_ _ | with_reducible refine Kp.drew ?_ | with_reducible refine Kp.back (by assumption) ?_))); simp only at bb; obtain ⟨b0, b1, b2, b3, b4, bs⟩ := bb))
      go_ret
      refine ⟨by first | rfl | (simp; done), ?_⟩
      (repeat (first | with_reducible exact Kp.refl _ | with_reducible refine Kp.alloc ?_ _ | with_reducible refine Kp.drew ?_ | with_reducible refine Kp.back (by assumption) ?_))
    · rw [decide_eq_false h0]
      have e0 : (n == 0) = false := beq_eq_false_iff_ne.2 h0
      clear h0
      go_enter Try.func38, Try.ntmps38
      go_wp2_with (first | (go_at_call 45; (with_reducible refine (c_rName tx _ hs).mono ?_); rintro e w1 ⟨rfl, hk1⟩; rw [hq]; have bb := boxed (w := w) (h := ⟨5, tx, n, at_, la, ll, lc⟩) (show Kp _ w1 by (repeat (first | with_reducible exact Kp.refl _ | with_reducible refine Kp.alloc ?_ _ | with_reducible refine Kp.drew ?_ | with_reducible refine Kp.back (by assumption) ?_))); simp only at bb; obtain ⟨b0, b1, b2, b3, b4, bs⟩ := bb))
      go_ret
      refine ⟨by first | rfl | (simp; done), ?_⟩
      (repeat (first | with_reducible exact Kp.refl _ | with_reducible refine Kp.alloc ?_ _ | with_reducible refine Kp.drew ?_ | with_reducible refine Kp.back (by assumption) ?_))
set_option maxHeartbeats 6400000 in
set_option maxRecDepth 100000 in
theorem label_10 (tx : ByteArray) (n at_ : Int) (la : Option Addr) (ll lc : Nat) (w : World) (hs : tx.size ≤ 140737488351232) :
    Calls Try.prog 38 #[.agg #[.int .i64 10, .string tx, .int .u64 n, .int .i64 at_, .slice la ll lc]] w fun e w' => e = .returned (.bool (namedB tx n)) ∧ Kp w w' := by
  unfold namedB
  cases hq : nameB tx with
  | false =>
    rw [Bool.false_and]
    go_enter Try.func38, Try.ntmps38
    go_wp2_with (first | (go_at_call 45; (with_reducible refine (c_rName tx _ hs).mono ?_); rintro e w1 ⟨rfl, hk1⟩; rw [hq]; have bb := boxed (w := w) (h := ⟨10, tx, n, at_, la, ll, lc⟩) (show Kp _ w1 by (repeat (first | with_reducible exact Kp.refl _ | with_reducible refine Kp.alloc ?_ _ | with_reducible refine Kp.drew ?_ | with_reducible refine Kp.back (by assumption) ?_))); simp only at bb; obtain ⟨b0, b1, b2, b3, b4, bs⟩ := bb))
    go_ret
    refine ⟨by first | rfl | (simp; done), ?_⟩
    (repeat (first | with_reducible exact Kp.refl _ | with_reducible refine Kp.alloc ?_ _ | with_reducible refine Kp.drew ?_ | with_reducible refine Kp.back (by assumption) ?_))
  | true =>
    rw [Bool.true_and]
    by_cases h0 : n = 0
    · rw [decide_eq_true h0]
      have e0 : (n == 0) = true := beq_iff_eq.2 h0
      clear h0
      go_enter Try.func38, Try.ntmps38
      go_wp2_with (first | (go_at_call 45; (with_reducible refine (c_rName tx _ hs).mono ?_); rintro e w1 ⟨rfl, hk1⟩; rw [hq]; have bb := boxed (w := w) (h := ⟨10, tx, n, at_, la, ll, lc⟩) (show Kp _ w1 by (repeat (first | with_reducible exact Kp.refl _ | with_reducible refine Kp.alloc ?_ _ | with_reducible refine Kp.drew ?_ | with_reducible refine Kp.back (by assumption) ?_))); simp only at bb; obtain ⟨b0, b1, b2, b3, b4, bs⟩ := bb))
      go_ret
      refine ⟨by first | rfl | (simp; done), ?_⟩
      (repeat (first | with_reducible exact Kp.refl _ | with_reducible refine Kp.alloc ?_ _ | with_reducible refine Kp.drew ?_ | with_reducible refine Kp.back (by assumption) ?_))
    · rw [decide_eq_false h0]
      have e0 : (n == 0) = false := beq_eq_false_iff_ne.2 h0
      clear h0
      go_enter Try.func38, Try.ntmps38
      go_wp2_with (first | (go_at_call 45; (with_reducible refine (c_rName tx _ hs).mono ?_); rintro e w1 ⟨rfl, hk1⟩; rw [hq]; have bb := boxed (w := w) (h := ⟨10, tx, n, at_, la, ll, lc⟩) (show Kp _ w1 by (repeat (first | with_reducible exact Kp.refl _ | with_reducible refine Kp.alloc ?_ _ | with_reducible refine Kp.drew ?_ | with_reducible refine Kp.back (by assumption) ?_))); simp only at bb; obtain ⟨b0, b1, b2, b3, b4, bs⟩ := bb))
      go_ret
      refine ⟨by first | rfl | (simp; done), ?_⟩
      (repeat (first | with_reducible exact Kp.refl _ | with_reducible refine Kp.alloc ?_ _ | with_reducible refine Kp.drew ?_ | with_reducible refine Kp.back (by assumption) ?_))
set_option maxHeartbeats 6400000 in
set_option maxRecDepth 100000 in
theorem label_21 (tx : ByteArray) (n at_ : Int) (la : Option Addr) (ll lc : Nat) (w : World) (hs : tx.size ≤ 140737488351232) :
    Calls Try.prog 38 #[.agg #[.int .i64 21, .string tx, .int .u64 n, .int .i64 at_, .slice la ll lc]] w fun e w' => e = .returned (.bool (namedB tx n)) ∧ Kp w w' := by
  unfold namedB
  cases hq : nameB tx with
  | false =>
    rw [Bool.false_and]
    go_enter Try.func38, Try.ntmps38
    go_wp2_with (first | (go_at_call 45; (with_reducible refine (c_rName tx _ hs).mono ?_); rintro e w1 ⟨rfl, hk1⟩; rw [hq]; have bb := boxed (w := w) (h := ⟨21, tx, n, at_, la, ll, lc⟩) (show Kp _ w1 by (repeat (first | with_reducible exact Kp.refl _ | with_reducible refine Kp.alloc ?_ _ | with_reducible refine Kp.drew ?_ | with_reducible refine Kp.back (by assumption) ?_))); simp only at bb; obtain ⟨b0, b1, b2, b3, b4, bs⟩ := bb))
    go_ret
    refine ⟨by first | rfl | (simp; done), ?_⟩
    (repeat (first | with_reducible exact Kp.refl _ | with_reducible refine Kp.alloc ?_ _ | with_reducible refine Kp.drew ?_ | with_reducible refine Kp.back (by assumption) ?_))
  | true =>
    rw [Bool.true_and]
    by_cases h0 : n = 0
    · rw [decide_eq_true h0]
      have e0 : (n == 0) = true := beq_iff_eq.2 h0
      clear h0
      go_enter Try.func38, Try.ntmps38
      go_wp2_with (first | (go_at_call 45; (with_reducible refine (c_rName tx _ hs).mono ?_); rintro e w1 ⟨rfl, hk1⟩; rw [hq]; have bb := boxed (w := w) (h := ⟨21, tx, n, at_, la, ll, lc⟩) (show Kp _ w1 by (repeat (first | with_reducible exact Kp.refl _ | with_reducible refine Kp.alloc ?_ _ | with_reducible refine Kp.drew ?_ | with_reducible refine Kp.back (by assumption) ?_))); simp only at bb; obtain ⟨b0, b1, b2, b3, b4, bs⟩ := bb))
      go_ret
      refine ⟨by first | rfl | (simp; done), ?_⟩
      (repeat (first | with_reducible exact Kp.refl _ | with_reducible refine Kp.alloc ?_ _ | with_reducible refine Kp.drew ?_ | with_reducible refine Kp.back (by assumption) ?_))
    · rw [decide_eq_false h0]
      have e0 : (n == 0) = false := beq_eq_false_iff_ne.2 h0
      clear h0
      go_enter Try.func38, Try.ntmps38
      go_wp2_with (first | (go_at_call 45; (with_reducible refine (c_rName tx _ hs).mono ?_); rintro e w1 ⟨rfl, hk1⟩; rw [hq]; have bb := boxed (w := w) (h := ⟨21, tx, n, at_, la, ll, lc⟩) (show Kp _ w1 by (repeat (first | with_reducible exact Kp.refl _ | with_reducible refine Kp.alloc ?_ _ | with_reducible refine Kp.drew ?_ | with_reducible refine Kp.back (by assumption) ?_))); simp only at bb; obtain ⟨b0, b1, b2, b3, b4, bs⟩ := bb))
      go_ret
      refine ⟨by first | rfl | (simp; done), ?_⟩
      (repeat (first | with_reducible exact Kp.refl _ | with_reducible refine Kp.alloc ?_ _ | with_reducible refine Kp.drew ?_ | with_reducible refine Kp.back (by assumption) ?_))
set_option maxHeartbeats 6400000 in
set_option maxRecDepth 100000 in
theorem label_22 (tx : ByteArray) (n at_ : Int) (la : Option Addr) (ll lc : Nat) (w : World) (hs : tx.size ≤ 140737488351232) :
    Calls Try.prog 38 #[.agg #[.int .i64 22, .string tx, .int .u64 n, .int .i64 at_, .slice la ll lc]] w fun e w' => e = .returned (.bool (namedB tx n)) ∧ Kp w w' := by
  unfold namedB
  cases hq : nameB tx with
  | false =>
    rw [Bool.false_and]
    go_enter Try.func38, Try.ntmps38
    go_wp2_with (first | (go_at_call 45; (with_reducible refine (c_rName tx _ hs).mono ?_); rintro e w1 ⟨rfl, hk1⟩; rw [hq]; have bb := boxed (w := w) (h := ⟨22, tx, n, at_, la, ll, lc⟩) (show Kp _ w1 by (repeat (first | with_reducible exact Kp.refl _ | with_reducible refine Kp.alloc ?_ _ | with_reducible refine Kp.drew ?_ | with_reducible refine Kp.back (by assumption) ?_))); simp only at bb; obtain ⟨b0, b1, b2, b3, b4, bs⟩ := bb))
    go_ret
    refine ⟨by first | rfl | (simp; done), ?_⟩
    (repeat (first | with_reducible exact Kp.refl _ | with_reducible refine Kp.alloc ?_ _ | with_reducible refine Kp.drew ?_ | with_reducible refine Kp.back (by assumption) ?_))
  | true =>
    rw [Bool.true_and]
    by_cases h0 : n = 0
    · rw [decide_eq_true h0]
      have e0 : (n == 0) = true := beq_iff_eq.2 h0
      clear h0
      go_enter Try.func38, Try.ntmps38
      go_wp2_with (first | (go_at_call 45; (with_reducible refine (c_rName tx _ hs).mono ?_); rintro e w1 ⟨rfl, hk1⟩; rw [hq]; have bb := boxed (w := w) (h := ⟨22, tx, n, at_, la, ll, lc⟩) (show Kp _ w1 by (repeat (first | with_reducible exact Kp.refl _ | with_reducible refine Kp.alloc ?_ _ | with_reducible refine Kp.drew ?_ | with_reducible refine Kp.back (by assumption) ?_))); simp only at bb; obtain ⟨b0, b1, b2, b3, b4, bs⟩ := bb))
      go_ret
      refine ⟨by first | rfl | (simp; done), ?_⟩
      (repeat (first | with_reducible exact Kp.refl _ | with_reducible refine Kp.alloc ?_ _ | with_reducible refine Kp.drew ?_ | with_reducible refine Kp.back (by assumption) ?_))
    · rw [decide_eq_false h0]
      have e0 : (n == 0) = false := beq_eq_false_iff_ne.2 h0
      clear h0
      go_enter Try.func38, Try.ntmps38
      go_wp2_with (first | (go_at_call 45; (with_reducible refine (c_rName tx _ hs).mono ?_); rintro e w1 ⟨rfl, hk1⟩; rw [hq]; have bb := boxed (w := w) (h := ⟨22, tx, n, at_, la, ll, lc⟩) (show Kp _ w1 by (repeat (first | with_reducible exact Kp.refl _ | with_reducible refine Kp.alloc ?_ _ | with_reducible refine Kp.drew ?_ | with_reducible refine Kp.back (by assumption) ?_))); simp only at bb; obtain ⟨b0, b1, b2, b3, b4, bs⟩ := bb))
      go_ret
      refine ⟨by first | rfl | (simp; done), ?_⟩
      (repeat (first | with_reducible exact Kp.refl _ | with_reducible refine Kp.alloc ?_ _ | with_reducible refine Kp.drew ?_ | with_reducible refine Kp.back (by assumption) ?_))
set_option maxHeartbeats 6400000 in
set_option maxRecDepth 100000 in
theorem label_30 (tx : ByteArray) (n at_ : Int) (la : Option Addr) (ll lc : Nat) (w : World) (hs : tx.size ≤ 140737488351232) :
    Calls Try.prog 38 #[.agg #[.int .i64 30, .string tx, .int .u64 n, .int .i64 at_, .slice la ll lc]] w fun e w' => e = .returned (.bool (namedB tx n)) ∧ Kp w w' := by
  unfold namedB
  cases hq : nameB tx with
  | false =>
    rw [Bool.false_and]
    go_enter Try.func38, Try.ntmps38
    go_wp2_with (first | (go_at_call 45; (with_reducible refine (c_rName tx _ hs).mono ?_); rintro e w1 ⟨rfl, hk1⟩; rw [hq]; have bb := boxed (w := w) (h := ⟨30, tx, n, at_, la, ll, lc⟩) (show Kp _ w1 by (repeat (first | with_reducible exact Kp.refl _ | with_reducible refine Kp.alloc ?_ _ | with_reducible refine Kp.drew ?_ | with_reducible refine Kp.back (by assumption) ?_))); simp only at bb; obtain ⟨b0, b1, b2, b3, b4, bs⟩ := bb))
    go_ret
    refine ⟨by first | rfl | (simp; done), ?_⟩
    (repeat (first | with_reducible exact Kp.refl _ | with_reducible refine Kp.alloc ?_ _ | with_reducible refine Kp.drew ?_ | with_reducible refine Kp.back (by assumption) ?_))
  | true =>
    rw [Bool.true_and]
    by_cases h0 : n = 0
    · rw [decide_eq_true h0]
      have e0 : (n == 0) = true := beq_iff_eq.2 h0
      clear h0
      go_enter Try.func38, Try.ntmps38
      go_wp2_with (first | (go_at_call 45; (with_reducible refine (c_rName tx _ hs).mono ?_); rintro e w1 ⟨rfl, hk1⟩; rw [hq]; have bb := boxed (w := w) (h := ⟨30, tx, n, at_, la, ll, lc⟩) (show Kp _ w1 by (repeat (first | with_reducible exact Kp.refl _ | with_reducible refine Kp.alloc ?_ _ | with_reducible refine Kp.drew ?_ | with_reducible refine Kp.back (by assumption) ?_))); simp only at bb; obtain ⟨b0, b1, b2, b3, b4, bs⟩ := bb))
      go_ret
      refine ⟨by first | rfl | (simp; done), ?_⟩
      (repeat (first | with_reducible exact Kp.refl _ | with_reducible refine Kp.alloc ?_ _ | with_reducible refine Kp.drew ?_ | with_reducible refine Kp.back (by assumption) ?_))
    · rw [decide_eq_false h0]
      have e0 : (n == 0) = false := beq_eq_false_iff_ne.2 h0
      clear h0
      go_enter Try.func38, Try.ntmps38
      go_wp2_with (first | (go_at_call 45; (with_reducible refine (c_rName tx _ hs).mono ?_); rintro e w1 ⟨rfl, hk1⟩; rw [hq]; have bb := boxed (w := w) (h := ⟨30, tx, n, at_, la, ll, lc⟩) (show Kp _ w1 by (repeat (first | with_reducible exact Kp.refl _ | with_reducible refine Kp.alloc ?_ _ | with_reducible refine Kp.drew ?_ | with_reducible refine Kp.back (by assumption) ?_))); simp only at bb; obtain ⟨b0, b1, b2, b3, b4, bs⟩ := bb))
      go_ret
      refine ⟨by first | rfl | (simp; done), ?_⟩
      (repeat (first | with_reducible exact Kp.refl _ | with_reducible refine Kp.alloc ?_ _ | with_reducible refine Kp.drew ?_ | with_reducible refine Kp.back (by assumption) ?_))
set_option maxHeartbeats 6400000 in
set_option maxRecDepth 100000 in
theorem label_35 (tx : ByteArray) (n at_ : Int) (la : Option Addr) (ll lc : Nat) (w : World) (hs : tx.size ≤ 140737488351232) :
    Calls Try.prog 38 #[.agg #[.int .i64 35, .string tx, .int .u64 n, .int .i64 at_, .slice la ll lc]] w fun e w' => e = .returned (.bool (namedB tx n)) ∧ Kp w w' := by
  unfold namedB
  cases hq : nameB tx with
  | false =>
    rw [Bool.false_and]
    go_enter Try.func38, Try.ntmps38
    go_wp2_with (first | (go_at_call 45; (with_reducible refine (c_rName tx _ hs).mono ?_); rintro e w1 ⟨rfl, hk1⟩; rw [hq]; have bb := boxed (w := w) (h := ⟨35, tx, n, at_, la, ll, lc⟩) (show Kp _ w1 by (repeat (first | with_reducible exact Kp.refl _ | with_reducible refine Kp.alloc ?_ _ | with_reducible refine Kp.drew ?_ | with_reducible refine Kp.back (by assumption) ?_))); simp only at bb; obtain ⟨b0, b1, b2, b3, b4, bs⟩ := bb))
    go_ret
    refine ⟨by first | rfl | (simp; done), ?_⟩
    (repeat (first | with_reducible exact Kp.refl _ | with_reducible refine Kp.alloc ?_ _ | with_reducible refine Kp.drew ?_ | with_reducible refine Kp.back (by assumption) ?_))
  | true =>
    rw [Bool.true_and]
    by_cases h0 : n = 0
    · rw [decide_eq_true h0]
      have e0 : (n == 0) = true := beq_iff_eq.2 h0
      clear h0
      go_enter Try.func38, Try.ntmps38
      go_wp2_with (first | (go_at_call 45; (with_reducible refine (c_rName tx _ hs).mono ?_); rintro e w1 ⟨rfl, hk1⟩; rw [hq]; have bb := boxed (w := w) (h := ⟨35, tx, n, at_, la, ll, lc⟩) (show Kp _ w1 by (repeat (first | with_reducible exact Kp.refl _ | with_reducible refine Kp.alloc ?_ _ | with_reducible refine Kp.drew ?_ | with_reducible refine Kp.back (by assumption) ?_))); simp only at bb; obtain ⟨b0, b1, b2, b3, b4, bs⟩ := bb))
      go_ret
      refine ⟨by first | rfl | (simp; done), ?_⟩
      (repeat (first | with_reducible exact Kp.refl _ | with_reducible refine Kp.alloc ?_ _ | with_reducible refine Kp.drew ?_ | with_reducible refine Kp.back (by assumption) ?_))
    · rw [decide_eq_false h0]
      have e0 : (n == 0) = false := beq_eq_false_iff_ne.2 h0
      clear h0
      go_enter Try.func38, Try.ntmps38
      go_wp2_with (first | (go_at_call 45; (with_reducible refine (c_rName tx _ hs).mono ?_); rintro e w1 ⟨rfl, hk1⟩; rw [hq]; have bb := boxed (w := w) (h := ⟨35, tx, n, at_, la, ll, lc⟩) (show Kp _ w1 by (repeat (first | with_reducible exact Kp.refl _ | with_reducible refine Kp.alloc ?_ _ | with_reducible refine Kp.drew ?_ | with_reducible refine Kp.back (by assumption) ?_))); simp only at bb; obtain ⟨b0, b1, b2, b3, b4, bs⟩ := bb))
      go_ret
      refine ⟨by first | rfl | (simp; done), ?_⟩
      (repeat (first | with_reducible exact Kp.refl _ | with_reducible refine Kp.alloc ?_ _ | with_reducible refine Kp.drew ?_ | with_reducible refine Kp.back (by assumption) ?_))
set_option maxHeartbeats 6400000 in
set_option maxRecDepth 100000 in
theorem label_37 (tx : ByteArray) (n at_ : Int) (la : Option Addr) (ll lc : Nat) (w : World) (hs : tx.size ≤ 140737488351232) :
    Calls Try.prog 38 #[.agg #[.int .i64 37, .string tx, .int .u64 n, .int .i64 at_, .slice la ll lc]] w fun e w' => e = .returned (.bool (namedB tx n)) ∧ Kp w w' := by
  unfold namedB
  cases hq : nameB tx with
  | false =>
    rw [Bool.false_and]
    go_enter Try.func38, Try.ntmps38
    go_wp2_with (first | (go_at_call 45; (with_reducible refine (c_rName tx _ hs).mono ?_); rintro e w1 ⟨rfl, hk1⟩; rw [hq]; have bb := boxed (w := w) (h := ⟨37, tx, n, at_, la, ll, lc⟩) (show Kp _ w1 by (repeat (first | with_reducible exact Kp.refl _ | with_reducible refine Kp.alloc ?_ _ | with_reducible refine Kp.drew ?_ | with_reducible refine Kp.back (by assumption) ?_))); simp only at bb; obtain ⟨b0, b1, b2, b3, b4, bs⟩ := bb))
    go_ret
    refine ⟨by first | rfl | (simp; done), ?_⟩
    (repeat (first | with_reducible exact Kp.refl _ | with_reducible refine Kp.alloc ?_ _ | with_reducible refine Kp.drew ?_ | with_reducible refine Kp.back (by assumption) ?_))
  | true =>
    rw [Bool.true_and]
    by_cases h0 : n = 0
    · rw [decide_eq_true h0]
      have e0 : (n == 0) = true := beq_iff_eq.2 h0
      clear h0
      go_enter Try.func38, Try.ntmps38
      go_wp2_with (first | (go_at_call 45; (with_reducible refine (c_rName tx _ hs).mono ?_); rintro e w1 ⟨rfl, hk1⟩; rw [hq]; have bb := boxed (w := w) (h := ⟨37, tx, n, at_, la, ll, lc⟩) (show Kp _ w1 by (repeat (first | with_reducible exact Kp.refl _ | with_reducible refine Kp.alloc ?_ _ | with_reducible refine Kp.drew ?_ | with_reducible refine Kp.back (by assumption) ?_))); simp only at bb; obtain ⟨b0, b1, b2, b3, b4, bs⟩ := bb))
      go_ret
      refine ⟨by first | rfl | (simp; done), ?_⟩
      (repeat (first | with_reducible exact Kp.refl _ | with_reducible refine Kp.alloc ?_ _ | with_reducible refine Kp.drew ?_ | with_reducible refine Kp.back (by assumption) ?_))
    · rw [decide_eq_false h0]
      have e0 : (n == 0) = false := beq_eq_false_iff_ne.2 h0
      clear h0
      go_enter Try.func38, Try.ntmps38
      go_wp2_with (first | (go_at_call 45; (with_reducible refine (c_rName tx _ hs).mono ?_); rintro e w1 ⟨rfl, hk1⟩; rw [hq]; have bb := boxed (w := w) (h := ⟨37, tx, n, at_, la, ll, lc⟩) (show Kp _ w1 by (repeat (first | with_reducible exact Kp.refl _ | with_reducible refine Kp.alloc ?_ _ | with_reducible refine Kp.drew ?_ | with_reducible refine Kp.back (by assumption) ?_))); simp only at bb; obtain ⟨b0, b1, b2, b3, b4, bs⟩ := bb))
      go_ret
      refine ⟨by first | rfl | (simp; done), ?_⟩
      (repeat (first | with_reducible exact Kp.refl _ | with_reducible refine Kp.alloc ?_ _ | with_reducible refine Kp.drew ?_ | with_reducible refine Kp.back (by assumption) ?_))
set_option maxHeartbeats 6400000 in
set_option maxRecDepth 100000 in
theorem label_8 (tx : ByteArray) (n at_ : Int) (la : Option Addr) (ll lc : Nat) (w : World) (hs : tx.size ≤ 140737488351232) :
    Calls Try.prog 38 #[.agg #[.int .i64 8, .string tx, .int .u64 n, .int .i64 at_, .slice la ll lc]] w fun e w' => e = .returned (.bool (nameB tx && decide (1 ≤ n ∧ n ≤ 3))) ∧ Kp w w' := by
  cases hq : nameB tx with
  | false =>
    rw [Bool.false_and]
    go_enter Try.func38, Try.ntmps38
    go_wp2_with (first | (go_at_call 45; (with_reducible refine (c_rName tx _ hs).mono ?_); rintro e w1 ⟨rfl, hk1⟩; rw [hq]; have bb := boxed (w := w) (h := ⟨8, tx, n, at_, la, ll, lc⟩) (show Kp _ w1 by (repeat (first | with_reducible exact Kp.refl _ | with_reducible refine Kp.alloc ?_ _ | with_reducible refine Kp.drew ?_ | with_reducible refine Kp.back (by assumption) ?_))); simp only at bb; obtain ⟨b0, b1, b2, b3, b4, bs⟩ := bb))
    go_ret
    refine ⟨by first | rfl | (simp; done), ?_⟩
    (repeat (first | with_reducible exact Kp.refl _ | with_reducible refine Kp.alloc ?_ _ | with_reducible refine Kp.drew ?_ | with_reducible refine Kp.back (by assumption) ?_))
  | true =>
    rw [Bool.true_and]
    have hc : n < 1 ∨ (1 ≤ n ∧ n ≤ 3) ∨ 3 < n := by omega
    rcases hc with h | h | h
    all_goals
      first | rw [show decide (1 ≤ n ∧ n ≤ 3) = true from decide_eq_true (by omega)] | rw [show decide (1 ≤ n ∧ n ≤ 3) = false from decide_eq_false (by omega)]
      first | have d0 : decide (1 ≤ n) = true := decide_eq_true (by omega) | have d0 : decide (1 ≤ n) = false := decide_eq_false (by omega)
      first | have d1 : decide (n ≤ 3) = true := decide_eq_true (by omega) | have d1 : decide (n ≤ 3) = false := decide_eq_false (by omega)
      clear h
      go_enter Try.func38, Try.ntmps38
      go_wp2_with (first | (go_at_call 45; (with_reducible refine (c_rName tx _ hs).mono ?_); rintro e w1 ⟨rfl, hk1⟩; rw [hq]; have bb := boxed (w := w) (h := ⟨8, tx, n, at_, la, ll, lc⟩) (show Kp _ w1 by (repeat (first | with_reducible exact Kp.refl _ | with_reducible refine Kp.alloc ?_ _ | with_reducible refine Kp.drew ?_ | with_reducible refine Kp.back (by assumption) ?_))); simp only at bb; obtain ⟨b0, b1, b2, b3, b4, bs⟩ := bb))
      go_ret
      refine ⟨by first | rfl | (simp; done), ?_⟩
      (repeat (first | with_reducible exact Kp.refl _ | with_reducible refine Kp.alloc ?_ _ | with_reducible refine Kp.drew ?_ | with_reducible refine Kp.back (by assumption) ?_))
set_option maxHeartbeats 6400000 in
set_option maxRecDepth 100000 in
theorem label_43 (tx : ByteArray) (n at_ : Int) (la : Option Addr) (ll lc : Nat) (w : World) (hs : tx.size ≤ 140737488351232) :
    Calls Try.prog 38 #[.agg #[.int .i64 43, .string tx, .int .u64 n, .int .i64 at_, .slice la ll lc]] w fun e w' => e = .returned (.bool (bareB tx n || namedB tx n)) ∧ Kp w w' := by
  unfold namedB
  cases hq : nameB tx with
  | false =>
    rw [Bool.false_and, Bool.or_false]
    rcases tx_cases tx with rfl | ⟨t0, t1, t2, t3⟩
    · by_cases h0 : n = 0
      · unfold bareB
        rw [dec_yes ⟨rfl, h0⟩]
        have e0 : (n == 0) = true := beq_iff_eq.2 h0
        clear h0
        go_enter Try.func38, Try.ntmps38
        go_wp2_with (first | (go_at_call 45; (with_reducible refine (c_rName ⟨#[]⟩ _ hs).mono ?_); rintro e w1 ⟨rfl, hk1⟩; rw [hq]; have bb := boxed (w := w) (h := ⟨43, ⟨#[]⟩, n, at_, la, ll, lc⟩) (show Kp _ w1 by (repeat (first | with_reducible exact Kp.refl _ | with_reducible refine Kp.alloc ?_ _ | with_reducible refine Kp.drew ?_ | with_reducible refine Kp.back (by assumption) ?_))); simp only at bb; obtain ⟨b0, b1, b2, b3, b4, bs⟩ := bb))
        go_ret
        refine ⟨by first | rfl | (simp; done), ?_⟩
        (repeat (first | with_reducible exact Kp.refl _ | with_reducible refine Kp.alloc ?_ _ | with_reducible refine Kp.drew ?_ | with_reducible refine Kp.back (by assumption) ?_))
      · unfold bareB
        rw [dec_no (fun h => h0 h.2)]
        have e0 : (n == 0) = false := beq_eq_false_iff_ne.2 h0
        clear h0
        go_enter Try.func38, Try.ntmps38
        go_wp2_with (first | (go_at_call 45; (with_reducible refine (c_rName ⟨#[]⟩ _ hs).mono ?_); rintro e w1 ⟨rfl, hk1⟩; rw [hq]; have bb := boxed (w := w) (h := ⟨43, ⟨#[]⟩, n, at_, la, ll, lc⟩) (show Kp _ w1 by (repeat (first | with_reducible exact Kp.refl _ | with_reducible refine Kp.alloc ?_ _ | with_reducible refine Kp.drew ?_ | with_reducible refine Kp.back (by assumption) ?_))); simp only at bb; obtain ⟨b0, b1, b2, b3, b4, bs⟩ := bb))
        go_ret
        refine ⟨by first | rfl | (simp; done), ?_⟩
        (repeat (first | with_reducible exact Kp.refl _ | with_reducible refine Kp.alloc ?_ _ | with_reducible refine Kp.drew ?_ | with_reducible refine Kp.back (by assumption) ?_))
    · unfold bareB
      rw [dec_no (fun h => t0 h.1)]
      go_enter Try.func38, Try.ntmps38
      go_wp2_with (first | (go_at_call 45; (with_reducible refine (c_rName tx _ hs).mono ?_); rintro e w1 ⟨rfl, hk1⟩; rw [hq]; have bb := boxed (w := w) (h := ⟨43, tx, n, at_, la, ll, lc⟩) (show Kp _ w1 by (repeat (first | with_reducible exact Kp.refl _ | with_reducible refine Kp.alloc ?_ _ | with_reducible refine Kp.drew ?_ | with_reducible refine Kp.back (by assumption) ?_))); simp only at bb; obtain ⟨b0, b1, b2, b3, b4, bs⟩ := bb))
      go_ret
      refine ⟨by first | rfl | (simp; done), ?_⟩
      (repeat (first | with_reducible exact Kp.refl _ | with_reducible refine Kp.alloc ?_ _ | with_reducible refine Kp.drew ?_ | with_reducible refine Kp.back (by assumption) ?_))
  | true =>
    rw [Bool.true_and]
    by_cases h0 : n = 0
    · rw [decide_eq_true h0, Bool.or_true]
      have e0 : (n == 0) = true := beq_iff_eq.2 h0
      clear h0
      go_enter Try.func38, Try.ntmps38
      go_wp2_with (first | (go_at_call 45; (with_reducible refine (c_rName tx _ hs).mono ?_); rintro e w1 ⟨rfl, hk1⟩; rw [hq]; have bb := boxed (w := w) (h := ⟨43, tx, n, at_, la, ll, lc⟩) (show Kp _ w1 by (repeat (first | with_reducible exact Kp.refl _ | with_reducible refine Kp.alloc ?_ _ | with_reducible refine Kp.drew ?_ | with_reducible refine Kp.back (by assumption) ?_))); simp only at bb; obtain ⟨b0, b1, b2, b3, b4, bs⟩ := bb))
      go_ret
      refine ⟨by first | rfl | (simp; done), ?_⟩
      (repeat (first | with_reducible exact Kp.refl _ | with_reducible refine Kp.alloc ?_ _ | with_reducible refine Kp.drew ?_ | with_reducible refine Kp.back (by assumption) ?_))
    · rw [decide_eq_false h0, Bool.or_false]
      unfold bareB
      rw [dec_no (fun h => h0 h.2)]
      have e0 : (n == 0) = false := beq_eq_false_iff_ne.2 h0
      clear h0
      go_enter Try.func38, Try.ntmps38
      go_wp2_with (first | (go_at_call 45; (with_reducible refine (c_rName tx _ hs).mono ?_); rintro e w1 ⟨rfl, hk1⟩; rw [hq]; have bb := boxed (w := w) (h := ⟨43, tx, n, at_, la, ll, lc⟩) (show Kp _ w1 by (repeat (first | with_reducible exact Kp.refl _ | with_reducible refine Kp.alloc ?_ _ | with_reducible refine Kp.drew ?_ | with_reducible refine Kp.back (by assumption) ?_))); simp only at bb; obtain ⟨b0, b1, b2, b3, b4, bs⟩ := bb))
      go_ret
      refine ⟨by first | rfl | (simp; done), ?_⟩
      (repeat (first | with_reducible exact Kp.refl _ | with_reducible refine Kp.alloc ?_ _ | with_reducible refine Kp.drew ?_ | with_reducible refine Kp.back (by assumption) ?_))
set_option maxHeartbeats 6400000 in
set_option maxRecDepth 100000 in
theorem label_13 (tx : ByteArray) (n at_ : Int) (la : Option Addr) (ll lc : Nat) (w : World) (hs : tx.size ≤ 140737488351232) :
    Calls Try.prog 38 #[.agg #[.int .i64 13, .string tx, .int .u64 n, .int .i64 at_, .slice la ll lc]] w fun e w' => e = .returned (.bool (eitherB tx n)) ∧ Kp w w' := by
  unfold eitherB
  rcases tx_cases tx with rfl | ⟨t0, t1, t2, t3⟩
  · cases hq : nameB ⟨#[]⟩ with
    | _ =>
      by_cases h0 : n ≤ 1
      · rw [dec_yes ⟨rfl, h0⟩]
        have e0 : decide (n ≤ 1) = true := decide_eq_true h0
        clear h0
        go_enter Try.func38, Try.ntmps38
        go_wp2_with (first | (go_at_call 45; (with_reducible refine (c_rName ⟨#[]⟩ _ hs).mono ?_); rintro e w1 ⟨rfl, hk1⟩; rw [hq]; have bb := boxed (w := w) (h := ⟨13, ⟨#[]⟩, n, at_, la, ll, lc⟩) (show Kp _ w1 by (repeat (first | with_reducible exact Kp.refl _ | with_reducible refine Kp.alloc ?_ _ | with_reducible refine Kp.drew ?_ | with_reducible refine Kp.back (by assumption) ?_))); simp only at bb; obtain ⟨b0, b1, b2, b3, b4, bs⟩ := bb))
        go_ret
        refine ⟨by first | rfl | (simp; done), ?_⟩
        (repeat (first | with_reducible exact Kp.refl _ | with_reducible refine Kp.alloc ?_ _ | with_reducible refine Kp.drew ?_ | with_reducible refine Kp.back (by assumption) ?_))
      · rw [dec_no (fun h => h0 h.2)]
        have e0 : decide (n ≤ 1) = false := decide_eq_false h0
        clear h0
        go_enter Try.func38, Try.ntmps38
        go_wp2_with (first | (go_at_call 45; (with_reducible refine (c_rName ⟨#[]⟩ _ hs).mono ?_); rintro e w1 ⟨rfl, hk1⟩; rw [hq]; have bb := boxed (w := w) (h := ⟨13, ⟨#[]⟩, n, at_, la, ll, lc⟩) (show Kp _ w1 by (repeat (first | with_reducible exact Kp.refl _ | with_reducible refine Kp.alloc ?_ _ | with_reducible refine Kp.drew ?_ | with_reducible refine Kp.back (by assumption) ?_))); simp only at bb; obtain ⟨b0, b1, b2, b3, b4, bs⟩ := bb))
        go_ret
        refine ⟨by first | rfl | (simp; done), ?_⟩
        (repeat (first | with_reducible exact Kp.refl _ | with_reducible refine Kp.alloc ?_ _ | with_reducible refine Kp.drew ?_ | with_reducible refine Kp.back (by assumption) ?_))
  · rw [dec_no (fun h => t0 h.1)]
    cases hq : nameB tx with
    | _ =>
      go_enter Try.func38, Try.ntmps38
      go_wp2_with (first | (go_at_call 45; (with_reducible refine (c_rName tx _ hs).mono ?_); rintro e w1 ⟨rfl, hk1⟩; rw [hq]; have bb := boxed (w := w) (h := ⟨13, tx, n, at_, la, ll, lc⟩) (show Kp _ w1 by (repeat (first | with_reducible exact Kp.refl _ | with_reducible refine Kp.alloc ?_ _ | with_reducible refine Kp.drew ?_ | with_reducible refine Kp.back (by assumption) ?_))); simp only at bb; obtain ⟨b0, b1, b2, b3, b4, bs⟩ := bb))
      go_ret
      refine ⟨by first | rfl | (simp; done), ?_⟩
      (repeat (first | with_reducible exact Kp.refl _ | with_reducible refine Kp.alloc ?_ _ | with_reducible refine Kp.drew ?_ | with_reducible refine Kp.back (by assumption) ?_))
set_option maxHeartbeats 6400000 in
set_option maxRecDepth 100000 in
theorem label_27 (tx : ByteArray) (n at_ : Int) (la : Option Addr) (ll lc : Nat) (w : World) (hs : tx.size ≤ 140737488351232) :
    Calls Try.prog 38 #[.agg #[.int .i64 27, .string tx, .int .u64 n, .int .i64 at_, .slice la ll lc]] w fun e w' => e = .returned (.bool (eitherB tx n)) ∧ Kp w w' := by
  unfold eitherB
  rcases tx_cases tx with rfl | ⟨t0, t1, t2, t3⟩
  · cases hq : nameB ⟨#[]⟩ with
    | _ =>
      by_cases h0 : n ≤ 1
      · rw [dec_yes ⟨rfl, h0⟩]
        have e0 : decide (n ≤ 1) = true := decide_eq_true h0
        clear h0
        go_enter Try.func38, Try.ntmps38
        go_wp2_with (first | (go_at_call 45; (with_reducible refine (c_rName ⟨#[]⟩ _ hs).mono ?_); rintro e w1 ⟨rfl, hk1⟩; rw [hq]; have bb := boxed (w := w) (h := ⟨27, ⟨#[]⟩, n, at_, la, ll, lc⟩) (show Kp _ w1 by (repeat (first | with_reducible exact Kp.refl _ | with_reducible refine Kp.alloc ?_ _ | with_reducible refine Kp.drew ?_ | with_reducible refine Kp.back (by assumption) ?_))); simp only at bb; obtain ⟨b0, b1, b2, b3, b4, bs⟩ := bb))
        go_ret
        refine ⟨by first | rfl | (simp; done), ?_⟩
        (repeat (first | with_reducible exact Kp.refl _ | with_reducible refine Kp.alloc ?_ _ | with_reducible refine Kp.drew ?_ | with_reducible refine Kp.back (by assumption) ?_))
      · rw [dec_no (fun h => h0 h.2)]
        have e0 : decide (n ≤ 1) = false := decide_eq_false h0
        clear h0
        go_enter Try.func38, Try.ntmps38
        go_wp2_with (first | (go_at_call 45; (with_reducible refine (c_rName ⟨#[]⟩ _ hs).mono ?_); rintro e w1 ⟨rfl, hk1⟩; rw [hq]; have bb := boxed (w := w) (h := ⟨27, ⟨#[]⟩, n, at_, la, ll, lc⟩) (show Kp _ w1 by (repeat (first | with_reducible exact Kp.refl _ | with_reducible refine Kp.alloc ?_ _ | with_reducible refine Kp.drew ?_ | with_reducible refine Kp.back (by assumption) ?_))); simp only at bb; obtain ⟨b0, b1, b2, b3, b4, bs⟩ := bb))
        go_ret
        refine ⟨by first | rfl | (simp; done), ?_⟩
        (repeat (first | with_reducible exact Kp.refl _ | with_reducible refine Kp.alloc ?_ _ | with_reducible refine Kp.drew ?_ | with_reducible refine Kp.back (by assumption) ?_))
  · rw [dec_no (fun h => t0 h.1)]
    cases hq : nameB tx with
    | _ =>
      go_enter Try.func38, Try.ntmps38
      go_wp2_with (first | (go_at_call 45; (with_reducible refine (c_rName tx _ hs).mono ?_); rintro e w1 ⟨rfl, hk1⟩; rw [hq]; have bb := boxed (w := w) (h := ⟨27, tx, n, at_, la, ll, lc⟩) (show Kp _ w1 by (repeat (first | with_reducible exact Kp.refl _ | with_reducible refine Kp.alloc ?_ _ | with_reducible refine Kp.drew ?_ | with_reducible refine Kp.back (by assumption) ?_))); simp only at bb; obtain ⟨b0, b1, b2, b3, b4, bs⟩ := bb))
      go_ret
      refine ⟨by first | rfl | (simp; done), ?_⟩
      (repeat (first | with_reducible exact Kp.refl _ | with_reducible refine Kp.alloc ?_ _ | with_reducible refine Kp.drew ?_ | with_reducible refine Kp.back (by assumption) ?_))
set_option maxHeartbeats 6400000 in
set_option maxRecDepth 100000 in
theorem label_29 (tx : ByteArray) (n at_ : Int) (la : Option Addr) (ll lc : Nat) (w : World) (hs : tx.size ≤ 140737488351232) :
    Calls Try.prog 38 #[.agg #[.int .i64 29, .string tx, .int .u64 n, .int .i64 at_, .slice la ll lc]] w fun e w' => e = .returned (.bool (eitherB tx n)) ∧ Kp w w' := by
  unfold eitherB
  rcases tx_cases tx with rfl | ⟨t0, t1, t2, t3⟩
  · cases hq : nameB ⟨#[]⟩ with
    | _ =>
      by_cases h0 : n ≤ 1
      · rw [dec_yes ⟨rfl, h0⟩]
        have e0 : decide (n ≤ 1) = true := decide_eq_true h0
        clear h0
        go_enter Try.func38, Try.ntmps38
        go_wp2_with (first | (go_at_call 45; (with_reducible refine (c_rName ⟨#[]⟩ _ hs).mono ?_); rintro e w1 ⟨rfl, hk1⟩; rw [hq]; have bb := boxed (w := w) (h := ⟨29, ⟨#[]⟩, n, at_, la, ll, lc⟩) (show Kp _ w1 by (repeat (first | with_reducible exact Kp.refl _ | with_reducible refine Kp.alloc ?_ _ | with_reducible refine Kp.drew ?_ | with_reducible refine Kp.back (by assumption) ?_))); simp only at bb; obtain ⟨b0, b1, b2, b3, b4, bs⟩ := bb))
        go_ret
        refine ⟨by first | rfl | (simp; done), ?_⟩
        (repeat (first | with_reducible exact Kp.refl _ | with_reducible refine Kp.alloc ?_ _ | with_reducible refine Kp.drew ?_ | with_reducible refine Kp.back (by assumption) ?_))
      · rw [dec_no (fun h => h0 h.2)]
        have e0 : decide (n ≤ 1) = false := decide_eq_false h0
        clear h0
        go_enter Try.func38, Try.ntmps38
        go_wp2_with (first | (go_at_call 45; (with_reducible refine (c_rName ⟨#[]⟩ _ hs).mono ?_); rintro e w1 ⟨rfl, hk1⟩; rw [hq]; have bb := boxed (w := w) (h := ⟨29, ⟨#[]⟩, n, at_, la, ll, lc⟩) (show Kp _ w1 by (repeat (first | with_reducible exact Kp.refl _ | with_reducible refine Kp.alloc ?_ _ | with_reducible refine Kp.drew ?_ | with_reducible refine Kp.back (by assumption) ?_))); simp only at bb; obtain ⟨b0, b1, b2, b3, b4, bs⟩ := bb))
        go_ret
        refine ⟨by first | rfl | (simp; done), ?_⟩
        (repeat (first | with_reducible exact Kp.refl _ | with_reducible refine Kp.alloc ?_ _ | with_reducible refine Kp.drew ?_ | with_reducible refine Kp.back (by assumption) ?_))
  · rw [dec_no (fun h => t0 h.1)]
    cases hq : nameB tx with
    | _ =>
      go_enter Try.func38, Try.ntmps38
      go_wp2_with (first | (go_at_call 45; (with_reducible refine (c_rName tx _ hs).mono ?_); rintro e w1 ⟨rfl, hk1⟩; rw [hq]; have bb := boxed (w := w) (h := ⟨29, tx, n, at_, la, ll, lc⟩) (show Kp _ w1 by (repeat (first | with_reducible exact Kp.refl _ | with_reducible refine Kp.alloc ?_ _ | with_reducible refine Kp.drew ?_ | with_reducible refine Kp.back (by assumption) ?_))); simp only at bb; obtain ⟨b0, b1, b2, b3, b4, bs⟩ := bb))
      go_ret
      refine ⟨by first | rfl | (simp; done), ?_⟩
      (repeat (first | with_reducible exact Kp.refl _ | with_reducible refine Kp.alloc ?_ _ | with_reducible refine Kp.drew ?_ | with_reducible refine Kp.back (by assumption) ?_))
set_option maxHeartbeats 6400000 in
set_option maxRecDepth 100000 in
theorem label_32 (tx : ByteArray) (n at_ : Int) (la : Option Addr) (ll lc : Nat) (w : World) (hs : tx.size ≤ 140737488351232) :
    Calls Try.prog 38 #[.agg #[.int .i64 32, .string tx, .int .u64 n, .int .i64 at_, .slice la ll lc]] w fun e w' => e = .returned (.bool (eitherB tx n)) ∧ Kp w w' := by
  unfold eitherB
  rcases tx_cases tx with rfl | ⟨t0, t1, t2, t3⟩
  · cases hq : nameB ⟨#[]⟩ with
    | _ =>
      by_cases h0 : n ≤ 1
      · rw [dec_yes ⟨rfl, h0⟩]
        have e0 : decide (n ≤ 1) = true := decide_eq_true h0
        clear h0
        go_enter Try.func38, Try.ntmps38
        go_wp2_with (first | (go_at_call 45; (with_reducible refine (c_rName ⟨#[]⟩ _ hs).mono ?_); rintro e w1 ⟨rfl, hk1⟩; rw [hq]; have bb := boxed (w := w) (h := ⟨32, ⟨#[]⟩, n, at_, la, ll, lc⟩) (show Kp _ w1 by (repeat (first | with_reducible exact Kp.refl _ | with_reducible refine Kp.alloc ?_ _ | with_reducible refine Kp.drew ?_ | with_reducible refine Kp.back (by assumption) ?_))); simp only at bb; obtain ⟨b0, b1, b2, b3, b4, bs⟩ := bb))
        go_ret
        refine ⟨by first | rfl | (simp; done), ?_⟩
        (repeat (first | with_reducible exact Kp.refl _ | with_reducible refine Kp.alloc ?_ _ | with_reducible refine Kp.drew ?_ | with_reducible refine Kp.back (by assumption) ?_))
      · rw [dec_no (fun h => h0 h.2)]
        have e0 : decide (n ≤ 1) = false := decide_eq_false h0
        clear h0
        go_enter Try.func38, Try.ntmps38
        go_wp2_with (first | (go_at_call 45; (with_reducible refine (c_rName ⟨#[]⟩ _ hs).mono ?_); rintro e w1 ⟨rfl, hk1⟩; rw [hq]; have bb := boxed (w := w) (h := ⟨32, ⟨#[]⟩, n, at_, la, ll, lc⟩) (show Kp _ w1 by (repeat (first | with_reducible exact Kp.refl _ | with_reducible refine Kp.alloc ?_ _ | with_reducible refine Kp.drew ?_ | with_reducible refine Kp.back (by assumption) ?_))); simp only at bb; obtain ⟨b0, b1, b2, b3, b4, bs⟩ := bb))
        go_ret
        refine ⟨by first | rfl | (simp; done), ?_⟩
        (repeat (first | with_reducible exact Kp.refl _ | with_reducible refine Kp.alloc ?_ _ | with_reducible refine Kp.drew ?_ | with_reducible refine Kp.back (by assumption) ?_))
  · rw [dec_no (fun h => t0 h.1)]
    cases hq : nameB tx with
    | _ =>
      go_enter Try.func38, Try.ntmps38
      go_wp2_with (first | (go_at_call 45; (with_reducible refine (c_rName tx _ hs).mono ?_); rintro e w1 ⟨rfl, hk1⟩; rw [hq]; have bb := boxed (w := w) (h := ⟨32, tx, n, at_, la, ll, lc⟩) (show Kp _ w1 by (repeat (first | with_reducible exact Kp.refl _ | with_reducible refine Kp.alloc ?_ _ | with_reducible refine Kp.drew ?_ | with_reducible refine Kp.back (by assumption) ?_))); simp only at bb; obtain ⟨b0, b1, b2, b3, b4, bs⟩ := bb))
      go_ret
      refine ⟨by first | rfl | (simp; done), ?_⟩
      (repeat (first | with_reducible exact Kp.refl _ | with_reducible refine Kp.alloc ?_ _ | with_reducible refine Kp.drew ?_ | with_reducible refine Kp.back (by assumption) ?_))
set_option maxHeartbeats 6400000 in
set_option maxRecDepth 100000 in
theorem label_31 (tx : ByteArray) (n at_ : Int) (la : Option Addr) (ll lc : Nat) (w : World) (hs : tx.size ≤ 140737488351232) :
    Calls Try.prog 38 #[.agg #[.int .i64 31, .string tx, .int .u64 n, .int .i64 at_, .slice la ll lc]] w fun e w' => e = .returned (.bool (@decide (tx = ⟨#[]⟩) (Classical.propDecidable _))) ∧ Kp w w' := by
  rcases tx_cases tx with rfl | ⟨t0, t1, t2, t3⟩
  · rw [dec_yes rfl]
    cases hq : nameB ⟨#[]⟩ with
    | _ =>
      go_enter Try.func38, Try.ntmps38
      go_wp2_with (first | (go_at_call 45; (with_reducible refine (c_rName ⟨#[]⟩ _ hs).mono ?_); rintro e w1 ⟨rfl, hk1⟩; rw [hq]; have bb := boxed (w := w) (h := ⟨31, ⟨#[]⟩, n, at_, la, ll, lc⟩) (show Kp _ w1 by (repeat (first | with_reducible exact Kp.refl _ | with_reducible refine Kp.alloc ?_ _ | with_reducible refine Kp.drew ?_ | with_reducible refine Kp.back (by assumption) ?_))); simp only at bb; obtain ⟨b0, b1, b2, b3, b4, bs⟩ := bb))
      go_ret
      refine ⟨by first | rfl | (simp; done), ?_⟩
      (repeat (first | with_reducible exact Kp.refl _ | with_reducible refine Kp.alloc ?_ _ | with_reducible refine Kp.drew ?_ | with_reducible refine Kp.back (by assumption) ?_))
  · rw [dec_no t0]
    cases hq : nameB tx with
    | _ =>
      go_enter Try.func38, Try.ntmps38
      go_wp2_with (first | (go_at_call 45; (with_reducible refine (c_rName tx _ hs).mono ?_); rintro e w1 ⟨rfl, hk1⟩; rw [hq]; have bb := boxed (w := w) (h := ⟨31, tx, n, at_, la, ll, lc⟩) (show Kp _ w1 by (repeat (first | with_reducible exact Kp.refl _ | with_reducible refine Kp.alloc ?_ _ | with_reducible refine Kp.drew ?_ | with_reducible refine Kp.back (by assumption) ?_))); simp only at bb; obtain ⟨b0, b1, b2, b3, b4, bs⟩ := bb))
      go_ret
      refine ⟨by first | rfl | (simp; done), ?_⟩
      (repeat (first | with_reducible exact Kp.refl _ | with_reducible refine Kp.alloc ?_ _ | with_reducible refine Kp.drew ?_ | with_reducible refine Kp.back (by assumption) ?_))
set_option maxHeartbeats 6400000 in
set_option maxRecDepth 100000 in
theorem label_other (tx : ByteArray) (n at_ : Int) (la : Option Addr) (ll lc : Nat) (w : World) (hs : tx.size ≤ 140737488351232) (k : Int) (h2 : k ≠ 2) (h3 : k ≠ 3) (h5 : k ≠ 5) (h10 : k ≠ 10) (h21 : k ≠ 21) (h22 : k ≠ 22) (h30 : k ≠ 30) (h35 : k ≠ 35) (h37 : k ≠ 37) (h8 : k ≠ 8) (h43 : k ≠ 43) (h33 : k ≠ 33) (h13 : k ≠ 13) (h27 : k ≠ 27) (h29 : k ≠ 29) (h32 : k ≠ 32) (h31 : k ≠ 31) :
    Calls Try.prog 38 #[.agg #[.int .i64 k, .string tx, .int .u64 n, .int .i64 at_, .slice la ll lc]] w fun e w' => e = .returned (.bool (bareB tx n)) ∧ Kp w w' := by
  have f2 : (k == 2) = false := beq_eq_false_iff_ne.2 h2
  have f3 : (k == 3) = false := beq_eq_false_iff_ne.2 h3
  have f5 : (k == 5) = false := beq_eq_false_iff_ne.2 h5
  have f10 : (k == 10) = false := beq_eq_false_iff_ne.2 h10
  have f21 : (k == 21) = false := beq_eq_false_iff_ne.2 h21
  have f22 : (k == 22) = false := beq_eq_false_iff_ne.2 h22
  have f30 : (k == 30) = false := beq_eq_false_iff_ne.2 h30
  have f35 : (k == 35) = false := beq_eq_false_iff_ne.2 h35
  have f37 : (k == 37) = false := beq_eq_false_iff_ne.2 h37
  have f8 : (k == 8) = false := beq_eq_false_iff_ne.2 h8
  have f43 : (k == 43) = false := beq_eq_false_iff_ne.2 h43
  have f33 : (k == 33) = false := beq_eq_false_iff_ne.2 h33
  have f13 : (k == 13) = false := beq_eq_false_iff_ne.2 h13
  have f27 : (k == 27) = false := beq_eq_false_iff_ne.2 h27
  have f29 : (k == 29) = false := beq_eq_false_iff_ne.2 h29
  have f32 : (k == 32) = false := beq_eq_false_iff_ne.2 h32
  have f31 : (k == 31) = false := beq_eq_false_iff_ne.2 h31
  clear h2 h3 h5 h10 h21 h22 h30 h35 h37 h8 h43 h33 h13 h27 h29 h32 h31
  unfold bareB
  rcases tx_cases tx with rfl | ⟨t0, t1, t2, t3⟩
  · cases hq : nameB ⟨#[]⟩ with
    | _ =>
      by_cases h0 : n = 0
      · rw [dec_yes ⟨rfl, h0⟩]
        have e0 : (n == 0) = true := beq_iff_eq.2 h0
        clear h0
        go_enter Try.func38, Try.ntmps38
        go_wp2_with (first | (go_at_call 45; (with_reducible refine (c_rName ⟨#[]⟩ _ hs).mono ?_); rintro e w1 ⟨rfl, hk1⟩; rw [hq]; have bb := boxed (w := w) (h := ⟨k, ⟨#[]⟩, n, at_, la, ll, lc⟩) (show Kp _ w1 by (repeat (first | with_reducible exact Kp.refl _ | with_reducible refine Kp.alloc ?_ _ | with_reducible refine Kp.drew ?_ | with_reducible refine Kp.back (by assumption) ?_))); simp only at bb; obtain ⟨b0, b1, b2, b3, b4, bs⟩ := bb))
        go_ret
        refine ⟨by first | rfl | (simp; done), ?_⟩
        (repeat (first | with_reducible exact Kp.refl _ | with_reducible refine Kp.alloc ?_ _ | with_reducible refine Kp.drew ?_ | with_reducible refine Kp.back (by assumption) ?_))
      · rw [dec_no (fun h => h0 h.2)]
        have e0 : (n == 0) = false := beq_eq_false_iff_ne.2 h0
        clear h0
        go_enter Try.func38, Try.ntmps38
        go_wp2_with (first | (go_at_call 45; (with_reducible refine (c_rName ⟨#[]⟩ _ hs).mono ?_); rintro e w1 ⟨rfl, hk1⟩; rw [hq]; have bb := boxed (w := w) (h := ⟨k, ⟨#[]⟩, n, at_, la, ll, lc⟩) (show Kp _ w1 by (repeat (first | with_reducible exact Kp.refl _ | with_reducible refine Kp.alloc ?_ _ | with_reducible refine Kp.drew ?_ | with_reducible refine Kp.back (by assumption) ?_))); simp only at bb; obtain ⟨b0, b1, b2, b3, b4, bs⟩ := bb))
        go_ret
        refine ⟨by first | rfl | (simp; done), ?_⟩
        (repeat (first | with_reducible exact Kp.refl _ | with_reducible refine Kp.alloc ?_ _ | with_reducible refine Kp.drew ?_ | with_reducible refine Kp.back (by assumption) ?_))
  · rw [dec_no (fun h => t0 h.1)]
    cases hq : nameB tx with
    | _ =>
      go_enter Try.func38, Try.ntmps38
      go_wp2_with (first | (go_at_call 45; (with_reducible refine (c_rName tx _ hs).mono ?_); rintro e w1 ⟨rfl, hk1⟩; rw [hq]; have bb := boxed (w := w) (h := ⟨k, tx, n, at_, la, ll, lc⟩) (show Kp _ w1 by (repeat (first | with_reducible exact Kp.refl _ | with_reducible refine Kp.alloc ?_ _ | with_reducible refine Kp.drew ?_ | with_reducible refine Kp.back (by assumption) ?_))); simp only at bb; obtain ⟨b0, b1, b2, b3, b4, bs⟩ := bb))
      go_ret
      refine ⟨by first | rfl | (simp; done), ?_⟩
      (repeat (first | with_reducible exact Kp.refl _ | with_reducible refine Kp.alloc ?_ _ | with_reducible refine Kp.drew ?_ | with_reducible refine Kp.back (by assumption) ?_))
end Go.Proofs.Ytefanekfelokmaa
