/- Results, type parameters, function types, return, numbers, operators, brackets: what their Kinds ask for. Condition: the node lies in memory. -/
import Derived.Test.YtgamenimbkafjaaF5
import Derived.Deep.RegionHeld3
namespace Go.Proofs.Ytgamenimbkafjaa
open Go.RowKit
set_option linter.unusedVariables false
set_option linter.unusedSimpArgs false
set_option maxHeartbeats 12800000 in
set_option maxRecDepth 100000 in
theorem form_7 (ks : List Int) (tx : ByteArray) (n at_ : Int) (la : Option Addr) (ll lc : Nat) (K : Nat → Hn) (w : World) (hL : ListAt w ks la ll lc K) (hcap : ll ≤ lc) (hs : tx.size ≤ 140737488351232) :
    Calls Try.prog 53 #[.agg #[.int .i64 7, .string tx, .int .u64 n, .int .i64 at_, .slice la ll lc]] w fun e w' => e = .returned (.bool (bareB tx n && (areB ks [] || areB ks [tyK]))) ∧ Kp w w' := by
  have hmf : ∀ (fn : Fn) (first cap : Array Value) (w : World), (Instr.makeFunc fn first cap).run Try.prog w = .ok (.func fn first cap) w := fun _ _ _ _ => rfl
  have HL := Lib.hid hL
  clear hL
  cases hq : bareB tx n with
  | false =>
    rw [Bool.false_and]
    go_enter Try.func53, Try.ntmps53; go_wp2_with (first | (go_at_call 59; (with_reducible refine (c_isBare ⟨7, tx, n, at_, la, ll, lc⟩ _).mono ?_); rintro e w' ⟨rfl, hk1⟩; rw [hq]; have b := boxed (w := w) (h := ⟨7, tx, n, at_, la, ll, lc⟩) (show Kp _ w' by (repeat (first | with_reducible exact Kp.refl _ | with_reducible refine Kp.alloc ?_ _ | with_reducible refine Kp.drew ?_ | with_reducible refine Kp.back hk3 ?_ | with_reducible refine Kp.back hk2 ?_ | with_reducible refine Kp.back hk1 ?_))); simp only at b; obtain ⟨b0, b1, b2, b3, b4, bs⟩ := b)); go_ret; refine ⟨rfl, ?_⟩; (repeat (first | with_reducible exact Kp.refl _ | with_reducible refine Kp.alloc ?_ _ | with_reducible refine Kp.drew ?_ | with_reducible refine Kp.back hk3 ?_ | with_reducible refine Kp.back hk2 ?_ | with_reducible refine Kp.back hk1 ?_))
  | true =>
    rw [Bool.true_and]
    cases h1 : areB ks [] with
    | true =>
      rw [Bool.true_or]
      go_enter Try.func53, Try.ntmps53; go_wp2_with (first | (go_at_call 59; (with_reducible refine (c_isBare ⟨7, tx, n, at_, la, ll, lc⟩ _).mono ?_); rintro e w' ⟨rfl, hk1⟩; rw [hq]; have b := boxed (w := w) (h := ⟨7, tx, n, at_, la, ll, lc⟩) (show Kp _ w' by (repeat (first | with_reducible exact Kp.refl _ | with_reducible refine Kp.alloc ?_ _ | with_reducible refine Kp.drew ?_ | with_reducible refine Kp.back hk3 ?_ | with_reducible refine Kp.back hk2 ?_ | with_reducible refine Kp.back hk1 ?_))); simp only at b; obtain ⟨b0, b1, b2, b3, b4, bs⟩ := b) | (go_at_call 58; (with_reducible refine (c_are _ ks la ll lc K (HL.out.keep (by (repeat (first | with_reducible exact Kp.refl _ | with_reducible refine Kp.alloc ?_ _ | with_reducible refine Kp.drew ?_ | with_reducible refine Kp.back hk3 ?_ | with_reducible refine Kp.back hk2 ?_ | with_reducible refine Kp.back hk1 ?_)))) [] _ _ _ _ (sorts0 _)).mono ?_); rintro e w' ⟨rfl, hk2⟩; rw [h1]; have b := boxed (w := w) (h := ⟨7, tx, n, at_, la, ll, lc⟩) (show Kp _ w' by (repeat (first | with_reducible exact Kp.refl _ | with_reducible refine Kp.alloc ?_ _ | with_reducible refine Kp.drew ?_ | with_reducible refine Kp.back hk3 ?_ | with_reducible refine Kp.back hk2 ?_ | with_reducible refine Kp.back hk1 ?_))); simp only at b; obtain ⟨b0, b1, b2, b3, b4, bs⟩ := b)); go_ret; refine ⟨rfl, ?_⟩; (repeat (first | with_reducible exact Kp.refl _ | with_reducible refine Kp.alloc ?_ _ | with_reducible refine Kp.drew ?_ | with_reducible refine Kp.back hk3 ?_ | with_reducible refine Kp.back hk2 ?_ | with_reducible refine Kp.back hk1 ?_))
    | false =>
      rw [Bool.false_or]
      go_enter Try.func53, Try.ntmps53; go_wp2_with (first | (go_at_call 59; (with_reducible refine (c_isBare ⟨7, tx, n, at_, la, ll, lc⟩ _).mono ?_); rintro e w' ⟨rfl, hk1⟩; rw [hq]; have b := boxed (w := w) (h := ⟨7, tx, n, at_, la, ll, lc⟩) (show Kp _ w' by (repeat (first | with_reducible exact Kp.refl _ | with_reducible refine Kp.alloc ?_ _ | with_reducible refine Kp.drew ?_ | with_reducible refine Kp.back hk3 ?_ | with_reducible refine Kp.back hk2 ?_ | with_reducible refine Kp.back hk1 ?_))); simp only at b; obtain ⟨b0, b1, b2, b3, b4, bs⟩ := b) | (go_at_call 58; (with_reducible refine (c_are _ ks la ll lc K (HL.out.keep (by (repeat (first | with_reducible exact Kp.refl _ | with_reducible refine Kp.alloc ?_ _ | with_reducible refine Kp.drew ?_ | with_reducible refine Kp.back hk3 ?_ | with_reducible refine Kp.back hk2 ?_ | with_reducible refine Kp.back hk1 ?_)))) [] _ _ _ _ (sorts0 _)).mono ?_); rintro e w' ⟨rfl, hk2⟩; rw [h1]; have b := boxed (w := w) (h := ⟨7, tx, n, at_, la, ll, lc⟩) (show Kp _ w' by (repeat (first | with_reducible exact Kp.refl _ | with_reducible refine Kp.alloc ?_ _ | with_reducible refine Kp.drew ?_ | with_reducible refine Kp.back hk3 ?_ | with_reducible refine Kp.back hk2 ?_ | with_reducible refine Kp.back hk1 ?_))); simp only at b; obtain ⟨b0, b1, b2, b3, b4, bs⟩ := b) | (go_at_call 58; (with_reducible refine (c_are _ ks la ll lc K (HL.out.keep (by (repeat (first | with_reducible exact Kp.refl _ | with_reducible refine Kp.alloc ?_ _ | with_reducible refine Kp.drew ?_ | with_reducible refine Kp.back hk3 ?_ | with_reducible refine Kp.back hk2 ?_ | with_reducible refine Kp.back hk1 ?_)))) [tyK] _ _ _ _ (sorts1 (by simp) (sort_ty _))).mono ?_); rintro e w' ⟨rfl, hk3⟩; have b := boxed (w := w) (h := ⟨7, tx, n, at_, la, ll, lc⟩) (show Kp _ w' by (repeat (first | with_reducible exact Kp.refl _ | with_reducible refine Kp.alloc ?_ _ | with_reducible refine Kp.drew ?_ | with_reducible refine Kp.back hk3 ?_ | with_reducible refine Kp.back hk2 ?_ | with_reducible refine Kp.back hk1 ?_))); simp only at b; obtain ⟨b0, b1, b2, b3, b4, bs⟩ := b)); go_ret; refine ⟨rfl, ?_⟩; (repeat (first | with_reducible exact Kp.refl _ | with_reducible refine Kp.alloc ?_ _ | with_reducible refine Kp.drew ?_ | with_reducible refine Kp.back hk3 ?_ | with_reducible refine Kp.back hk2 ?_ | with_reducible refine Kp.back hk1 ?_))
set_option maxHeartbeats 12800000 in
set_option maxRecDepth 100000 in
theorem form_28 (ks : List Int) (tx : ByteArray) (n at_ : Int) (la : Option Addr) (ll lc : Nat) (K : Nat → Hn) (w : World) (hL : ListAt w ks la ll lc K) (hcap : ll ≤ lc) (hs : tx.size ≤ 140737488351232) :
    Calls Try.prog 51 #[.agg #[.int .i64 28, .string tx, .int .u64 n, .int .i64 at_, .slice la ll lc]] w fun e w' => e = .returned (.bool (bareB tx n && (areB ks [] || areB ks [exK]))) ∧ Kp w w' := by
  have hmf : ∀ (fn : Fn) (first cap : Array Value) (w : World), (Instr.makeFunc fn first cap).run Try.prog w = .ok (.func fn first cap) w := fun _ _ _ _ => rfl
  have HL := Lib.hid hL
  clear hL
  cases hq : bareB tx n with
  | false =>
    rw [Bool.false_and]
    go_enter Try.func51, Try.ntmps51; go_wp2_with (first | (go_at_call 59; (with_reducible refine (c_isBare ⟨28, tx, n, at_, la, ll, lc⟩ _).mono ?_); rintro e w' ⟨rfl, hk1⟩; rw [hq]; have b := boxed (w := w) (h := ⟨28, tx, n, at_, la, ll, lc⟩) (show Kp _ w' by (repeat (first | with_reducible exact Kp.refl _ | with_reducible refine Kp.alloc ?_ _ | with_reducible refine Kp.drew ?_ | with_reducible refine Kp.back hk3 ?_ | with_reducible refine Kp.back hk2 ?_ | with_reducible refine Kp.back hk1 ?_))); simp only at b; obtain ⟨b0, b1, b2, b3, b4, bs⟩ := b) | (go_at_call 31; (with_reducible refine (c_of _ _ _ _).mono ?_); rintro e w' ⟨rfl, rfl⟩)); go_ret; refine ⟨rfl, ?_⟩; (repeat (first | with_reducible exact Kp.refl _ | with_reducible refine Kp.alloc ?_ _ | with_reducible refine Kp.drew ?_ | with_reducible refine Kp.back hk3 ?_ | with_reducible refine Kp.back hk2 ?_ | with_reducible refine Kp.back hk1 ?_))
  | true =>
    rw [Bool.true_and]
    cases h1 : areB ks [] with
    | true =>
      rw [Bool.true_or]
      go_enter Try.func51, Try.ntmps51; go_wp2_with (first | (go_at_call 59; (with_reducible refine (c_isBare ⟨28, tx, n, at_, la, ll, lc⟩ _).mono ?_); rintro e w' ⟨rfl, hk1⟩; rw [hq]; have b := boxed (w := w) (h := ⟨28, tx, n, at_, la, ll, lc⟩) (show Kp _ w' by (repeat (first | with_reducible exact Kp.refl _ | with_reducible refine Kp.alloc ?_ _ | with_reducible refine Kp.drew ?_ | with_reducible refine Kp.back hk3 ?_ | with_reducible refine Kp.back hk2 ?_ | with_reducible refine Kp.back hk1 ?_))); simp only at b; obtain ⟨b0, b1, b2, b3, b4, bs⟩ := b) | (go_at_call 58; (with_reducible refine (c_are _ ks la ll lc K (HL.out.keep (by (repeat (first | with_reducible exact Kp.refl _ | with_reducible refine Kp.alloc ?_ _ | with_reducible refine Kp.drew ?_ | with_reducible refine Kp.back hk3 ?_ | with_reducible refine Kp.back hk2 ?_ | with_reducible refine Kp.back hk1 ?_)))) [] _ _ _ _ (sorts0 _)).mono ?_); rintro e w' ⟨rfl, hk2⟩; rw [h1]; have b := boxed (w := w) (h := ⟨28, tx, n, at_, la, ll, lc⟩) (show Kp _ w' by (repeat (first | with_reducible exact Kp.refl _ | with_reducible refine Kp.alloc ?_ _ | with_reducible refine Kp.drew ?_ | with_reducible refine Kp.back hk3 ?_ | with_reducible refine Kp.back hk2 ?_ | with_reducible refine Kp.back hk1 ?_))); simp only at b; obtain ⟨b0, b1, b2, b3, b4, bs⟩ := b) | (go_at_call 31; (with_reducible refine (c_of _ _ _ _).mono ?_); rintro e w' ⟨rfl, rfl⟩)); go_ret; refine ⟨rfl, ?_⟩; (repeat (first | with_reducible exact Kp.refl _ | with_reducible refine Kp.alloc ?_ _ | with_reducible refine Kp.drew ?_ | with_reducible refine Kp.back hk3 ?_ | with_reducible refine Kp.back hk2 ?_ | with_reducible refine Kp.back hk1 ?_))
    | false =>
      rw [Bool.false_or]
      go_enter Try.func51, Try.ntmps51; go_wp2_with (first | (go_at_call 59; (with_reducible refine (c_isBare ⟨28, tx, n, at_, la, ll, lc⟩ _).mono ?_); rintro e w' ⟨rfl, hk1⟩; rw [hq]; have b := boxed (w := w) (h := ⟨28, tx, n, at_, la, ll, lc⟩) (show Kp _ w' by (repeat (first | with_reducible exact Kp.refl _ | with_reducible refine Kp.alloc ?_ _ | with_reducible refine Kp.drew ?_ | with_reducible refine Kp.back hk3 ?_ | with_reducible refine Kp.back hk2 ?_ | with_reducible refine Kp.back hk1 ?_))); simp only at b; obtain ⟨b0, b1, b2, b3, b4, bs⟩ := b) | (go_at_call 58; (with_reducible refine (c_are _ ks la ll lc K (HL.out.keep (by (repeat (first | with_reducible exact Kp.refl _ | with_reducible refine Kp.alloc ?_ _ | with_reducible refine Kp.drew ?_ | with_reducible refine Kp.back hk3 ?_ | with_reducible refine Kp.back hk2 ?_ | with_reducible refine Kp.back hk1 ?_)))) [] _ _ _ _ (sorts0 _)).mono ?_); rintro e w' ⟨rfl, hk2⟩; rw [h1]; have b := boxed (w := w) (h := ⟨28, tx, n, at_, la, ll, lc⟩) (show Kp _ w' by (repeat (first | with_reducible exact Kp.refl _ | with_reducible refine Kp.alloc ?_ _ | with_reducible refine Kp.drew ?_ | with_reducible refine Kp.back hk3 ?_ | with_reducible refine Kp.back hk2 ?_ | with_reducible refine Kp.back hk1 ?_))); simp only at b; obtain ⟨b0, b1, b2, b3, b4, bs⟩ := b) | (go_at_call 58; (with_reducible refine (c_are _ ks la ll lc K (HL.out.keep (by (repeat (first | with_reducible exact Kp.refl _ | with_reducible refine Kp.alloc ?_ _ | with_reducible refine Kp.drew ?_ | with_reducible refine Kp.back hk3 ?_ | with_reducible refine Kp.back hk2 ?_ | with_reducible refine Kp.back hk1 ?_)))) [exK] _ _ _ _ (sorts1 (by simp) (sort_ex _))).mono ?_); rintro e w' ⟨rfl, hk3⟩; have b := boxed (w := w) (h := ⟨28, tx, n, at_, la, ll, lc⟩) (show Kp _ w' by (repeat (first | with_reducible exact Kp.refl _ | with_reducible refine Kp.alloc ?_ _ | with_reducible refine Kp.drew ?_ | with_reducible refine Kp.back hk3 ?_ | with_reducible refine Kp.back hk2 ?_ | with_reducible refine Kp.back hk1 ?_))); simp only at b; obtain ⟨b0, b1, b2, b3, b4, bs⟩ := b) | (go_at_call 31; (with_reducible refine (c_of _ _ _ _).mono ?_); rintro e w' ⟨rfl, rfl⟩)); go_ret; refine ⟨rfl, ?_⟩; (repeat (first | with_reducible exact Kp.refl _ | with_reducible refine Kp.alloc ?_ _ | with_reducible refine Kp.drew ?_ | with_reducible refine Kp.back hk3 ?_ | with_reducible refine Kp.back hk2 ?_ | with_reducible refine Kp.back hk1 ?_))
set_option maxHeartbeats 12800000 in
set_option maxRecDepth 100000 in
theorem form_8 (ks : List Int) (tx : ByteArray) (n at_ : Int) (la : Option Addr) (ll lc : Nat) (K : Nat → Hn) (w : World) (hL : ListAt w ks la ll lc K) (hcap : ll ≤ lc) (hs : tx.size ≤ 140737488351232) :
    Calls Try.prog 53 #[.agg #[.int .i64 8, .string tx, .int .u64 n, .int .i64 at_, .slice la ll lc]] w fun e w' => e = .returned (.bool (nameB tx && decide (1 ≤ n ∧ n ≤ 3) && areB ks [])) ∧ Kp w w' := by
  have hmf : ∀ (fn : Fn) (first cap : Array Value) (w : World), (Instr.makeFunc fn first cap).run Try.prog w = .ok (.func fn first cap) w := fun _ _ _ _ => rfl
  have HL := Lib.hid hL
  clear hL
  cases hq : nameB tx with
  | false =>
    rw [Bool.false_and, Bool.false_and]
    go_enter Try.func53, Try.ntmps53; go_wp2_with (first | (go_at_call 67; (with_reducible refine (c_scanName tx _ hs).mono ?_); rintro e w' ⟨rfl, hk1⟩; rw [hq]; have b := boxed (w := w) (h := ⟨8, tx, n, at_, la, ll, lc⟩) (show Kp _ w' by (repeat (first | with_reducible exact Kp.refl _ | with_reducible refine Kp.alloc ?_ _ | with_reducible refine Kp.drew ?_ | with_reducible refine Kp.back hk3 ?_ | with_reducible refine Kp.back hk2 ?_ | with_reducible refine Kp.back hk1 ?_))); simp only at b; obtain ⟨b0, b1, b2, b3, b4, bs⟩ := b)); go_ret; refine ⟨rfl, ?_⟩; (repeat (first | with_reducible exact Kp.refl _ | with_reducible refine Kp.alloc ?_ _ | with_reducible refine Kp.drew ?_ | with_reducible refine Kp.back hk3 ?_ | with_reducible refine Kp.back hk2 ?_ | with_reducible refine Kp.back hk1 ?_))
  | true =>
    rw [Bool.true_and]
    have hn : n < 1 ∨ (1 ≤ n ∧ n ≤ 3) ∨ 3 < n := by omega
    rcases hn with h | h | h
    · rw [show decide (1 ≤ n ∧ n ≤ 3) = false from decide_eq_false (by omega), Bool.false_and]
      have d0 : decide (1 ≤ n) = false := decide_eq_false (by omega)
      clear h
      go_enter Try.func53, Try.ntmps53; go_wp2_with (first | (go_at_call 67; (with_reducible refine (c_scanName tx _ hs).mono ?_); rintro e w' ⟨rfl, hk1⟩; rw [hq]; have b := boxed (w := w) (h := ⟨8, tx, n, at_, la, ll, lc⟩) (show Kp _ w' by (repeat (first | with_reducible exact Kp.refl _ | with_reducible refine Kp.alloc ?_ _ | with_reducible refine Kp.drew ?_ | with_reducible refine Kp.back hk3 ?_ | with_reducible refine Kp.back hk2 ?_ | with_reducible refine Kp.back hk1 ?_))); simp only at b; obtain ⟨b0, b1, b2, b3, b4, bs⟩ := b)); go_ret; refine ⟨rfl, ?_⟩; (repeat (first | with_reducible exact Kp.refl _ | with_reducible refine Kp.alloc ?_ _ | with_reducible refine Kp.drew ?_ | with_reducible refine Kp.back hk3 ?_ | with_reducible refine Kp.back hk2 ?_ | with_reducible refine Kp.back hk1 ?_))
    · rw [show decide (1 ≤ n ∧ n ≤ 3) = true from decide_eq_true (by omega), Bool.true_and]
      have d0 : decide (1 ≤ n) = true := decide_eq_true (by omega)
      have d1 : decide (n ≤ 3) = true := decide_eq_true (by omega)
      clear h
      go_enter Try.func53, Try.ntmps53; go_wp2_with (first | (go_at_call 67; (with_reducible refine (c_scanName tx _ hs).mono ?_); rintro e w' ⟨rfl, hk1⟩; rw [hq]; have b := boxed (w := w) (h := ⟨8, tx, n, at_, la, ll, lc⟩) (show Kp _ w' by (repeat (first | with_reducible exact Kp.refl _ | with_reducible refine Kp.alloc ?_ _ | with_reducible refine Kp.drew ?_ | with_reducible refine Kp.back hk3 ?_ | with_reducible refine Kp.back hk2 ?_ | with_reducible refine Kp.back hk1 ?_))); simp only at b; obtain ⟨b0, b1, b2, b3, b4, bs⟩ := b) | (go_at_call 58; (with_reducible refine (c_are _ ks la ll lc K (HL.out.keep (by (repeat (first | with_reducible exact Kp.refl _ | with_reducible refine Kp.alloc ?_ _ | with_reducible refine Kp.drew ?_ | with_reducible refine Kp.back hk3 ?_ | with_reducible refine Kp.back hk2 ?_ | with_reducible refine Kp.back hk1 ?_)))) [] _ _ _ _ (sorts0 _)).mono ?_); rintro e w' ⟨rfl, hk2⟩; have b := boxed (w := w) (h := ⟨8, tx, n, at_, la, ll, lc⟩) (show Kp _ w' by (repeat (first | with_reducible exact Kp.refl _ | with_reducible refine Kp.alloc ?_ _ | with_reducible refine Kp.drew ?_ | with_reducible refine Kp.back hk3 ?_ | with_reducible refine Kp.back hk2 ?_ | with_reducible refine Kp.back hk1 ?_))); simp only at b; obtain ⟨b0, b1, b2, b3, b4, bs⟩ := b)); go_ret; refine ⟨rfl, ?_⟩; (repeat (first | with_reducible exact Kp.refl _ | with_reducible refine Kp.alloc ?_ _ | with_reducible refine Kp.drew ?_ | with_reducible refine Kp.back hk3 ?_ | with_reducible refine Kp.back hk2 ?_ | with_reducible refine Kp.back hk1 ?_))
    · rw [show decide (1 ≤ n ∧ n ≤ 3) = false from decide_eq_false (by omega), Bool.false_and]
      have d0 : decide (1 ≤ n) = true := decide_eq_true (by omega)
      have d1 : decide (n ≤ 3) = false := decide_eq_false (by omega)
      clear h
      go_enter Try.func53, Try.ntmps53; go_wp2_with (first | (go_at_call 67; (with_reducible refine (c_scanName tx _ hs).mono ?_); rintro e w' ⟨rfl, hk1⟩; rw [hq]; have b := boxed (w := w) (h := ⟨8, tx, n, at_, la, ll, lc⟩) (show Kp _ w' by (repeat (first | with_reducible exact Kp.refl _ | with_reducible refine Kp.alloc ?_ _ | with_reducible refine Kp.drew ?_ | with_reducible refine Kp.back hk3 ?_ | with_reducible refine Kp.back hk2 ?_ | with_reducible refine Kp.back hk1 ?_))); simp only at b; obtain ⟨b0, b1, b2, b3, b4, bs⟩ := b)); go_ret; refine ⟨rfl, ?_⟩; (repeat (first | with_reducible exact Kp.refl _ | with_reducible refine Kp.alloc ?_ _ | with_reducible refine Kp.drew ?_ | with_reducible refine Kp.back hk3 ?_ | with_reducible refine Kp.back hk2 ?_ | with_reducible refine Kp.back hk1 ?_))
set_option maxHeartbeats 12800000 in
set_option maxRecDepth 100000 in
theorem form_13 (ks : List Int) (tx : ByteArray) (n at_ : Int) (la : Option Addr) (ll lc : Nat) (K : Nat → Hn) (w : World) (hL : ListAt w ks la ll lc K) (hcap : ll ≤ lc) (hs : tx.size ≤ 140737488351232) (hn : 0 ≤ n ∧ n ≤ 18446744073709551615) :
    Calls Try.prog 50 #[.agg #[.int .i64 13, .string tx, .int .u64 n, .int .i64 at_, .slice la ll lc]] w fun e w' => e = .returned (.bool (eitherB tx n && (decide (n ≤ ll) && decide ((ll : Int) ≤ 16 + n)) && allB ks tyK)) ∧ Kp w w' := by
  have hmf : ∀ (fn : Fn) (first cap : Array Value) (w : World), (Instr.makeFunc fn first cap).run Try.prog w = .ok (.func fn first cap) w := fun _ _ _ _ => rfl
  have HL := Lib.hid hL
  clear hL
  have hbl := HL.out.bl
  cases hq : eitherB tx n with
  | false =>
    rw [Bool.false_and, Bool.false_and]
    go_enter Try.func50, Try.ntmps50; go_wp2_with (first | (go_at_call 60; (with_reducible refine (c_isEither ⟨13, tx, n, at_, la, ll, lc⟩ _).mono ?_); rintro e w' ⟨rfl, hk1⟩; rw [hq]; have b := boxed (w := w) (h := ⟨13, tx, n, at_, la, ll, lc⟩) (show Kp _ w' by (repeat (first | with_reducible exact Kp.refl _ | with_reducible refine Kp.alloc ?_ _ | with_reducible refine Kp.drew ?_ | with_reducible refine Kp.back hk3 ?_ | with_reducible refine Kp.back hk2 ?_ | with_reducible refine Kp.back hk1 ?_))); simp only at b; obtain ⟨b0, b1, b2, b3, b4, bs⟩ := b)); go_ret; refine ⟨rfl, ?_⟩; (repeat (first | with_reducible exact Kp.refl _ | with_reducible refine Kp.alloc ?_ _ | with_reducible refine Kp.drew ?_ | with_reducible refine Kp.back hk3 ?_ | with_reducible refine Kp.back hk2 ?_ | with_reducible refine Kp.back hk1 ?_))
  | true =>
    rw [Bool.true_and]
    have hn1 : n = 0 ∨ n = 1 := by
      unfold eitherB at hq
      have := (@of_decide_eq_true _ (Classical.propDecidable _) hq).2
      omega
    have hc : ((n ≤ ll) ∧ ((ll : Int) ≤ 16 + n)) ∨ (¬ (n ≤ ll)) ∨ ((n ≤ ll) ∧ ¬ ((ll : Int) ≤ 16 + n)) := by omega
    rcases hn1 with rfl | rfl
    · rcases hc with ⟨c1, c2⟩ | c1 | ⟨c1, c2⟩
      · rw [decide_eq_true c1, decide_eq_true c2, Bool.true_and, Bool.true_and]
        have e0 : decide ((ll : Int) ≤ 16) = true := decide_eq_true (by omega)
        clear c1 c2
        (go_enter Try.func50, Try.ntmps50; go_wp2_with (first | (go_at_call 60; (with_reducible refine (c_isEither ⟨13, tx, 0, at_, la, ll, lc⟩ _).mono ?_); rintro e w' ⟨rfl, hk1⟩; rw [hq]; have b := boxed (w := w) (h := ⟨13, tx, 0, at_, la, ll, lc⟩) (show Kp _ w' by (repeat (first | with_reducible exact Kp.refl _ | with_reducible refine Kp.alloc ?_ _ | with_reducible refine Kp.drew ?_ | with_reducible refine Kp.back hk3 ?_ | with_reducible refine Kp.back hk2 ?_ | with_reducible refine Kp.back hk1 ?_))); simp only at b; obtain ⟨b0, b1, b2, b3, b4, bs⟩ := b) | (go_at_call 61; (with_reducible refine (c_areAll _ ks la ll lc K (HL.out.keep (by (repeat (first | with_reducible exact Kp.refl _ | with_reducible refine Kp.alloc ?_ _ | with_reducible refine Kp.drew ?_ | with_reducible refine Kp.back hk3 ?_ | with_reducible refine Kp.back hk2 ?_ | with_reducible refine Kp.back hk1 ?_)))) _ tyK (sort_ty _)).mono ?_); rintro e w' ⟨rfl, hk2⟩; have b := boxed (w := w) (h := ⟨13, tx, 0, at_, la, ll, lc⟩) (show Kp _ w' by (repeat (first | with_reducible exact Kp.refl _ | with_reducible refine Kp.alloc ?_ _ | with_reducible refine Kp.drew ?_ | with_reducible refine Kp.back hk3 ?_ | with_reducible refine Kp.back hk2 ?_ | with_reducible refine Kp.back hk1 ?_))); simp only at b; obtain ⟨b0, b1, b2, b3, b4, bs⟩ := b)))
        go_ret
        refine ⟨rfl, ?_⟩
        (repeat (first | with_reducible exact Kp.refl _ | with_reducible refine Kp.alloc ?_ _ | with_reducible refine Kp.drew ?_ | with_reducible refine Kp.back hk3 ?_ | with_reducible refine Kp.back hk2 ?_ | with_reducible refine Kp.back hk1 ?_))
      · exact absurd (show (0 : Int) ≤ ll by omega) c1
      · rw [decide_eq_true c1, decide_eq_false c2, Bool.and_false, Bool.false_and]
        have e0 : decide ((ll : Int) ≤ 16) = false := decide_eq_false (by omega)
        clear c1 c2
        (go_enter Try.func50, Try.ntmps50; go_wp2_with (first | (go_at_call 60; (with_reducible refine (c_isEither ⟨13, tx, 0, at_, la, ll, lc⟩ _).mono ?_); rintro e w' ⟨rfl, hk1⟩; rw [hq]; have b := boxed (w := w) (h := ⟨13, tx, 0, at_, la, ll, lc⟩) (show Kp _ w' by (repeat (first | with_reducible exact Kp.refl _ | with_reducible refine Kp.alloc ?_ _ | with_reducible refine Kp.drew ?_ | with_reducible refine Kp.back hk3 ?_ | with_reducible refine Kp.back hk2 ?_ | with_reducible refine Kp.back hk1 ?_))); simp only at b; obtain ⟨b0, b1, b2, b3, b4, bs⟩ := b)))
        go_ret
        refine ⟨rfl, ?_⟩
        (repeat (first | with_reducible exact Kp.refl _ | with_reducible refine Kp.alloc ?_ _ | with_reducible refine Kp.drew ?_ | with_reducible refine Kp.back hk3 ?_ | with_reducible refine Kp.back hk2 ?_ | with_reducible refine Kp.back hk1 ?_))
    · rcases hc with ⟨c1, c2⟩ | c1 | ⟨c1, c2⟩
      · rw [decide_eq_true c1, decide_eq_true c2, Bool.true_and, Bool.true_and]
        have e0 : decide ((0 : Int) ≤ (ll : Int) - 1) = true := decide_eq_true (by omega)
        have e1 : decide ((1 : Int) ≤ (ll : Int)) = true := decide_eq_true (by omega)
        have e2 : decide ((ll : Int) - 1 ≤ 16) = true := decide_eq_true (by omega)
        have e3 : decide ((ll : Int) ≤ 17) = true := decide_eq_true (by omega)
        clear c1 c2
        (go_enter Try.func50, Try.ntmps50; go_wp2_with (first | (go_at_call 60; (with_reducible refine (c_isEither ⟨13, tx, 1, at_, la, ll, lc⟩ _).mono ?_); rintro e w' ⟨rfl, hk1⟩; rw [hq]; have b := boxed (w := w) (h := ⟨13, tx, 1, at_, la, ll, lc⟩) (show Kp _ w' by (repeat (first | with_reducible exact Kp.refl _ | with_reducible refine Kp.alloc ?_ _ | with_reducible refine Kp.drew ?_ | with_reducible refine Kp.back hk3 ?_ | with_reducible refine Kp.back hk2 ?_ | with_reducible refine Kp.back hk1 ?_))); simp only at b; obtain ⟨b0, b1, b2, b3, b4, bs⟩ := b) | (go_at_call 61; (with_reducible refine (c_areAll _ ks la ll lc K (HL.out.keep (by (repeat (first | with_reducible exact Kp.refl _ | with_reducible refine Kp.alloc ?_ _ | with_reducible refine Kp.drew ?_ | with_reducible refine Kp.back hk3 ?_ | with_reducible refine Kp.back hk2 ?_ | with_reducible refine Kp.back hk1 ?_)))) _ tyK (sort_ty _)).mono ?_); rintro e w' ⟨rfl, hk2⟩; have b := boxed (w := w) (h := ⟨13, tx, 1, at_, la, ll, lc⟩) (show Kp _ w' by (repeat (first | with_reducible exact Kp.refl _ | with_reducible refine Kp.alloc ?_ _ | with_reducible refine Kp.drew ?_ | with_reducible refine Kp.back hk3 ?_ | with_reducible refine Kp.back hk2 ?_ | with_reducible refine Kp.back hk1 ?_))); simp only at b; obtain ⟨b0, b1, b2, b3, b4, bs⟩ := b)))
        go_ret
        refine ⟨rfl, ?_⟩
        (repeat (first | with_reducible exact Kp.refl _ | with_reducible refine Kp.alloc ?_ _ | with_reducible refine Kp.drew ?_ | with_reducible refine Kp.back hk3 ?_ | with_reducible refine Kp.back hk2 ?_ | with_reducible refine Kp.back hk1 ?_))
      · rw [decide_eq_false c1, Bool.false_and, Bool.false_and]
        have e0 : decide ((0 : Int) ≤ (ll : Int) - 1) = false := decide_eq_false (by omega)
        have e1 : decide ((1 : Int) ≤ (ll : Int)) = false := decide_eq_false (by omega)
        clear c1
        (go_enter Try.func50, Try.ntmps50; go_wp2_with (first | (go_at_call 60; (with_reducible refine (c_isEither ⟨13, tx, 1, at_, la, ll, lc⟩ _).mono ?_); rintro e w' ⟨rfl, hk1⟩; rw [hq]; have b := boxed (w := w) (h := ⟨13, tx, 1, at_, la, ll, lc⟩) (show Kp _ w' by (repeat (first | with_reducible exact Kp.refl _ | with_reducible refine Kp.alloc ?_ _ | with_reducible refine Kp.drew ?_ | with_reducible refine Kp.back hk3 ?_ | with_reducible refine Kp.back hk2 ?_ | with_reducible refine Kp.back hk1 ?_))); simp only at b; obtain ⟨b0, b1, b2, b3, b4, bs⟩ := b)))
        go_ret
        refine ⟨rfl, ?_⟩
        (repeat (first | with_reducible exact Kp.refl _ | with_reducible refine Kp.alloc ?_ _ | with_reducible refine Kp.drew ?_ | with_reducible refine Kp.back hk3 ?_ | with_reducible refine Kp.back hk2 ?_ | with_reducible refine Kp.back hk1 ?_))
      · rw [decide_eq_true c1, decide_eq_false c2, Bool.and_false, Bool.false_and]
        have e0 : decide ((0 : Int) ≤ (ll : Int) - 1) = true := decide_eq_true (by omega)
        have e1 : decide ((1 : Int) ≤ (ll : Int)) = true := decide_eq_true (by omega)
        have e2 : decide ((ll : Int) - 1 ≤ 16) = false := decide_eq_false (by omega)
        have e3 : decide ((ll : Int) ≤ 17) = false := decide_eq_false (by omega)
        clear c1 c2
        (go_enter Try.func50, Try.ntmps50; go_wp2_with (first | (go_at_call 60; (with_reducible refine (c_isEither ⟨13, tx, 1, at_, la, ll, lc⟩ _).mono ?_); rintro e w' ⟨rfl, hk1⟩; rw [hq]; have b := boxed (w := w) (h := ⟨13, tx, 1, at_, la, ll, lc⟩) (show Kp _ w' by (repeat (first | with_reducible exact Kp.refl _ | with_reducible refine Kp.alloc ?_ _ | with_reducible refine Kp.drew ?_ | with_reducible refine Kp.back hk3 ?_ | with_reducible refine Kp.back hk2 ?_ | with_reducible refine Kp.back hk1 ?_))); simp only at b; obtain ⟨b0, b1, b2, b3, b4, bs⟩ := b)))
        go_ret
        refine ⟨rfl, ?_⟩
        (repeat (first | with_reducible exact Kp.refl _ | with_reducible refine Kp.alloc ?_ _ | with_reducible refine Kp.drew ?_ | with_reducible refine Kp.back hk3 ?_ | with_reducible refine Kp.back hk2 ?_ | with_reducible refine Kp.back hk1 ?_))
set_option maxHeartbeats 12800000 in
set_option maxRecDepth 100000 in
theorem form_31 (ks : List Int) (tx : ByteArray) (n at_ : Int) (la : Option Addr) (ll lc : Nat) (K : Nat → Hn) (w : World) (hL : ListAt w ks la ll lc K) (hcap : ll ≤ lc) (hs : tx.size ≤ 140737488351232) :
    Calls Try.prog 52 #[.agg #[.int .i64 31, .string tx, .int .u64 n, .int .i64 at_, .slice la ll lc]] w fun e w' => e = .returned (.bool (@decide (tx = ⟨#[]⟩) (Classical.propDecidable _) && areB ks [])) ∧ Kp w w' := by
  have hmf : ∀ (fn : Fn) (first cap : Array Value) (w : World), (Instr.makeFunc fn first cap).run Try.prog w = .ok (.func fn first cap) w := fun _ _ _ _ => rfl
  have HL := Lib.hid hL
  clear hL
  rcases tx_cases tx with rfl | ⟨t0, t1, t2, t3⟩
  · rw [dec_yes rfl, Bool.true_and]
    go_enter Try.func52, Try.ntmps52; go_wp2_with (first | (go_at_call 58; (with_reducible refine (c_are _ ks la ll lc K (HL.out.keep (by (repeat (first | with_reducible exact Kp.refl _ | with_reducible refine Kp.alloc ?_ _ | with_reducible refine Kp.drew ?_ | with_reducible refine Kp.back hk3 ?_ | with_reducible refine Kp.back hk2 ?_ | with_reducible refine Kp.back hk1 ?_)))) [] _ _ _ _ (sorts0 _)).mono ?_); rintro e w' ⟨rfl, hk1⟩)); go_ret; refine ⟨rfl, ?_⟩; (repeat (first | with_reducible exact Kp.refl _ | with_reducible refine Kp.alloc ?_ _ | with_reducible refine Kp.drew ?_ | with_reducible refine Kp.back hk3 ?_ | with_reducible refine Kp.back hk2 ?_ | with_reducible refine Kp.back hk1 ?_))
  · rw [dec_no t0, Bool.false_and]
    go_enter Try.func52, Try.ntmps52; go_wp2_with (first | fail); go_ret; refine ⟨rfl, ?_⟩; (repeat (first | with_reducible exact Kp.refl _ | with_reducible refine Kp.alloc ?_ _ | with_reducible refine Kp.drew ?_ | with_reducible refine Kp.back hk3 ?_ | with_reducible refine Kp.back hk2 ?_ | with_reducible refine Kp.back hk1 ?_))
set_option maxHeartbeats 12800000 in
set_option maxRecDepth 100000 in
theorem form_33 (ks : List Int) (tx : ByteArray) (n at_ : Int) (la : Option Addr) (ll lc : Nat) (K : Nat → Hn) (w : World) (hL : ListAt w ks la ll lc K) (hcap : ll ≤ lc) (hs : tx.size ≤ 140737488351232) :
    Calls Try.prog 52 #[.agg #[.int .i64 33, .string tx, .int .u64 n, .int .i64 at_, .slice la ll lc]] w fun e w' => e = .returned (.bool (decide (n = 0) && opB tx ll && allB ks exK)) ∧ Kp w w' := by
  have hmf : ∀ (fn : Fn) (first cap : Array Value) (w : World), (Instr.makeFunc fn first cap).run Try.prog w = .ok (.func fn first cap) w := fun _ _ _ _ => rfl
  have HL := Lib.hid hL
  clear hL
  have hbl := HL.out.bl
  by_cases h0 : n = 0
  · subst h0
    rw [show decide ((0 : Int) = 0) = true from rfl, Bool.true_and]
    cases hq : opB tx ll with
    | false =>
      rw [Bool.false_and]
      go_enter Try.func52, Try.ntmps52; go_wp2_with (first | (go_at_call 63; (with_reducible refine (c_isOperator tx ll _ hbl).mono ?_); rintro e w' ⟨rfl, hk1⟩; rw [hq]; have b := boxed (w := w) (h := ⟨33, tx, 0, at_, la, ll, lc⟩) (show Kp _ w' by (repeat (first | with_reducible exact Kp.refl _ | with_reducible refine Kp.alloc ?_ _ | with_reducible refine Kp.drew ?_ | with_reducible refine Kp.back hk3 ?_ | with_reducible refine Kp.back hk2 ?_ | with_reducible refine Kp.back hk1 ?_))); simp only at b; obtain ⟨b0, b1, b2, b3, b4, bs⟩ := b)); go_ret; refine ⟨rfl, ?_⟩; (repeat (first | with_reducible exact Kp.refl _ | with_reducible refine Kp.alloc ?_ _ | with_reducible refine Kp.drew ?_ | with_reducible refine Kp.back hk3 ?_ | with_reducible refine Kp.back hk2 ?_ | with_reducible refine Kp.back hk1 ?_))
    | true =>
      rw [Bool.true_and]
      go_enter Try.func52, Try.ntmps52; go_wp2_with (first | (go_at_call 63; (with_reducible refine (c_isOperator tx ll _ hbl).mono ?_); rintro e w' ⟨rfl, hk1⟩; rw [hq]; have b := boxed (w := w) (h := ⟨33, tx, 0, at_, la, ll, lc⟩) (show Kp _ w' by (repeat (first | with_reducible exact Kp.refl _ | with_reducible refine Kp.alloc ?_ _ | with_reducible refine Kp.drew ?_ | with_reducible refine Kp.back hk3 ?_ | with_reducible refine Kp.back hk2 ?_ | with_reducible refine Kp.back hk1 ?_))); simp only at b; obtain ⟨b0, b1, b2, b3, b4, bs⟩ := b) | (go_at_call 61; (with_reducible refine (c_areAll _ ks la ll lc K (HL.out.keep (by (repeat (first | with_reducible exact Kp.refl _ | with_reducible refine Kp.alloc ?_ _ | with_reducible refine Kp.drew ?_ | with_reducible refine Kp.back hk3 ?_ | with_reducible refine Kp.back hk2 ?_ | with_reducible refine Kp.back hk1 ?_)))) _ exK (sort_ex _)).mono ?_); rintro e w' ⟨rfl, hk2⟩)); go_ret; refine ⟨rfl, ?_⟩; (repeat (first | with_reducible exact Kp.refl _ | with_reducible refine Kp.alloc ?_ _ | with_reducible refine Kp.drew ?_ | with_reducible refine Kp.back hk3 ?_ | with_reducible refine Kp.back hk2 ?_ | with_reducible refine Kp.back hk1 ?_))
  · rw [decide_eq_false h0, Bool.false_and, Bool.false_and]
    have e0 : (n == 0) = false := beq_eq_false_iff_ne.2 h0
    clear h0
    go_enter Try.func52, Try.ntmps52; go_wp2_with (first | fail); go_ret; refine ⟨rfl, ?_⟩; (repeat (first | with_reducible exact Kp.refl _ | with_reducible refine Kp.alloc ?_ _ | with_reducible refine Kp.drew ?_ | with_reducible refine Kp.back hk3 ?_ | with_reducible refine Kp.back hk2 ?_ | with_reducible refine Kp.back hk1 ?_))
set_option maxHeartbeats 12800000 in
set_option maxRecDepth 100000 in
theorem form_36 (ks : List Int) (tx : ByteArray) (n at_ : Int) (la : Option Addr) (ll lc : Nat) (K : Nat → Hn) (w : World) (hL : ListAt w ks la ll lc K) (hcap : ll ≤ lc) (hs : tx.size ≤ 140737488351232) :
    Calls Try.prog 52 #[.agg #[.int .i64 36, .string tx, .int .u64 n, .int .i64 at_, .slice la ll lc]] w fun e w' => e = .returned (.bool (bareB tx n && decide (1 < ll) && argsB ks brK)) ∧ Kp w w' := by
  have hmf : ∀ (fn : Fn) (first cap : Array Value) (w : World), (Instr.makeFunc fn first cap).run Try.prog w = .ok (.func fn first cap) w := fun _ _ _ _ => rfl
  have HL := Lib.hid hL
  clear hL
  have hbl := HL.out.bl
  cases hq : bareB tx n with
  | false =>
    rw [Bool.false_and, Bool.false_and]
    go_enter Try.func52, Try.ntmps52; go_wp2_with (first | (go_at_call 59; (with_reducible refine (c_isBare ⟨36, tx, n, at_, la, ll, lc⟩ _).mono ?_); rintro e w' ⟨rfl, hk1⟩; rw [hq]; have b := boxed (w := w) (h := ⟨36, tx, n, at_, la, ll, lc⟩) (show Kp _ w' by (repeat (first | with_reducible exact Kp.refl _ | with_reducible refine Kp.alloc ?_ _ | with_reducible refine Kp.drew ?_ | with_reducible refine Kp.back hk3 ?_ | with_reducible refine Kp.back hk2 ?_ | with_reducible refine Kp.back hk1 ?_))); simp only at b; obtain ⟨b0, b1, b2, b3, b4, bs⟩ := b)); go_ret; refine ⟨rfl, ?_⟩; (repeat (first | with_reducible exact Kp.refl _ | with_reducible refine Kp.alloc ?_ _ | with_reducible refine Kp.drew ?_ | with_reducible refine Kp.back hk3 ?_ | with_reducible refine Kp.back hk2 ?_ | with_reducible refine Kp.back hk1 ?_))
  | true =>
    rw [Bool.true_and]
    by_cases h1 : 1 < ll
    · rw [decide_eq_true h1, Bool.true_and]
      have d0 : decide ((1 : Int) < (ll : Int)) = true := decide_eq_true (by omega)
      clear h1
      go_enter Try.func52, Try.ntmps52; go_wp2_with (first | (go_at_call 59; (with_reducible refine (c_isBare ⟨36, tx, n, at_, la, ll, lc⟩ _).mono ?_); rintro e w' ⟨rfl, hk1⟩; rw [hq]; have b := boxed (w := w) (h := ⟨36, tx, n, at_, la, ll, lc⟩) (show Kp _ w' by (repeat (first | with_reducible exact Kp.refl _ | with_reducible refine Kp.alloc ?_ _ | with_reducible refine Kp.drew ?_ | with_reducible refine Kp.back hk3 ?_ | with_reducible refine Kp.back hk2 ?_ | with_reducible refine Kp.back hk1 ?_))); simp only at b; obtain ⟨b0, b1, b2, b3, b4, bs⟩ := b) | (go_at_call 64; (with_reducible refine (c_areArguments _ ks la ll lc K (HL.out.keep (by (repeat (first | with_reducible exact Kp.refl _ | with_reducible refine Kp.alloc ?_ _ | with_reducible refine Kp.drew ?_ | with_reducible refine Kp.back hk3 ?_ | with_reducible refine Kp.back hk2 ?_ | with_reducible refine Kp.back hk1 ?_)))) hcap _ brK (sort_br _)).mono ?_); rintro e w' ⟨rfl, hk2⟩; have b := boxed (w := w) (h := ⟨36, tx, n, at_, la, ll, lc⟩) (show Kp _ w' by (repeat (first | with_reducible exact Kp.refl _ | with_reducible refine Kp.alloc ?_ _ | with_reducible refine Kp.drew ?_ | with_reducible refine Kp.back hk3 ?_ | with_reducible refine Kp.back hk2 ?_ | with_reducible refine Kp.back hk1 ?_))); simp only at b; obtain ⟨b0, b1, b2, b3, b4, bs⟩ := b)); go_ret; refine ⟨rfl, ?_⟩; (repeat (first | with_reducible exact Kp.refl _ | with_reducible refine Kp.alloc ?_ _ | with_reducible refine Kp.drew ?_ | with_reducible refine Kp.back hk3 ?_ | with_reducible refine Kp.back hk2 ?_ | with_reducible refine Kp.back hk1 ?_))
    · rw [decide_eq_false h1, Bool.false_and]
      have d0 : decide ((1 : Int) < (ll : Int)) = false := decide_eq_false (by omega)
      clear h1
      go_enter Try.func52, Try.ntmps52; go_wp2_with (first | (go_at_call 59; (with_reducible refine (c_isBare ⟨36, tx, n, at_, la, ll, lc⟩ _).mono ?_); rintro e w' ⟨rfl, hk1⟩; rw [hq]; have b := boxed (w := w) (h := ⟨36, tx, n, at_, la, ll, lc⟩) (show Kp _ w' by (repeat (first | with_reducible exact Kp.refl _ | with_reducible refine Kp.alloc ?_ _ | with_reducible refine Kp.drew ?_ | with_reducible refine Kp.back hk3 ?_ | with_reducible refine Kp.back hk2 ?_ | with_reducible refine Kp.back hk1 ?_))); simp only at b; obtain ⟨b0, b1, b2, b3, b4, bs⟩ := b)); go_ret; refine ⟨rfl, ?_⟩; (repeat (first | with_reducible exact Kp.refl _ | with_reducible refine Kp.alloc ?_ _ | with_reducible refine Kp.drew ?_ | with_reducible refine Kp.back hk3 ?_ | with_reducible refine Kp.back hk2 ?_ | with_reducible refine Kp.back hk1 ?_))
end Go.Proofs.Ytgamenimbkafjaa
