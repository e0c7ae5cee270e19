/- Expressions: what their Kinds ask for. Condition: the node lies in memory. -/
import Derived.Test.YtgamenimbkafjaaF5
import Derived.Deep.RegionHeld3
namespace Go.Proofs.Ytgamenimbkafjaa
open Go.RowKit
set_option linter.unusedVariables false
set_option linter.unusedSimpArgs false
set_option maxHeartbeats 12800000 in
set_option maxRecDepth 100000 in
theorem form_30 (ks : List Int) (tx : ByteArray) (n at_ : Int) (la : Option Addr) (ll lc : Nat) (K : Nat → Hn) (w : World) (hL : ListAt w ks la ll lc K) (hcap : ll ≤ lc) (hs : tx.size ≤ 140737488351232) :
    Calls Try.prog 52 #[.agg #[.int .i64 30, .string tx, .int .u64 n, .int .i64 at_, .slice la ll lc]] w fun e w' => e = .returned (.bool (namedB tx n && areB ks [])) ∧ Kp w w' := by
  have hmf : ∀ (fn : Fn) (first cap : Array Value) (w : World), (Instr.makeFunc fn first cap).run Try.prog w = .ok (.func fn first cap) w := fun _ _ _ _ => rfl
  have HL := Lib.hid hL
  clear hL
  cases hq : namedB tx n with
  | false =>
    rw [Bool.false_and]
    go_enter Try.func52, Try.ntmps52
    go_wp2_with (first | (go_at_call 57; (with_reducible refine (c_isNamed ⟨30, tx, n, at_, la, ll, lc⟩ _ hs).mono ?_); rintro e w' ⟨rfl, hk1⟩; rw [hq]; have b := boxed (w := w) (h := ⟨30, tx, n, at_, la, ll, lc⟩) (show Kp _ w' by (repeat (first | with_reducible exact Kp.refl _ | with_reducible refine Kp.alloc ?_ _ | with_reducible refine Kp.drew ?_ | with_reducible refine Kp.back hk3 ?_ | with_reducible refine Kp.back hk2 ?_ | with_reducible refine Kp.back hk1 ?_))); simp only at b; obtain ⟨b0, b1, b2, b3, b4, bs⟩ := b))
    go_ret
    refine ⟨rfl, ?_⟩
    (repeat (first | with_reducible exact Kp.refl _ | with_reducible refine Kp.alloc ?_ _ | with_reducible refine Kp.drew ?_ | with_reducible refine Kp.back hk3 ?_ | with_reducible refine Kp.back hk2 ?_ | with_reducible refine Kp.back hk1 ?_))
  | true =>
    rw [Bool.true_and]
    go_enter Try.func52, Try.ntmps52
    go_wp2_with (first | (go_at_call 57; (with_reducible refine (c_isNamed ⟨30, tx, n, at_, la, ll, lc⟩ _ hs).mono ?_); rintro e w' ⟨rfl, hk1⟩; rw [hq]; have b := boxed (w := w) (h := ⟨30, tx, n, at_, la, ll, lc⟩) (show Kp _ w' by (repeat (first | with_reducible exact Kp.refl _ | with_reducible refine Kp.alloc ?_ _ | with_reducible refine Kp.drew ?_ | with_reducible refine Kp.back hk3 ?_ | with_reducible refine Kp.back hk2 ?_ | with_reducible refine Kp.back hk1 ?_))); simp only at b; obtain ⟨b0, b1, b2, b3, b4, bs⟩ := b) | (go_at_call 58; (with_reducible refine (c_are _ ks la ll lc K (HL.out.keep (by (repeat (first | with_reducible exact Kp.refl _ | with_reducible refine Kp.alloc ?_ _ | with_reducible refine Kp.drew ?_ | with_reducible refine Kp.back hk3 ?_ | with_reducible refine Kp.back hk2 ?_ | with_reducible refine Kp.back hk1 ?_)))) [] _ _ _ _ (sorts0 _)).mono ?_); rintro e w' ⟨rfl, hk2⟩))
    go_ret
    refine ⟨rfl, ?_⟩
    (repeat (first | with_reducible exact Kp.refl _ | with_reducible refine Kp.alloc ?_ _ | with_reducible refine Kp.drew ?_ | with_reducible refine Kp.back hk3 ?_ | with_reducible refine Kp.back hk2 ?_ | with_reducible refine Kp.back hk1 ?_))
set_option maxHeartbeats 12800000 in
set_option maxRecDepth 100000 in
theorem form_32 (ks : List Int) (tx : ByteArray) (n at_ : Int) (la : Option Addr) (ll lc : Nat) (K : Nat → Hn) (w : World) (hL : ListAt w ks la ll lc K) (hcap : ll ≤ lc) (hs : tx.size ≤ 140737488351232) :
    Calls Try.prog 52 #[.agg #[.int .i64 32, .string tx, .int .u64 n, .int .i64 at_, .slice la ll lc]] w fun e w' => e = .returned (.bool (eitherB tx n && areB ks [])) ∧ Kp w w' := by
  have hmf : ∀ (fn : Fn) (first cap : Array Value) (w : World), (Instr.makeFunc fn first cap).run Try.prog w = .ok (.func fn first cap) w := fun _ _ _ _ => rfl
  have HL := Lib.hid hL
  clear hL
  cases hq : eitherB tx n with
  | false =>
    rw [Bool.false_and]
    go_enter Try.func52, Try.ntmps52
    go_wp2_with (first | (go_at_call 60; (with_reducible refine (c_isEither ⟨32, tx, n, at_, la, ll, lc⟩ _).mono ?_); rintro e w' ⟨rfl, hk1⟩; rw [hq]; have b := boxed (w := w) (h := ⟨32, tx, n, at_, la, ll, lc⟩) (show Kp _ w' by (repeat (first | with_reducible exact Kp.refl _ | with_reducible refine Kp.alloc ?_ _ | with_reducible refine Kp.drew ?_ | with_reducible refine Kp.back hk3 ?_ | with_reducible refine Kp.back hk2 ?_ | with_reducible refine Kp.back hk1 ?_))); simp only at b; obtain ⟨b0, b1, b2, b3, b4, bs⟩ := b))
    go_ret
    refine ⟨rfl, ?_⟩
    (repeat (first | with_reducible exact Kp.refl _ | with_reducible refine Kp.alloc ?_ _ | with_reducible refine Kp.drew ?_ | with_reducible refine Kp.back hk3 ?_ | with_reducible refine Kp.back hk2 ?_ | with_reducible refine Kp.back hk1 ?_))
  | true =>
    rw [Bool.true_and]
    go_enter Try.func52, Try.ntmps52
    go_wp2_with (first | (go_at_call 60; (with_reducible refine (c_isEither ⟨32, tx, n, at_, la, ll, lc⟩ _).mono ?_); rintro e w' ⟨rfl, hk1⟩; rw [hq]; have b := boxed (w := w) (h := ⟨32, tx, n, at_, la, ll, lc⟩) (show Kp _ w' by (repeat (first | with_reducible exact Kp.refl _ | with_reducible refine Kp.alloc ?_ _ | with_reducible refine Kp.drew ?_ | with_reducible refine Kp.back hk3 ?_ | with_reducible refine Kp.back hk2 ?_ | with_reducible refine Kp.back hk1 ?_))); simp only at b; obtain ⟨b0, b1, b2, b3, b4, bs⟩ := b) | (go_at_call 58; (with_reducible refine (c_are _ ks la ll lc K (HL.out.keep (by (repeat (first | with_reducible exact Kp.refl _ | with_reducible refine Kp.alloc ?_ _ | with_reducible refine Kp.drew ?_ | with_reducible refine Kp.back hk3 ?_ | with_reducible refine Kp.back hk2 ?_ | with_reducible refine Kp.back hk1 ?_)))) [] _ _ _ _ (sorts0 _)).mono ?_); rintro e w' ⟨rfl, hk2⟩))
    go_ret
    refine ⟨rfl, ?_⟩
    (repeat (first | with_reducible exact Kp.refl _ | with_reducible refine Kp.alloc ?_ _ | with_reducible refine Kp.drew ?_ | with_reducible refine Kp.back hk3 ?_ | with_reducible refine Kp.back hk2 ?_ | with_reducible refine Kp.back hk1 ?_))
set_option maxHeartbeats 12800000 in
set_option maxRecDepth 100000 in
theorem form_34 (ks : List Int) (tx : ByteArray) (n at_ : Int) (la : Option Addr) (ll lc : Nat) (K : Nat → Hn) (w : World) (hL : ListAt w ks la ll lc K) (hcap : ll ≤ lc) (hs : tx.size ≤ 140737488351232) :
    Calls Try.prog 52 #[.agg #[.int .i64 34, .string tx, .int .u64 n, .int .i64 at_, .slice la ll lc]] w fun e w' => e = .returned (.bool (bareB tx n && argsB ks exK)) ∧ Kp w w' := by
  have hmf : ∀ (fn : Fn) (first cap : Array Value) (w : World), (Instr.makeFunc fn first cap).run Try.prog w = .ok (.func fn first cap) w := fun _ _ _ _ => rfl
  have HL := Lib.hid hL
  clear hL
  cases hq : bareB tx n with
  | false =>
    rw [Bool.false_and]
    go_enter Try.func52, Try.ntmps52
    go_wp2_with (first | (go_at_call 59; (with_reducible refine (c_isBare ⟨34, tx, n, at_, la, ll, lc⟩ _).mono ?_); rintro e w' ⟨rfl, hk1⟩; rw [hq]; have b := boxed (w := w) (h := ⟨34, tx, n, at_, la, ll, lc⟩) (show Kp _ w' by (repeat (first | with_reducible exact Kp.refl _ | with_reducible refine Kp.alloc ?_ _ | with_reducible refine Kp.drew ?_ | with_reducible refine Kp.back hk3 ?_ | with_reducible refine Kp.back hk2 ?_ | with_reducible refine Kp.back hk1 ?_))); simp only at b; obtain ⟨b0, b1, b2, b3, b4, bs⟩ := b))
    go_ret
    refine ⟨rfl, ?_⟩
    (repeat (first | with_reducible exact Kp.refl _ | with_reducible refine Kp.alloc ?_ _ | with_reducible refine Kp.drew ?_ | with_reducible refine Kp.back hk3 ?_ | with_reducible refine Kp.back hk2 ?_ | with_reducible refine Kp.back hk1 ?_))
  | true =>
    rw [Bool.true_and]
    go_enter Try.func52, Try.ntmps52
    go_wp2_with (first | (go_at_call 59; (with_reducible refine (c_isBare ⟨34, tx, n, at_, la, ll, lc⟩ _).mono ?_); rintro e w' ⟨rfl, hk1⟩; rw [hq]; have b := boxed (w := w) (h := ⟨34, tx, n, at_, la, ll, lc⟩) (show Kp _ w' by (repeat (first | with_reducible exact Kp.refl _ | with_reducible refine Kp.alloc ?_ _ | with_reducible refine Kp.drew ?_ | with_reducible refine Kp.back hk3 ?_ | with_reducible refine Kp.back hk2 ?_ | with_reducible refine Kp.back hk1 ?_))); simp only at b; obtain ⟨b0, b1, b2, b3, b4, bs⟩ := b) | (go_at_call 64; (with_reducible refine (c_areArguments _ ks la ll lc K (HL.out.keep (by (repeat (first | with_reducible exact Kp.refl _ | with_reducible refine Kp.alloc ?_ _ | with_reducible refine Kp.drew ?_ | with_reducible refine Kp.back hk3 ?_ | with_reducible refine Kp.back hk2 ?_ | with_reducible refine Kp.back hk1 ?_)))) hcap _ exK (sort_ex _)).mono ?_); rintro e w' ⟨rfl, hk2⟩))
    go_ret
    refine ⟨rfl, ?_⟩
    (repeat (first | with_reducible exact Kp.refl _ | with_reducible refine Kp.alloc ?_ _ | with_reducible refine Kp.drew ?_ | with_reducible refine Kp.back hk3 ?_ | with_reducible refine Kp.back hk2 ?_ | with_reducible refine Kp.back hk1 ?_))
set_option maxHeartbeats 12800000 in
set_option maxRecDepth 100000 in
theorem form_35 (ks : List Int) (tx : ByteArray) (n at_ : Int) (la : Option Addr) (ll lc : Nat) (K : Nat → Hn) (w : World) (hL : ListAt w ks la ll lc K) (hcap : ll ≤ lc) (hs : tx.size ≤ 140737488351232) :
    Calls Try.prog 52 #[.agg #[.int .i64 35, .string tx, .int .u64 n, .int .i64 at_, .slice la ll lc]] w fun e w' => e = .returned (.bool (namedB tx n && areB ks [exK])) ∧ Kp w w' := by
  have hmf : ∀ (fn : Fn) (first cap : Array Value) (w : World), (Instr.makeFunc fn first cap).run Try.prog w = .ok (.func fn first cap) w := fun _ _ _ _ => rfl
  have HL := Lib.hid hL
  clear hL
  cases hq : namedB tx n with
  | false =>
    rw [Bool.false_and]
    go_enter Try.func52, Try.ntmps52
    go_wp2_with (first | (go_at_call 57; (with_reducible refine (c_isNamed ⟨35, tx, n, at_, la, ll, lc⟩ _ hs).mono ?_); rintro e w' ⟨rfl, hk1⟩; rw [hq]; have b := boxed (w := w) (h := ⟨35, tx, n, at_, la, ll, lc⟩) (show Kp _ w' by (repeat (first | with_reducible exact Kp.refl _ | with_reducible refine Kp.alloc ?_ _ | with_reducible refine Kp.drew ?_ | with_reducible refine Kp.back hk3 ?_ | with_reducible refine Kp.back hk2 ?_ | with_reducible refine Kp.back hk1 ?_))); simp only at b; obtain ⟨b0, b1, b2, b3, b4, bs⟩ := b))
    go_ret
    refine ⟨rfl, ?_⟩
    (repeat (first | with_reducible exact Kp.refl _ | with_reducible refine Kp.alloc ?_ _ | with_reducible refine Kp.drew ?_ | with_reducible refine Kp.back hk3 ?_ | with_reducible refine Kp.back hk2 ?_ | with_reducible refine Kp.back hk1 ?_))
  | true =>
    rw [Bool.true_and]
    go_enter Try.func52, Try.ntmps52
    go_wp2_with (first | (go_at_call 57; (with_reducible refine (c_isNamed ⟨35, tx, n, at_, la, ll, lc⟩ _ hs).mono ?_); rintro e w' ⟨rfl, hk1⟩; rw [hq]; have b := boxed (w := w) (h := ⟨35, tx, n, at_, la, ll, lc⟩) (show Kp _ w' by (repeat (first | with_reducible exact Kp.refl _ | with_reducible refine Kp.alloc ?_ _ | with_reducible refine Kp.drew ?_ | with_reducible refine Kp.back hk3 ?_ | with_reducible refine Kp.back hk2 ?_ | with_reducible refine Kp.back hk1 ?_))); simp only at b; obtain ⟨b0, b1, b2, b3, b4, bs⟩ := b) | (go_at_call 58; (with_reducible refine (c_are _ ks la ll lc K (HL.out.keep (by (repeat (first | with_reducible exact Kp.refl _ | with_reducible refine Kp.alloc ?_ _ | with_reducible refine Kp.drew ?_ | with_reducible refine Kp.back hk3 ?_ | with_reducible refine Kp.back hk2 ?_ | with_reducible refine Kp.back hk1 ?_)))) [exK] _ _ _ _ (sorts1 (by simp) (sort_ex _))).mono ?_); rintro e w' ⟨rfl, hk2⟩))
    go_ret
    refine ⟨rfl, ?_⟩
    (repeat (first | with_reducible exact Kp.refl _ | with_reducible refine Kp.alloc ?_ _ | with_reducible refine Kp.drew ?_ | with_reducible refine Kp.back hk3 ?_ | with_reducible refine Kp.back hk2 ?_ | with_reducible refine Kp.back hk1 ?_))
set_option maxHeartbeats 12800000 in
set_option maxRecDepth 100000 in
theorem form_37 (ks : List Int) (tx : ByteArray) (n at_ : Int) (la : Option Addr) (ll lc : Nat) (K : Nat → Hn) (w : World) (hL : ListAt w ks la ll lc K) (hcap : ll ≤ lc) (hs : tx.size ≤ 140737488351232) :
    Calls Try.prog 52 #[.agg #[.int .i64 37, .string tx, .int .u64 n, .int .i64 at_, .slice la ll lc]] w fun e w' => e = .returned (.bool (namedB tx n && fewB ks exK)) ∧ Kp w w' := by
  have hmf : ∀ (fn : Fn) (first cap : Array Value) (w : World), (Instr.makeFunc fn first cap).run Try.prog w = .ok (.func fn first cap) w := fun _ _ _ _ => rfl
  have HL := Lib.hid hL
  clear hL
  cases hq : namedB tx n with
  | false =>
    rw [Bool.false_and]
    go_enter Try.func52, Try.ntmps52
    go_wp2_with (first | (go_at_call 57; (with_reducible refine (c_isNamed ⟨37, tx, n, at_, la, ll, lc⟩ _ hs).mono ?_); rintro e w' ⟨rfl, hk1⟩; rw [hq]; have b := boxed (w := w) (h := ⟨37, tx, n, at_, la, ll, lc⟩) (show Kp _ w' by (repeat (first | with_reducible exact Kp.refl _ | with_reducible refine Kp.alloc ?_ _ | with_reducible refine Kp.drew ?_ | with_reducible refine Kp.back hk3 ?_ | with_reducible refine Kp.back hk2 ?_ | with_reducible refine Kp.back hk1 ?_))); simp only at b; obtain ⟨b0, b1, b2, b3, b4, bs⟩ := b))
    go_ret
    refine ⟨rfl, ?_⟩
    (repeat (first | with_reducible exact Kp.refl _ | with_reducible refine Kp.alloc ?_ _ | with_reducible refine Kp.drew ?_ | with_reducible refine Kp.back hk3 ?_ | with_reducible refine Kp.back hk2 ?_ | with_reducible refine Kp.back hk1 ?_))
  | true =>
    rw [Bool.true_and]
    go_enter Try.func52, Try.ntmps52
    go_wp2_with (first | (go_at_call 57; (with_reducible refine (c_isNamed ⟨37, tx, n, at_, la, ll, lc⟩ _ hs).mono ?_); rintro e w' ⟨rfl, hk1⟩; rw [hq]; have b := boxed (w := w) (h := ⟨37, tx, n, at_, la, ll, lc⟩) (show Kp _ w' by (repeat (first | with_reducible exact Kp.refl _ | with_reducible refine Kp.alloc ?_ _ | with_reducible refine Kp.drew ?_ | with_reducible refine Kp.back hk3 ?_ | with_reducible refine Kp.back hk2 ?_ | with_reducible refine Kp.back hk1 ?_))); simp only at b; obtain ⟨b0, b1, b2, b3, b4, bs⟩ := b) | (go_at_call 66; (with_reducible refine (c_areFew _ ks la ll lc K (HL.out.keep (by (repeat (first | with_reducible exact Kp.refl _ | with_reducible refine Kp.alloc ?_ _ | with_reducible refine Kp.drew ?_ | with_reducible refine Kp.back hk3 ?_ | with_reducible refine Kp.back hk2 ?_ | with_reducible refine Kp.back hk1 ?_)))) _ exK (sort_ex _)).mono ?_); rintro e w' ⟨rfl, hk2⟩))
    go_ret
    refine ⟨rfl, ?_⟩
    (repeat (first | with_reducible exact Kp.refl _ | with_reducible refine Kp.alloc ?_ _ | with_reducible refine Kp.drew ?_ | with_reducible refine Kp.back hk3 ?_ | with_reducible refine Kp.back hk2 ?_ | with_reducible refine Kp.back hk1 ?_))
set_option maxHeartbeats 12800000 in
set_option maxRecDepth 100000 in
theorem form_39 (ks : List Int) (tx : ByteArray) (n at_ : Int) (la : Option Addr) (ll lc : Nat) (K : Nat → Hn) (w : World) (hL : ListAt w ks la ll lc K) (hcap : ll ≤ lc) (hs : tx.size ≤ 140737488351232) :
    Calls Try.prog 52 #[.agg #[.int .i64 39, .string tx, .int .u64 n, .int .i64 at_, .slice la ll lc]] w fun e w' => e = .returned (.bool (bareB tx n && areB ks [exK])) ∧ Kp w w' := by
  have hmf : ∀ (fn : Fn) (first cap : Array Value) (w : World), (Instr.makeFunc fn first cap).run Try.prog w = .ok (.func fn first cap) w := fun _ _ _ _ => rfl
  have HL := Lib.hid hL
  clear hL
  cases hq : bareB tx n with
  | false =>
    rw [Bool.false_and]
    go_enter Try.func52, Try.ntmps52
    go_wp2_with (first | (go_at_call 59; (with_reducible refine (c_isBare ⟨39, tx, n, at_, la, ll, lc⟩ _).mono ?_); rintro e w' ⟨rfl, hk1⟩; rw [hq]; have b := boxed (w := w) (h := ⟨39, tx, n, at_, la, ll, lc⟩) (show Kp _ w' by (repeat (first | with_reducible exact Kp.refl _ | with_reducible refine Kp.alloc ?_ _ | with_reducible refine Kp.drew ?_ | with_reducible refine Kp.back hk3 ?_ | with_reducible refine Kp.back hk2 ?_ | with_reducible refine Kp.back hk1 ?_))); simp only at b; obtain ⟨b0, b1, b2, b3, b4, bs⟩ := b))
    go_ret
    refine ⟨rfl, ?_⟩
    (repeat (first | with_reducible exact Kp.refl _ | with_reducible refine Kp.alloc ?_ _ | with_reducible refine Kp.drew ?_ | with_reducible refine Kp.back hk3 ?_ | with_reducible refine Kp.back hk2 ?_ | with_reducible refine Kp.back hk1 ?_))
  | true =>
    rw [Bool.true_and]
    go_enter Try.func52, Try.ntmps52
    go_wp2_with (first | (go_at_call 59; (with_reducible refine (c_isBare ⟨39, tx, n, at_, la, ll, lc⟩ _).mono ?_); rintro e w' ⟨rfl, hk1⟩; rw [hq]; have b := boxed (w := w) (h := ⟨39, tx, n, at_, la, ll, lc⟩) (show Kp _ w' by (repeat (first | with_reducible exact Kp.refl _ | with_reducible refine Kp.alloc ?_ _ | with_reducible refine Kp.drew ?_ | with_reducible refine Kp.back hk3 ?_ | with_reducible refine Kp.back hk2 ?_ | with_reducible refine Kp.back hk1 ?_))); simp only at b; obtain ⟨b0, b1, b2, b3, b4, bs⟩ := b) | (go_at_call 58; (with_reducible refine (c_are _ ks la ll lc K (HL.out.keep (by (repeat (first | with_reducible exact Kp.refl _ | with_reducible refine Kp.alloc ?_ _ | with_reducible refine Kp.drew ?_ | with_reducible refine Kp.back hk3 ?_ | with_reducible refine Kp.back hk2 ?_ | with_reducible refine Kp.back hk1 ?_)))) [exK] _ _ _ _ (sorts1 (by simp) (sort_ex _))).mono ?_); rintro e w' ⟨rfl, hk2⟩))
    go_ret
    refine ⟨rfl, ?_⟩
    (repeat (first | with_reducible exact Kp.refl _ | with_reducible refine Kp.alloc ?_ _ | with_reducible refine Kp.drew ?_ | with_reducible refine Kp.back hk3 ?_ | with_reducible refine Kp.back hk2 ?_ | with_reducible refine Kp.back hk1 ?_))
set_option maxHeartbeats 12800000 in
set_option maxRecDepth 100000 in
theorem form_40 (ks : List Int) (tx : ByteArray) (n at_ : Int) (la : Option Addr) (ll lc : Nat) (K : Nat → Hn) (w : World) (hL : ListAt w ks la ll lc K) (hcap : ll ≤ lc) (hs : tx.size ≤ 140737488351232) :
    Calls Try.prog 52 #[.agg #[.int .i64 40, .string tx, .int .u64 n, .int .i64 at_, .slice la ll lc]] w fun e w' => e = .returned (.bool (bareB tx n && areB ks [tyK, exK])) ∧ Kp w w' := by
  have hmf : ∀ (fn : Fn) (first cap : Array Value) (w : World), (Instr.makeFunc fn first cap).run Try.prog w = .ok (.func fn first cap) w := fun _ _ _ _ => rfl
  have HL := Lib.hid hL
  clear hL
  cases hq : bareB tx n with
  | false =>
    rw [Bool.false_and]
    go_enter Try.func52, Try.ntmps52
    go_wp2_with (first | (go_at_call 59; (with_reducible refine (c_isBare ⟨40, tx, n, at_, la, ll, lc⟩ _).mono ?_); rintro e w' ⟨rfl, hk1⟩; rw [hq]; have b := boxed (w := w) (h := ⟨40, tx, n, at_, la, ll, lc⟩) (show Kp _ w' by (repeat (first | with_reducible exact Kp.refl _ | with_reducible refine Kp.alloc ?_ _ | with_reducible refine Kp.drew ?_ | with_reducible refine Kp.back hk3 ?_ | with_reducible refine Kp.back hk2 ?_ | with_reducible refine Kp.back hk1 ?_))); simp only at b; obtain ⟨b0, b1, b2, b3, b4, bs⟩ := b))
    go_ret
    refine ⟨rfl, ?_⟩
    (repeat (first | with_reducible exact Kp.refl _ | with_reducible refine Kp.alloc ?_ _ | with_reducible refine Kp.drew ?_ | with_reducible refine Kp.back hk3 ?_ | with_reducible refine Kp.back hk2 ?_ | with_reducible refine Kp.back hk1 ?_))
  | true =>
    rw [Bool.true_and]
    go_enter Try.func52, Try.ntmps52
    go_wp2_with (first | (go_at_call 59; (with_reducible refine (c_isBare ⟨40, tx, n, at_, la, ll, lc⟩ _).mono ?_); rintro e w' ⟨rfl, hk1⟩; rw [hq]; have b := boxed (w := w) (h := ⟨40, tx, n, at_, la, ll, lc⟩) (show Kp _ w' by (repeat (first | with_reducible exact Kp.refl _ | with_reducible refine Kp.alloc ?_ _ | with_reducible refine Kp.drew ?_ | with_reducible refine Kp.back hk3 ?_ | with_reducible refine Kp.back hk2 ?_ | with_reducible refine Kp.back hk1 ?_))); simp only at b; obtain ⟨b0, b1, b2, b3, b4, bs⟩ := b) | (go_at_call 58; (with_reducible refine (c_are _ ks la ll lc K (HL.out.keep (by (repeat (first | with_reducible exact Kp.refl _ | with_reducible refine Kp.alloc ?_ _ | with_reducible refine Kp.drew ?_ | with_reducible refine Kp.back hk3 ?_ | with_reducible refine Kp.back hk2 ?_ | with_reducible refine Kp.back hk1 ?_)))) [tyK, exK] _ _ _ _ (sorts2 (by simp) (sort_ty _) (sort_ex _))).mono ?_); rintro e w' ⟨rfl, hk2⟩))
    go_ret
    refine ⟨rfl, ?_⟩
    (repeat (first | with_reducible exact Kp.refl _ | with_reducible refine Kp.alloc ?_ _ | with_reducible refine Kp.drew ?_ | with_reducible refine Kp.back hk3 ?_ | with_reducible refine Kp.back hk2 ?_ | with_reducible refine Kp.back hk1 ?_))
end Go.Proofs.Ytgamenimbkafjaa
