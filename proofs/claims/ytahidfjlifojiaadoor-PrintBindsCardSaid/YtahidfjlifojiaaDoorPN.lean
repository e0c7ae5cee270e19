/- A number's node has what its Kind asks for. Condition: the node lies in memory. -/
import Derived.Test.YtahidfjlifojiaaDoorT1
import Derived.Handy
import Derived.Lib.Hide
import Derived.WalkLawsBesides
import Derived.Outline
import Derived.Laws.EntriesVeiled
import Derived.Deep.RegionHeld3
namespace Go.Proofs.YtahidfjlifojiaaDoor
open Go.RowKit
set_option linter.unusedVariables false
set_option linter.unusedSimpArgs false

def tyK (k : Int) : Bool := decide (10 ≤ k ∧ k ≤ 13)
def stK (k : Int) : Bool := decide ((20 ≤ k ∧ k ≤ 29) ∨ k = 41 ∨ k = 42)
def exK (k : Int) : Bool := decide (30 ≤ k ∧ k ≤ 40)
set_option maxHeartbeats 1600000 in
theorem c_isType (h : Hn) (w : World) : Calls Tryd.prog 17 #[h.val] w fun e w' => e = .returned (.bool (tyK h.k)) ∧ Kp w w' := by
  obtain ⟨k, tx, n, at_, la, ll, lc⟩ := h
  simp only
  have hq : k < 10 ∨ (10 ≤ k ∧ k ≤ 13) ∨ 13 < k := by omega
  rcases hq with h | h | h
  all_goals
    first | rw [show tyK k = true from decide_eq_true (by omega)] | rw [show tyK k = false from decide_eq_false (by omega)]
    first | have d0 : decide (10 ≤ k) = true := decide_eq_true (by omega) | have d0 : decide (10 ≤ k) = false := decide_eq_false (by omega)
    first | have d1 : decide (k ≤ 13) = true := decide_eq_true (by omega) | have d1 : decide (k ≤ 13) = false := decide_eq_false (by omega)
    clear h
    go_enter Tryd.func17, Tryd.ntmps17
    go_wp2_with fail
    go_ret
    exact ⟨rfl, (Kp.refl w).alloc _⟩
set_option maxHeartbeats 1600000 in
theorem c_isExpression (h : Hn) (w : World) : Calls Tryd.prog 16 #[h.val] w fun e w' => e = .returned (.bool (exK h.k)) ∧ Kp w w' := by
  obtain ⟨k, tx, n, at_, la, ll, lc⟩ := h
  simp only
  have hq : k < 30 ∨ (30 ≤ k ∧ k ≤ 40) ∨ 40 < k := by omega
  rcases hq with h | h | h
  all_goals
    first | rw [show exK k = true from decide_eq_true (by omega)] | rw [show exK k = false from decide_eq_false (by omega)]
    first | have d0 : decide (30 ≤ k) = true := decide_eq_true (by omega) | have d0 : decide (30 ≤ k) = false := decide_eq_false (by omega)
    first | have d1 : decide (k ≤ 40) = true := decide_eq_true (by omega) | have d1 : decide (k ≤ 40) = false := decide_eq_false (by omega)
    clear h
    go_enter Tryd.func16, Tryd.ntmps16
    go_wp2_with fail
    go_ret
    exact ⟨rfl, (Kp.refl w).alloc _⟩
set_option maxHeartbeats 1600000 in
theorem c_isStatement (h : Hn) (w : World) : Calls Tryd.prog 15 #[h.val] w fun e w' => e = .returned (.bool (stK h.k)) ∧ Kp w w' := by
  obtain ⟨k, tx, n, at_, la, ll, lc⟩ := h
  simp only
  have hq : k < 20 ∨ (20 ≤ k ∧ k ≤ 29) ∨ (29 < k ∧ k < 41) ∨ k = 41 ∨ k = 42 ∨ 42 < k := by omega
  rcases hq with h | h | h | h | h | h
  all_goals
    first | rw [show stK k = true from decide_eq_true (by omega)] | rw [show stK k = false from decide_eq_false (by omega)]
    first | have d0 : decide (20 ≤ k) = true := decide_eq_true (by omega) | have d0 : decide (20 ≤ k) = false := decide_eq_false (by omega)
    first | have d1 : decide (k ≤ 29) = true := decide_eq_true (by omega) | have d1 : decide (k ≤ 29) = false := decide_eq_false (by omega)
    first | have e0 : (k == 41) = true := beq_iff_eq.2 (by omega) | have e0 : (k == 41) = false := beq_eq_false_iff_ne.2 (by omega)
    first | have e1 : (k == 42) = true := beq_iff_eq.2 (by omega) | have e1 : (k == 42) = false := beq_eq_false_iff_ne.2 (by omega)
    clear h
    go_enter Tryd.func15, Tryd.ntmps15
    go_wp2_with fail
    go_ret
    exact ⟨rfl, (Kp.refl w).alloc _⟩
theorem dec_yes {p : Prop} (h : p) : @decide p (Classical.propDecidable _) = true := @decide_eq_true _ (Classical.propDecidable _) h
theorem dec_no {p : Prop} (h : ¬ p) : @decide p (Classical.propDecidable _) = false := @decide_eq_false _ (Classical.propDecidable _) h
set_option maxHeartbeats 1600000 in
set_option maxRecDepth 100000 in
theorem c_are0 (la : Option Addr) (lc : Nat) (w : World) :
    Calls Tryd.prog 52 #[.slice la 0 lc, .slice none 0 0] w fun e w' => e = .returned (.bool true) ∧ Kp w w' := by
  go_enter Tryd.func52, Tryd.ntmps52
  go_wp2_with fail
  go_loopw [14] (fun i wr => i = .int .i64 ((0 : Nat) : Int) ∧ Kp w wr) (fun i _ => 0)
  case atStart => exact ⟨rfl, Kp.refl _⟩
  case round =>
    obtain ⟨rfl, hkr⟩ := hrel
    go_wp2_with fail
    go_ret
    exact ⟨rfl, hkr⟩
set_option maxHeartbeats 12800000 in
set_option maxRecDepth 100000 in
theorem form_31 (n at_ : Int) (la : Option Addr) (lc : Nat) (w : World) :
    Calls Tryd.prog 42 #[.agg #[.int .i64 31, .string ⟨#[]⟩, .int .u64 n, .int .i64 at_, .slice la 0 lc]] w fun e w' => e = .returned (.bool true) ∧ Kp w w' := by
  have hmf : ∀ (fn : Fn) (first cap : Array Value) (w : World), (Instr.makeFunc fn first cap).run Tryd.prog w = .ok (.func fn first cap) w := fun _ _ _ _ => rfl
  go_enter Tryd.func42, Tryd.ntmps42
  go_wp2_with (first | (go_at_call 52; (with_reducible refine (c_are0 _ _ _).mono ?_); rintro e w' ⟨rfl, hk1⟩))
  go_ret
  refine ⟨rfl, ?_⟩
  (repeat (first | with_reducible exact Kp.refl _ | with_reducible refine Kp.alloc ?_ _ | with_reducible refine Kp.drew ?_ | with_reducible refine Kp.back hk4 ?_ | with_reducible refine Kp.back hk3 ?_ | with_reducible refine Kp.back hk2 ?_ | with_reducible refine Kp.back hk1 ?_))
set_option maxHeartbeats 3200000 in
set_option maxRecDepth 100000 in
theorem iF_31 (n at_ : Int) (la : Option Addr) (lc : Nat) (w : World) :
    Calls Tryd.prog 29 #[.agg #[.int .i64 31, .string ⟨#[]⟩, .int .u64 n, .int .i64 at_, .slice la 0 lc]] w fun e w' => e = .returned (.bool true) ∧ Kp w w' := by
  go_enter Tryd.func29, Tryd.ntmps29
  go_wp2_with (first | (go_at_call 17; (with_reducible refine (c_isType ⟨31, ⟨#[]⟩, n, at_, la, 0, lc⟩ _).mono ?_); rintro e w' ⟨rfl, hk1⟩; rw [show tyK (31 : Int) = false from rfl]; have b := boxed (w := w) (h := ⟨31, ⟨#[]⟩, n, at_, la, 0, lc⟩) (show Kp _ w' by (repeat (first | with_reducible exact Kp.refl _ | with_reducible refine Kp.alloc ?_ _ | with_reducible refine Kp.drew ?_ | with_reducible refine Kp.back hk4 ?_ | with_reducible refine Kp.back hk3 ?_ | with_reducible refine Kp.back hk2 ?_ | with_reducible refine Kp.back hk1 ?_))); simp only at b; obtain ⟨b0, b1, b2, b3, b4, bs⟩ := b) | (go_at_call 15; (with_reducible refine (c_isStatement ⟨31, ⟨#[]⟩, n, at_, la, 0, lc⟩ _).mono ?_); rintro e w' ⟨rfl, hk2⟩; rw [show stK (31 : Int) = false from rfl]; have b := boxed (w := w) (h := ⟨31, ⟨#[]⟩, n, at_, la, 0, lc⟩) (show Kp _ w' by (repeat (first | with_reducible exact Kp.refl _ | with_reducible refine Kp.alloc ?_ _ | with_reducible refine Kp.drew ?_ | with_reducible refine Kp.back hk4 ?_ | with_reducible refine Kp.back hk3 ?_ | with_reducible refine Kp.back hk2 ?_ | with_reducible refine Kp.back hk1 ?_))); simp only at b; obtain ⟨b0, b1, b2, b3, b4, bs⟩ := b) | (go_at_call 16; (with_reducible refine (c_isExpression ⟨31, ⟨#[]⟩, n, at_, la, 0, lc⟩ _).mono ?_); rintro e w' ⟨rfl, hk3⟩; rw [show exK (31 : Int) = true from rfl]; have b := boxed (w := w) (h := ⟨31, ⟨#[]⟩, n, at_, la, 0, lc⟩) (show Kp _ w' by (repeat (first | with_reducible exact Kp.refl _ | with_reducible refine Kp.alloc ?_ _ | with_reducible refine Kp.drew ?_ | with_reducible refine Kp.back hk4 ?_ | with_reducible refine Kp.back hk3 ?_ | with_reducible refine Kp.back hk2 ?_ | with_reducible refine Kp.back hk1 ?_))); simp only at b; obtain ⟨b0, b1, b2, b3, b4, bs⟩ := b) | (go_at_call 42; (with_reducible refine (form_31 n at_ la lc _).mono ?_); rintro e w' ⟨rfl, hk4⟩))
  go_ret
  refine ⟨rfl, ?_⟩
  (repeat (first | with_reducible exact Kp.refl _ | with_reducible refine Kp.alloc ?_ _ | with_reducible refine Kp.drew ?_ | with_reducible refine Kp.back hk4 ?_ | with_reducible refine Kp.back hk3 ?_ | with_reducible refine Kp.back hk2 ?_ | with_reducible refine Kp.back hk1 ?_))
/-- Is it a number's? -/
def formN (X : Nd) : Bool := decide (X.k = 31)
/-- A number's node. -/
abbrev numH (n : Int) : Hn := ⟨31, ⟨#[]⟩, n, 0, none, 0, 0⟩
abbrev numT (n : Int) : Nd := .mk 31 ⟨#[]⟩ n 0 []
theorem num_lies (w : World) (n : Int) (hn : 0 ≤ n ∧ n ≤ 18446744073709551615) : Lies w A0 1 (numT n) (numH n) :=
  ⟨fun _ => numH n, ⟨rfl, rfl, rfl, rfl, rfl, by simp, hn, by simp, (show (0 : Nat) ≤ 140737488351232 by omega), by simp, by simp, tab_nil _ _ _ _ _⟩, fun i X hX => by simp [Nd.kids] at hX⟩
theorem num_form (n : Int) : formN (numT n) = true := rfl
def FormsOK (X : Nd) : Prop := ∀ (r : Nat) (h : Hn) (w : World), Lies w A0 r X h → Calls Tryd.prog 29 #[h.val] w fun e w' => e = .returned (.bool (formN X)) ∧ Kp w w'
theorem num_forms1 (n : Int) : FormsOK (numT n) := by
  intro r h w hl
  cases r with
  | zero => exact hl.elim
  | succ r =>
    obtain ⟨K, t, hh⟩ := hl
    have e0 := t.es
    have e1 := t.ek
    have e2 := t.et
    have e3 := t.en
    clear t hh
    obtain ⟨k, tx, nn, at_, la, ll, lc⟩ := h
    have ek : (31 : Int) = k := e1
    have et : (⟨#[]⟩ : ByteArray) = tx := e2
    have el : ll = 0 := e0
    subst ek
    subst et
    subst el
    exact iF_31 nn at_ la lc w
end Go.Proofs.YtahidfjlifojiaaDoor
