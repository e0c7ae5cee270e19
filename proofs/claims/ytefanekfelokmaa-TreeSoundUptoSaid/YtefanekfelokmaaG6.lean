/- What nodes must stand in a node by its Kind, in the reference: children; lists that are not by letters alone. Condition: the node lies in memory. -/
import Derived.Test.YtefanekfelokmaaG2
import Derived.Test.YtefanekfelokmaaF4
namespace Go.Proofs.Ytefanekfelokmaa
open Go.RowKit
set_option linter.unusedVariables false
set_option linter.unusedSimpArgs false
set_option maxHeartbeats 6400000 in
set_option maxRecDepth 100000 in
theorem kids_34 (ks : List Int) (tx : ByteArray) (n at_ : Int) (la : Option Addr) (ll lc : Nat) (K : Nat → Hn) (w : World) (hL : ListAt w ks la ll lc K) :
    Calls Try.prog 39 #[.agg #[.int .i64 34, .string tx, .int .u64 n, .int .i64 at_, .slice la ll lc]] w fun e w' => e = .returned (.bool (decide (1 ≤ ll ∧ ll ≤ 17) && allB ks (fun k => sortL k == 101))) ∧ Kp w w' := by
  have HL := Lib.hid hL
  have hbl := hL.bl
  clear hL
  have hc : ll < 1 ∨ (1 ≤ ll ∧ ll ≤ 17) ∨ 17 < ll := by omega
  cases hq : allB ks (fun k => sortL k == 101) with
  | _ =>
    rcases hc with h | h | h
    all_goals
      first | rw [show decide (1 ≤ ll ∧ ll ≤ 17) = true from decide_eq_true (by omega)] | rw [show decide (1 ≤ ll ∧ ll ≤ 17) = false from decide_eq_false (by omega)]
      first | have d0 : decide ((1 : Int) ≤ (ll : Int)) = true := decide_eq_true (by omega) | have d0 : decide ((1 : Int) ≤ (ll : Int)) = false := decide_eq_false (by omega)
      first | have d1 : decide ((ll : Int) ≤ 17) = true := decide_eq_true (by omega) | have d1 : decide ((ll : Int) ≤ 17) = false := decide_eq_false (by omega)
      clear h
      go_enter Try.func39, Try.ntmps39
      go_wp2_with (first | (go_at_call 49; (with_reducible refine (c_run _ ks la ll lc K (HL.out.keep (by (repeat (first | with_reducible exact Kp.refl _ | with_reducible refine Kp.alloc ?_ _ | with_reducible refine Kp.drew ?_ | with_reducible refine Kp.back (by assumption) ?_)))) 101).mono ?_); rintro e w1 ⟨rfl, hk1⟩; rw [hq]))
      go_ret
      refine ⟨by first | rfl | (simp; done), ?_⟩
      (repeat (first | with_reducible exact Kp.refl _ | with_reducible refine Kp.alloc ?_ _ | with_reducible refine Kp.drew ?_ | with_reducible refine Kp.back (by assumption) ?_))
set_option maxHeartbeats 6400000 in
set_option maxRecDepth 100000 in
theorem kids_13 (ks : List Int) (tx : ByteArray) (n at_ : Int) (la : Option Addr) (ll lc : Nat) (K : Nat → Hn) (w : World) (hn : 0 ≤ n ∧ n ≤ 1) (hL : ListAt w ks la ll lc K) :
    Calls Try.prog 39 #[.agg #[.int .i64 13, .string tx, .int .u64 n, .int .i64 at_, .slice la ll lc]] w fun e w' => e = .returned (.bool (allB ks (fun k => sortL k == 116) && (decide (n ≤ (ll : Int)) && decide ((ll : Int) ≤ 16 + n)))) ∧ Kp w w' := by
  have HL := Lib.hid hL
  have hbl := hL.bl
  clear hL
  cases hq : allB ks (fun k => sortL k == 116) with
  | false =>
    rw [Bool.false_and]
    go_enter Try.func39, Try.ntmps39
    go_wp2_with (first | (go_at_call 49; (with_reducible refine (c_run _ ks la ll lc K (HL.out.keep (by (repeat (first | with_reducible exact Kp.refl _ | with_reducible refine Kp.alloc ?_ _ | with_reducible refine Kp.drew ?_ | with_reducible refine Kp.back (by assumption) ?_)))) 116).mono ?_); rintro e w1 ⟨rfl, hk1⟩; rw [hq]))
    go_ret
    refine ⟨by first | rfl | (simp; done), ?_⟩
    (repeat (first | with_reducible exact Kp.refl _ | with_reducible refine Kp.alloc ?_ _ | with_reducible refine Kp.drew ?_ | with_reducible refine Kp.back (by assumption) ?_))
  | true =>
    rw [Bool.true_and]
    have hc : (ll : Int) < n ∨ (n ≤ (ll : Int) ∧ (ll : Int) ≤ 16 + n) ∨ 16 + n < (ll : Int) := by omega
    have hw : IntKind.u64.wrap (16 + n) = 16 + n := by simp [IntKind.wrap, IntKind.signed, IntKind.bits]; omega
    have hw2 : IntKind.u64.wrap (ll : Int) = (ll : Int) := by simp [IntKind.wrap, IntKind.signed, IntKind.bits]; omega
    rcases hc with h | h | h
    all_goals
      first | have d0 : decide (n ≤ (ll : Int)) = true := decide_eq_true (by omega) | have d0 : decide (n ≤ (ll : Int)) = false := decide_eq_false (by omega)
      first | have d1 : decide ((ll : Int) ≤ 16 + n) = true := decide_eq_true (by omega) | have d1 : decide ((ll : Int) ≤ 16 + n) = false := decide_eq_false (by omega)
      rw [d0, d1]
      clear h
      go_enter Try.func39, Try.ntmps39
      go_wp2_with (first | (go_at_call 49; (with_reducible refine (c_run _ ks la ll lc K (HL.out.keep (by (repeat (first | with_reducible exact Kp.refl _ | with_reducible refine Kp.alloc ?_ _ | with_reducible refine Kp.drew ?_ | with_reducible refine Kp.back (by assumption) ?_)))) 116).mono ?_); rintro e w1 ⟨rfl, hk1⟩; rw [hq]; have bb := boxed (w := w) (h := ⟨13, tx, n, at_, la, ll, lc⟩) (show Kp _ w1 by (repeat (first | with_reducible exact Kp.refl _ | with_reducible refine Kp.alloc ?_ _ | with_reducible refine Kp.drew ?_ | with_reducible refine Kp.back (by assumption) ?_))); simp only at bb; obtain ⟨b0, b1, b2, b3, b4, bs⟩ := bb))
      go_ret
      refine ⟨by first | rfl | (simp; done), ?_⟩
      (repeat (first | with_reducible exact Kp.refl _ | with_reducible refine Kp.alloc ?_ _ | with_reducible refine Kp.drew ?_ | with_reducible refine Kp.back (by assumption) ?_))
set_option maxHeartbeats 6400000 in
set_option maxRecDepth 100000 in
theorem kids_23 (ks : List Int) (tx : ByteArray) (n at_ : Int) (la : Option Addr) (ll lc : Nat) (K : Nat → Hn) (w : World) (hL : ListAt w ks la ll lc K) :
    Calls Try.prog 39 #[.agg #[.int .i64 23, .string tx, .int .u64 n, .int .i64 at_, .slice la ll lc]] w fun e w' => e = .returned (.bool (areB ks [exK, exK] && inK [30, 35, 36] (ks.getD 0 0))) ∧ Kp w w' := by
  have HL := Lib.hid hL
  have hbl := hL.bl
  clear hL
  cases hq : areB ks [exK, exK] with
  | false =>
    rw [Bool.false_and]
    go_enter Try.func39, Try.ntmps39
    go_wp2_with (first | (go_at_call 48; (with_reducible refine (list_ee _ ks la ll lc K (HL.out.keep (by (repeat (first | with_reducible exact Kp.refl _ | with_reducible refine Kp.alloc ?_ _ | with_reducible refine Kp.drew ?_ | with_reducible refine Kp.back (by assumption) ?_))))).mono ?_); rintro e w1 ⟨rfl, hk1⟩; rw [hq]))
    go_ret
    refine ⟨by first | rfl | (simp; done), ?_⟩
    (repeat (first | with_reducible exact Kp.refl _ | with_reducible refine Kp.alloc ?_ _ | with_reducible refine Kp.drew ?_ | with_reducible refine Kp.back (by assumption) ?_))
  | true =>
    rw [Bool.true_and]
    have hll : ll = 2 := by
      apply Classical.byContradiction
      intro hc
      rw [areB_len (by rw [HL.out.len]; exact hc)] at hq
      cases hq
    subst hll
    obtain ⟨b, o, ha, hr⟩ := HL.out.tl.at (by omega)
    have HR := Lib.hid (hr 0 (by omega))
    have h0 := HL.out.at_ 0 (by omega)
    have hk0 : ks.getD 0 0 = (K 0).k := by rw [List.getD_eq_getElem?_getD, h0]; rfl
    rw [hk0]
    subst ha
    clear hr h0 hk0
    have hc : (K 0).k = 30 ∨ (K 0).k = 35 ∨ (K 0).k = 36 ∨ ((K 0).k ≠ 30 ∧ (K 0).k ≠ 35 ∧ (K 0).k ≠ 36) := by omega
    rcases hc with h | h | h | h
    all_goals
      first | rw [show inK [30, 35, 36] (K 0).k = true from by rw [h]; rfl] | rw [show inK [30, 35, 36] (K 0).k = false from by unfold inK; simp [h.1, h.2.1, h.2.2]]
      first | have d0 : ((K 0).k == 30) = true := beq_iff_eq.2 (by omega) | have d0 : ((K 0).k == 30) = false := beq_eq_false_iff_ne.2 (by omega)
      first | have d1 : ((K 0).k == 35) = true := beq_iff_eq.2 (by omega) | have d1 : ((K 0).k == 35) = false := beq_eq_false_iff_ne.2 (by omega)
      first | have d2 : ((K 0).k == 36) = true := beq_iff_eq.2 (by omega) | have d2 : ((K 0).k == 36) = false := beq_eq_false_iff_ne.2 (by omega)
      clear h
      go_enter Try.func39, Try.ntmps39
      go_wp2_with (first | (go_at_call 48; (with_reducible refine (list_ee _ ks (some ⟨b, o, none⟩) 2 lc K (HL.out.keep (by (repeat (first | with_reducible exact Kp.refl _ | with_reducible refine Kp.alloc ?_ _ | with_reducible refine Kp.drew ?_ | with_reducible refine Kp.back (by assumption) ?_))))).mono ?_); rintro e w1 ⟨rfl, hk1⟩; rw [hq]; have HR1 := ((Kp.refl w).alloc (.cells #[.int .i64 23, .string tx, .int .u64 n, .int .i64 at_, .slice (some ⟨b, o, none⟩) 2 lc] 25)).trans hk1; obtain ⟨x0, x1, x2, x3, x4⟩ := node_at (show w1.rangeAt b o (K 0).cells from (by simpa using HR1.range HR.out))))
      go_ret
      refine ⟨by first | rfl | (simp; done), ?_⟩
      (repeat (first | with_reducible exact Kp.refl _ | with_reducible refine Kp.alloc ?_ _ | with_reducible refine Kp.drew ?_ | with_reducible refine Kp.back (by assumption) ?_))
end Go.Proofs.Ytefanekfelokmaa
