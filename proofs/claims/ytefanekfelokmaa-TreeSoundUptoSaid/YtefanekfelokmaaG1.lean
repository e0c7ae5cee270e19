/- Sorts of nodes in the reference: sort, run, same, list. Condition: the lists lie in memory. -/
import Derived.Test.YtefanekfelokmaaF5
namespace Go.Proofs.Ytefanekfelokmaa
open Go.RowKit
set_option linter.unusedVariables false
set_option linter.unusedSimpArgs false

theorem neq_of_t {a b : Int} (h : (a == b) = true) : (a != b) = false := by simp [bne, h]
theorem neq_of_f {a b : Int} (h : (a == b) = false) : (a != b) = true := by simp [bne, h]
/-- The letter of a sort. -/
def sortL (k : Int) : Int := if (20 ≤ k ∧ k ≤ 29) ∨ k = 41 ∨ k = 42 then 115 else if 30 ≤ k ∧ k ≤ 40 then 101 else if 10 ≤ k ∧ k ≤ 13 then 116 else 45
set_option maxHeartbeats 1600000 in
theorem c_sort (k : Int) (w : World) : Calls Try.prog 29 #[.int .i64 k] w fun e w' => e = .returned (.int .u8 (sortL k)) ∧ w' = w := by
  have hq : k < 10 ∨ (10 ≤ k ∧ k ≤ 13) ∨ (13 < k ∧ k < 20) ∨ (20 ≤ k ∧ k ≤ 29) ∨ (30 ≤ k ∧ k ≤ 40) ∨ k = 41 ∨ k = 42 ∨ 42 < k := by omega
  rcases hq with hc | hc | hc | hc | hc | hc | hc | hc
  all_goals
    first | (rw [show sortL k = 115 from by unfold sortL; rw [if_pos (by omega)]]) | (rw [show sortL k = 101 from by unfold sortL; rw [if_neg (by omega), if_pos (by omega)]]) | (rw [show sortL k = 116 from by unfold sortL; rw [if_neg (by omega), if_neg (by omega), if_pos (by omega)]]) | (rw [show sortL k = 45 from by unfold sortL; rw [if_neg (by omega), if_neg (by omega), if_neg (by omega)]])
    first | have d0 : decide (20 ≤ k) = true := decide_eq_true (by omega) | have d0 : decide (20 ≤ k) = false := decide_eq_false (by omega)
    first | have d1 : decide (k ≤ 29) = true := decide_eq_true (by omega) | have d1 : decide (k ≤ 29) = false := decide_eq_false (by omega)
    first | have d2 : (k == 41) = true := beq_iff_eq.2 (by omega) | have d2 : (k == 41) = false := beq_eq_false_iff_ne.2 (by omega)
    first | have d3 : (k == 42) = true := beq_iff_eq.2 (by omega) | have d3 : (k == 42) = false := beq_eq_false_iff_ne.2 (by omega)
    first | have d4 : decide (30 ≤ k) = true := decide_eq_true (by omega) | have d4 : decide (30 ≤ k) = false := decide_eq_false (by omega)
    first | have d5 : decide (k ≤ 40) = true := decide_eq_true (by omega) | have d5 : decide (k ≤ 40) = false := decide_eq_false (by omega)
    first | have d6 : decide (10 ≤ k) = true := decide_eq_true (by omega) | have d6 : decide (10 ≤ k) = false := decide_eq_false (by omega)
    first | have d7 : decide (k ≤ 13) = true := decide_eq_true (by omega) | have d7 : decide (k ≤ 13) = false := decide_eq_false (by omega)
    clear hc
    go_enter Try.func29, Try.ntmps29
    go_wp2_with fail
    go_ret
    exact ⟨rfl, rfl⟩
set_option maxHeartbeats 3200000 in
set_option maxRecDepth 100000 in
theorem c_same (w : World) (ks : List Int) (la : Option Addr) (ll lc : Nat) (K : Nat → Hn) (hL : ListAt w ks la ll lc K) (kind : Int) :
    Calls Try.prog 47 #[.slice la ll lc, .int .i64 kind] w fun e w' => e = .returned (.bool (allB ks (fun k => k == kind))) ∧ Kp w w' := by
  have HL := Lib.hid hL
  have hbl := hL.bl
  clear hL
  go_enter Try.func47, Try.ntmps47
  go_wp2_with fail
  go_loopw [5] (fun i wr => ∃ n : Nat, n ≤ ll ∧ i = .int .i64 n ∧ Hid (∀ (i : Nat) (k : Int), i < n → ks[i]? = some k → (fun k => k == kind) k = true) ∧ Kp w wr) (fun i _ => ll - (intOf i).toNat)
  case atStart => exact ⟨0, by omega, rfl, Lib.hid (fun i _ hi => absurd hi (by omega)), Kp.refl _⟩
  case round =>
    obtain ⟨n, hn, rfl, HN, hkr⟩ := hrel
    have HKR := Lib.hid hkr
    by_cases hlt : n < ll
    · obtain ⟨b, o, ha, hr⟩ := HL.out.tl.at (by omega)
      have HA := Lib.hid ha
      have HKX := Lib.hid (HL.out.at_ n hlt)
      have g0 := (node_at (hkr.range (hr n hlt))).1
      clear ha hr
      cases hq : (fun k => k == kind) (K n).k with
      | false =>
        have hv := Lib.hid (allB_no (ks := ks) (p := fun k => k == kind) (i := n) HKX.out hq)
        have hq1 := (show ((K n).k == kind) = false from hq)
        have hq2 := neq_of_f hq1
        clear hq
        go_wp2_with (first | ((with_reducible show wpList _ _ _ (⟨some 14, _, _, _, _, _⟩ :: _) _ _); refine wpList_index_tab (d := 14) _ _ _ rfl 25 Try.underlying23 5 rfl _ _ _ _ o (by rfl) HA.out n (by rfl) hlt ?_))
        go_ret
        exact ⟨ret_boolA hv.out.symm, HKR.out⟩
      | true =>
        have HQ := Lib.hid hq
        have hq1 := (show ((K n).k == kind) = true from hq)
        have hq2 := neq_of_t hq1
        clear hq
        go_wp2_with (first | ((with_reducible show wpList _ _ _ (⟨some 14, _, _, _, _, _⟩ :: _) _ _); refine wpList_index_tab (d := 14) _ _ _ rfl 25 Try.underlying23 5 rfl _ _ _ _ o (by rfl) HA.out n (by rfl) hlt ?_))
        go_roundw
        case rel => exact ⟨n + 1, by omega, by go_num, Lib.hid (fun i k' hi hk' => by
          by_cases e : i = n
          · subst e
            obtain rfl := Option.some.inj (hk'.symm.trans HKX.out)
            exact HQ.out
          · exact HN.out i k' (by omega) hk'), HKR.out⟩
        case measure => simp [intOf]; omega
    · obtain rfl : n = ll := by omega
      have hv := Lib.hid (allB_yes (ks := ks) (p := fun k => k == kind) (fun i k' hk' => HN.out i k' (by have := (List.getElem?_eq_some_iff.1 hk').1; have := HL.out.len; omega) hk'))
      go_wp2_with fail
      go_ret
      exact ⟨ret_boolA hv.out.symm, hkr⟩
set_option maxHeartbeats 3200000 in
set_option maxRecDepth 100000 in
theorem c_run (w : World) (ks : List Int) (la : Option Addr) (ll lc : Nat) (K : Nat → Hn) (hL : ListAt w ks la ll lc K) (s : Int) :
    Calls Try.prog 49 #[.slice la ll lc, .int .i64 0, .int .u8 s] w fun e w' => e = .returned (.bool (allB ks (fun k => sortL k == s))) ∧ Kp w w' := by
  have HL := Lib.hid hL
  have hbl := hL.bl
  clear hL
  go_enter Try.func49, Try.ntmps49
  go_wp2_with fail
  go_loopw [7] (fun i wr => ∃ n : Nat, n ≤ ll ∧ i = .int .i64 n ∧ Hid (∀ (i : Nat) (k : Int), i < n → ks[i]? = some k → (fun k => sortL k == s) k = true) ∧ Kp w wr) (fun i _ => ll - (intOf i).toNat)
  case atStart => exact ⟨0, by omega, rfl, Lib.hid (fun i _ hi => absurd hi (by omega)), Kp.refl _⟩
  case round =>
    obtain ⟨n, hn, rfl, HN, hkr⟩ := hrel
    have HKR := Lib.hid hkr
    by_cases hlt : n < ll
    · obtain ⟨b, o, ha, hr⟩ := HL.out.tl.at (by omega)
      have HA := Lib.hid ha
      have HKX := Lib.hid (HL.out.at_ n hlt)
      have g0 := (node_at (hkr.range (hr n hlt))).1
      clear ha hr
      cases hq : (fun k => sortL k == s) (K n).k with
      | false =>
        have hv := Lib.hid (allB_no (ks := ks) (p := fun k => sortL k == s) (i := n) HKX.out hq)
        have hq1 := (show (sortL (K n).k == s) = false from hq)
        have hq2 := neq_of_f hq1
        clear hq
        go_wp2_with (first | ((with_reducible show wpList _ _ _ (⟨some 17, _, _, _, _, _⟩ :: _) _ _); refine wpList_index_tab (d := 17) _ _ _ rfl 25 Try.underlying23 5 rfl _ _ _ _ o (by rfl) HA.out n (by rfl) hlt ?_) | (go_at_call 29; (with_reducible refine (c_sort (K n).k _).mono ?_); rintro e w' ⟨rfl, rfl⟩))
        go_ret
        exact ⟨ret_boolA hv.out.symm, HKR.out⟩
      | true =>
        have HQ := Lib.hid hq
        have hq1 := (show (sortL (K n).k == s) = true from hq)
        have hq2 := neq_of_t hq1
        clear hq
        go_wp2_with (first | ((with_reducible show wpList _ _ _ (⟨some 17, _, _, _, _, _⟩ :: _) _ _); refine wpList_index_tab (d := 17) _ _ _ rfl 25 Try.underlying23 5 rfl _ _ _ _ o (by rfl) HA.out n (by rfl) hlt ?_) | (go_at_call 29; (with_reducible refine (c_sort (K n).k _).mono ?_); rintro e w' ⟨rfl, rfl⟩))
        go_roundw
        case rel => exact ⟨n + 1, by omega, by go_num, Lib.hid (fun i k' hi hk' => by
          by_cases e : i = n
          · subst e
            obtain rfl := Option.some.inj (hk'.symm.trans HKX.out)
            exact HQ.out
          · exact HN.out i k' (by omega) hk'), HKR.out⟩
        case measure => simp [intOf]; omega
    · obtain rfl : n = ll := by omega
      have hv := Lib.hid (allB_yes (ks := ks) (p := fun k => sortL k == s) (fun i k' hk' => HN.out i k' (by have := (List.getElem?_eq_some_iff.1 hk').1; have := HL.out.len; omega) hk'))
      go_wp2_with fail
      go_ret
      exact ⟨ret_boolA hv.out.symm, hkr⟩
end Go.Proofs.Ytefanekfelokmaa
