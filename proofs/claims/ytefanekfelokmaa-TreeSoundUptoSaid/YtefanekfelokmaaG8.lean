/- What nodes must stand in a node by its Kind, in the reference: children of brackets; label of operators. Condition: the node lies in memory. -/
import Derived.Test.YtefanekfelokmaaG2
import Derived.Test.YtefanekfelokmaaG4
import Derived.Test.YtefanekfelokmaaF4
namespace Go.Proofs.Ytefanekfelokmaa
open Go.RowKit
set_option linter.unusedVariables false
set_option linter.unusedSimpArgs false
/-- What stands in brackets. -/
def kids36 (ks : List Int) (ll : Nat) : Bool := allB (ks.drop 1) brK && decide (2 ≤ ll ∧ ll ≤ 17) && exK (ks.getD 0 0)
theorem drop_no {ks : List Int} {p : Int → Bool} {i : Nat} {k : Int} (h1 : 1 ≤ i) (h : ks[i]? = some k) (hf : p k = false) : allB (ks.drop 1) p = false :=
  allB_no (ks := ks.drop 1) (i := i - 1) (by rw [List.getElem?_drop, show 1 + (i - 1) = i by omega]; exact h) hf
theorem drop_yes {ks : List Int} {p : Int → Bool} (h : ∀ (i : Nat) (k : Int), 1 ≤ i → ks[i]? = some k → p k = true) : allB (ks.drop 1) p = true :=
  allB_yes (fun i k hk => h (1 + i) k (by omega) (by rw [List.getElem?_drop] at hk; exact hk))
set_option maxHeartbeats 6400000 in
set_option maxRecDepth 100000 in
theorem kids_36 (ks : List Int) (tx : ByteArray) (n at_ : Int) (la : Option Addr) (ll lc : Nat) (K : Nat → Hn) (w : World) (hL : ListAt w ks la ll lc K) :
    Calls Try.prog 39 #[.agg #[.int .i64 36, .string tx, .int .u64 n, .int .i64 at_, .slice la ll lc]] w fun e w' => e = .returned (.bool (kids36 ks ll)) ∧ Kp w w' := by
  have HL := Lib.hid hL
  have hbl := hL.bl
  clear hL
  go_enter Try.func39, Try.ntmps39
  go_wp2_with fail
  go_loopw [6] (fun i wr => ∃ m : Nat, 1 ≤ m ∧ (m ≤ ll ∨ m = 1) ∧ i = .int .i64 m ∧ Hid (∀ (i : Nat) (k : Int), 1 ≤ i → i < m → ks[i]? = some k → brK k = true) ∧ Kp (w.alloc (.cells #[.int .i64 36, .string tx, .int .u64 n, .int .i64 at_, .slice la ll lc] 25)) wr) (fun i _ => ll - (intOf i).toNat)
  case atStart => exact ⟨1, by omega, .inr rfl, rfl, Lib.hid (fun i _ h hi => absurd hi (by omega)), Kp.refl _⟩
  case round =>
    obtain ⟨m, hm1, hm, rfl, HN, hkr⟩ := hrel
    by_cases hlt : m < ll
    · skip
      obtain ⟨b, o, ha, hr⟩ := HL.out.tl.at (by omega)
      have HKX := Lib.hid (HL.out.at_ m hlt)
      have g0 := (node_at ((Kp.back hkr ((Kp.refl w).alloc _)).range (hr m hlt))).1
      have j1 : (0 : Int) ≤ m := by omega
      have j2 : (m : Int) < ll := by omega
      subst ha
      clear hr
      have hc : (30 ≤ (K m).k ∧ (K m).k ≤ 40) ∨ (K m).k = 11 ∨ (K m).k = 12 ∨ (¬ (30 ≤ (K m).k ∧ (K m).k ≤ 40) ∧ (K m).k ≠ 11 ∧ (K m).k ≠ 12) := by omega
      rcases hc with h | h | h | h
      · have HQ := Lib.hid (show brK (K m).k = true from decide_eq_true (by omega))
        have d0 : (sortL (K m).k != 101) = false := neq_of_t (by rw [sort_e]; exact decide_eq_true h)
        clear h
        go_wp2_with (first | (go_at_call 29; (with_reducible refine (c_sort (K m).k _).mono ?_); rintro e w' ⟨rfl, rfl⟩))
        go_roundw
        case rel => exact ⟨m + 1, by omega, .inl (by omega), by go_num, Lib.hid (fun i k' h1 hi hk' => by
          by_cases e : i = m
          · subst e
            obtain rfl := Option.some.inj (hk'.symm.trans HKX.out)
            exact HQ.out
          · exact HN.out i k' h1 (by omega) hk'), hkr⟩
        case measure => simp [intOf]; omega
      · have HQ := Lib.hid (show brK (K m).k = true from decide_eq_true (by omega))
        have d0 : (sortL (K m).k != 101) = true := neq_of_f (by rw [sort_e]; exact decide_eq_false (by omega))
        have d1 : ((K m).k != 11) = false := neq_of_t (beq_iff_eq.2 h)
        clear h
        go_wp2_with (first | (go_at_call 29; (with_reducible refine (c_sort (K m).k _).mono ?_); rintro e w' ⟨rfl, rfl⟩))
        go_roundw
        case rel => exact ⟨m + 1, by omega, .inl (by omega), by go_num, Lib.hid (fun i k' h1 hi hk' => by
          by_cases e : i = m
          · subst e
            obtain rfl := Option.some.inj (hk'.symm.trans HKX.out)
            exact HQ.out
          · exact HN.out i k' h1 (by omega) hk'), hkr⟩
        case measure => simp [intOf]; omega
      · have HQ := Lib.hid (show brK (K m).k = true from decide_eq_true (by omega))
        have d0 : (sortL (K m).k != 101) = true := neq_of_f (by rw [sort_e]; exact decide_eq_false (by omega))
        have d1 : ((K m).k != 11) = true := neq_of_f (beq_eq_false_iff_ne.2 (by omega))
        have d2 : ((K m).k != 12) = false := neq_of_t (beq_iff_eq.2 h)
        clear h
        go_wp2_with (first | (go_at_call 29; (with_reducible refine (c_sort (K m).k _).mono ?_); rintro e w' ⟨rfl, rfl⟩))
        go_roundw
        case rel => exact ⟨m + 1, by omega, .inl (by omega), by go_num, Lib.hid (fun i k' h1 hi hk' => by
          by_cases e : i = m
          · subst e
            obtain rfl := Option.some.inj (hk'.symm.trans HKX.out)
            exact HQ.out
          · exact HN.out i k' h1 (by omega) hk'), hkr⟩
        case measure => simp [intOf]; omega
      · have hv := Lib.hid (show kids36 ks ll = false by unfold kids36; rw [drop_no (p := brK) hm1 HKX.out (decide_eq_false (by omega)), Bool.false_and, Bool.false_and])
        have d0 : (sortL (K m).k != 101) = true := neq_of_f (by rw [sort_e]; exact decide_eq_false h.1)
        have d1 : ((K m).k != 11) = true := neq_of_f (beq_eq_false_iff_ne.2 h.2.1)
        have d2 : ((K m).k != 12) = true := neq_of_f (beq_eq_false_iff_ne.2 h.2.2)
        clear h
        go_wp2_with (first | (go_at_call 29; (with_reducible refine (c_sort (K m).k _).mono ?_); rintro e w' ⟨rfl, rfl⟩))
        go_ret
        exact ⟨ret_boolA hv.out.symm, Kp.back hkr ((Kp.refl w).alloc _)⟩
    · have hall := drop_yes (ks := ks) (p := brK) (fun i k' h1 hk' => HN.out i k' h1 (by have := (List.getElem?_eq_some_iff.1 hk').1; have := HL.out.len; omega) hk')
      have hge : ll ≤ m := by omega
      have j0 : ¬ ((m : Int) < (ll : Int)) := by omega
      have hc : ll < 2 ∨ 17 < ll ∨ (2 ≤ ll ∧ ll ≤ 17) := by omega
      rcases hc with h | h | h
      · have hv := Lib.hid (show kids36 ks ll = false by unfold kids36; rw [decide_eq_false (show ¬ (2 ≤ ll ∧ ll ≤ 17) by omega), Bool.and_false, Bool.false_and])
        have d0 : decide ((2 : Int) ≤ (ll : Int)) = false := decide_eq_false (by omega)
        clear h hall hge
        go_wp2_with fail
        go_ret
        exact ⟨ret_boolA hv.out.symm, Kp.back hkr ((Kp.refl w).alloc _)⟩
      · have hv := Lib.hid (show kids36 ks ll = false by unfold kids36; rw [decide_eq_false (show ¬ (2 ≤ ll ∧ ll ≤ 17) by omega), Bool.and_false, Bool.false_and])
        have d0 : decide ((2 : Int) ≤ (ll : Int)) = true := decide_eq_true (by omega)
        have d1 : decide ((ll : Int) ≤ 17) = false := decide_eq_false (by omega)
        clear h hall hge
        go_wp2_with fail
        go_ret
        exact ⟨ret_boolA hv.out.symm, Kp.back hkr ((Kp.refl w).alloc _)⟩
      · obtain ⟨b, o, ha, hr⟩ := HL.out.tl.at (by omega)
        have h0 := HL.out.at_ 0 (by omega)
        have hk0 : ks.getD 0 0 = (K 0).k := by rw [List.getD_eq_getElem?_getD, h0]; rfl
        have g0 := (node_at ((Kp.back hkr ((Kp.refl w).alloc _)).range (hr 0 (by omega)))).1
        have g1 : wr.cell? ⟨b, o, none⟩ = some (.int .i64 (K 0).k) := by simpa using g0
        have hv := Lib.hid (show kids36 ks ll = (sortL (K 0).k == 101) by unfold kids36; rw [hall, decide_eq_true h, hk0, sort_e]; rfl)
        subst ha
        have d0 : decide ((2 : Int) ≤ (ll : Int)) = true := decide_eq_true (by omega)
        have d1 : decide ((ll : Int) ≤ 17) = true := decide_eq_true (by omega)
        have d2 : (0 : Int) < ll := by omega
        clear h hall hge hr h0 hk0 g0
        go_wp2_with (first | (go_at_call 29; (with_reducible refine (c_sort (K 0).k _).mono ?_); rintro e w' ⟨rfl, rfl⟩))
        go_ret
        exact ⟨ret_boolA hv.out.symm, Kp.back hkr ((Kp.refl w).alloc _)⟩
end Go.Proofs.Ytefanekfelokmaa
