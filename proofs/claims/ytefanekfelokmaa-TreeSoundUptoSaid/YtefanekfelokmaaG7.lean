/- What nodes must stand in a node by its Kind, in the reference: children; what goes through a list by a loop. Condition: the node lies in memory. -/
import Derived.Test.YtefanekfelokmaaG2
import Derived.Test.YtefanekfelokmaaF4
namespace Go.Proofs.Ytefanekfelokmaa
open Go.RowKit
set_option linter.unusedVariables false
set_option linter.unusedSimpArgs false
set_option maxHeartbeats 6400000 in
set_option maxRecDepth 100000 in
theorem kids_1 (ks : List Int) (tx : ByteArray) (n at_ : Int) (la : Option Addr) (ll lc : Nat) (K : Nat → Hn) (w : World) (hL : ListAt w ks la ll lc K) :
    Calls Try.prog 39 #[.agg #[.int .i64 1, .string tx, .int .u64 n, .int .i64 at_, .slice la ll lc]] w fun e w' => e = .returned (.bool (allB ks (inK [2, 3]))) ∧ Kp w w' := by
  have HL := Lib.hid hL
  have hbl := hL.bl
  clear hL
  go_enter Try.func39, Try.ntmps39
  go_wp2_with fail
  go_loopw [5] (fun i wr => ∃ m : Nat, m ≤ ll ∧ i = .int .i64 m ∧ Hid (∀ (i : Nat) (k : Int), i < m → ks[i]? = some k → inK [2, 3] k = true) ∧ Kp (w.alloc (.cells #[.int .i64 1, .string tx, .int .u64 n, .int .i64 at_, .slice la ll lc] 25)) wr) (fun i _ => ll - (intOf i).toNat)
  case atStart => exact ⟨0, by omega, rfl, Lib.hid (fun i _ hi => absurd hi (by omega)), Kp.refl _⟩
  case round =>
    obtain ⟨m, hm, rfl, HN, hkr⟩ := hrel
    by_cases hlt : m < ll
    · skip
      obtain ⟨b, o, ha, hr⟩ := HL.out.tl.at (by omega)
      have HKX := Lib.hid (HL.out.at_ m hlt)
      have g0 := (node_at ((Kp.back hkr ((Kp.refl w).alloc _)).range (hr m hlt))).1
      have j1 : (0 : Int) ≤ m := by omega
      have j2 : (m : Int) < ll := by omega
      subst ha
      clear hr
      have hc : (K m).k = 2 ∨ (K m).k = 3 ∨ ((K m).k ≠ 2 ∧ (K m).k ≠ 3) := by omega
      rcases hc with h | h | h
      · have HQ := Lib.hid (show inK [2, 3] (K m).k = true by rw [h]; rfl)
        have d0 : ((K m).k != 2) = false := neq_of_t (beq_iff_eq.2 h)
        clear h
        go_wp2_with fail
        go_roundw
        case rel => exact ⟨m + 1, by omega, by go_num, Lib.hid (fun i k' hi hk' => by
          by_cases e : i = m
          · subst e
            obtain rfl := Option.some.inj (hk'.symm.trans HKX.out)
            exact HQ.out
          · exact HN.out i k' (by omega) hk'), hkr⟩
        case measure => simp [intOf]; omega
      · have HQ := Lib.hid (show inK [2, 3] (K m).k = true by rw [h]; rfl)
        have d0 : ((K m).k != 2) = true := neq_of_f (beq_eq_false_iff_ne.2 (by omega))
        have d1 : ((K m).k != 3) = false := neq_of_t (beq_iff_eq.2 h)
        clear h
        go_wp2_with fail
        go_roundw
        case rel => exact ⟨m + 1, by omega, by go_num, Lib.hid (fun i k' hi hk' => by
          by_cases e : i = m
          · subst e
            obtain rfl := Option.some.inj (hk'.symm.trans HKX.out)
            exact HQ.out
          · exact HN.out i k' (by omega) hk'), hkr⟩
        case measure => simp [intOf]; omega
      · have hv := Lib.hid (allB_no (ks := ks) (p := inK [2, 3]) (i := m) HKX.out (by unfold inK; simp [h.1, h.2]))
        have d0 : ((K m).k != 2) = true := neq_of_f (beq_eq_false_iff_ne.2 h.1)
        have d1 : ((K m).k != 3) = true := neq_of_f (beq_eq_false_iff_ne.2 h.2)
        clear h
        go_wp2_with fail
        go_ret
        exact ⟨ret_boolA hv.out.symm, Kp.back hkr ((Kp.refl w).alloc _)⟩
    · obtain rfl : ll = m := by omega
      have hv := Lib.hid (allB_yes (ks := ks) (p := inK [2, 3]) (fun i k' hk' => HN.out i k' (by have := (List.getElem?_eq_some_iff.1 hk').1; have := HL.out.len; omega) hk'))
      go_wp2_with fail
      go_ret
      exact ⟨ret_boolA hv.out.symm, Kp.back hkr ((Kp.refl w).alloc _)⟩
set_option maxHeartbeats 6400000 in
set_option maxRecDepth 100000 in
theorem kids_42 (ks : List Int) (tx : ByteArray) (n at_ : Int) (la : Option Addr) (ll lc : Nat) (K : Nat → Hn) (w : World) (hL : ListAt w ks la ll lc K) :
    Calls Try.prog 39 #[.agg #[.int .i64 42, .string tx, .int .u64 n, .int .i64 at_, .slice la ll lc]] w fun e w' => e = .returned (.bool (allB ks (inK [43, 44, 45]) && decide (countD ks ≤ 1))) ∧ Kp w w' := by
  have HL := Lib.hid hL
  have hbl := hL.bl
  clear hL
  go_enter Try.func39, Try.ntmps39
  go_wp2_with fail
  go_loopw [7, 8] (fun c i wr => ∃ m : Nat, m ≤ ll ∧ i = .int .i64 m ∧ (c = .int .i64 ((countD (ks.take m) : Nat) : Int) ∧ countD (ks.take m) ≤ m) ∧ Hid (∀ (i : Nat) (k : Int), i < m → ks[i]? = some k → inK [43, 44, 45] k = true) ∧ Kp (w.alloc (.cells #[.int .i64 42, .string tx, .int .u64 n, .int .i64 at_, .slice la ll lc] 25)) wr) (fun _ i _ => ll - (intOf i).toNat)
  case atStart => exact ⟨0, by omega, rfl, ⟨by simp [countD], by simp [countD]⟩, Lib.hid (fun i _ hi => absurd hi (by omega)), Kp.refl _⟩
  case round =>
    obtain ⟨m, hm, rfl, ⟨rfl, hcm⟩, HN, hkr⟩ := hrel
    by_cases hlt : m < ll
    · have HCN := Lib.hid (countD_next (HL.out.at_ m hlt))
      obtain ⟨b, o, ha, hr⟩ := HL.out.tl.at (by omega)
      have HKX := Lib.hid (HL.out.at_ m hlt)
      have g0 := (node_at ((Kp.back hkr ((Kp.refl w).alloc _)).range (hr m hlt))).1
      have j1 : (0 : Int) ≤ m := by omega
      have j2 : (m : Int) < ll := by omega
      subst ha
      clear hr
      have hc : (K m).k = 45 ∨ (K m).k = 43 ∨ (K m).k = 44 ∨ (K m).k < 43 ∨ 45 < (K m).k := by omega
      rcases hc with h | h | h | h | h
      · have HQ := Lib.hid (show inK [43, 44, 45] (K m).k = true by rw [h]; rfl)
        have HC1 := Lib.hid (show countD (ks.take (m + 1)) = countD (ks.take m) + 1 by rw [HCN.out, if_pos h])
        have d0 : ((K m).k == 45) = true := beq_iff_eq.2 h
        have d1 : decide ((K m).k < 43) = false := decide_eq_false (by omega)
        have d2 : decide (45 < (K m).k) = false := decide_eq_false (by omega)
        clear h
        go_wp2_with fail
        go_roundw
        case rel => exact ⟨m + 1, by omega, by go_num, ⟨by rw [HC1.out] <;> first | rfl | (push_cast; rfl) | (congr 1), by rw [HC1.out]; omega⟩, Lib.hid (fun i k' hi hk' => by
          by_cases e : i = m
          · subst e
            obtain rfl := Option.some.inj (hk'.symm.trans HKX.out)
            exact HQ.out
          · exact HN.out i k' (by omega) hk'), hkr⟩
        case measure => simp [intOf]; omega
      · have HQ := Lib.hid (show inK [43, 44, 45] (K m).k = true by rw [h]; rfl)
        have HC1 := Lib.hid (show countD (ks.take (m + 1)) = countD (ks.take m) by rw [HCN.out, if_neg (by omega), Nat.add_zero])
        have d0 : ((K m).k == 45) = false := beq_eq_false_iff_ne.2 (by omega)
        have d1 : decide ((K m).k < 43) = false := decide_eq_false (by omega)
        have d2 : decide (45 < (K m).k) = false := decide_eq_false (by omega)
        clear h
        go_wp2_with fail
        go_roundw
        case rel => exact ⟨m + 1, by omega, by go_num, ⟨by rw [HC1.out] <;> first | rfl | (push_cast; rfl) | (congr 1), by rw [HC1.out]; omega⟩, Lib.hid (fun i k' hi hk' => by
          by_cases e : i = m
          · subst e
            obtain rfl := Option.some.inj (hk'.symm.trans HKX.out)
            exact HQ.out
          · exact HN.out i k' (by omega) hk'), hkr⟩
        case measure => simp [intOf]; omega
      · have HQ := Lib.hid (show inK [43, 44, 45] (K m).k = true by rw [h]; rfl)
        have HC1 := Lib.hid (show countD (ks.take (m + 1)) = countD (ks.take m) by rw [HCN.out, if_neg (by omega), Nat.add_zero])
        have d0 : ((K m).k == 45) = false := beq_eq_false_iff_ne.2 (by omega)
        have d1 : decide ((K m).k < 43) = false := decide_eq_false (by omega)
        have d2 : decide (45 < (K m).k) = false := decide_eq_false (by omega)
        clear h
        go_wp2_with fail
        go_roundw
        case rel => exact ⟨m + 1, by omega, by go_num, ⟨by rw [HC1.out] <;> first | rfl | (push_cast; rfl) | (congr 1), by rw [HC1.out]; omega⟩, Lib.hid (fun i k' hi hk' => by
          by_cases e : i = m
          · subst e
            obtain rfl := Option.some.inj (hk'.symm.trans HKX.out)
            exact HQ.out
          · exact HN.out i k' (by omega) hk'), hkr⟩
        case measure => simp [intOf]; omega
      all_goals
        have hv := Lib.hid (show (allB ks (inK [43, 44, 45]) && decide (countD ks ≤ 1)) = false by rw [allB_no (ks := ks) (p := inK [43, 44, 45]) (i := m) HKX.out (by unfold inK; simp; omega), Bool.false_and])
        have d0 : ((K m).k == 45) = false := beq_eq_false_iff_ne.2 (by omega)
        first | have d1 : decide ((K m).k < 43) = true := decide_eq_true (by omega) | have d1 : decide ((K m).k < 43) = false := decide_eq_false (by omega)
        first | have d2 : decide (45 < (K m).k) = true := decide_eq_true (by omega) | have d2 : decide (45 < (K m).k) = false := decide_eq_false (by omega)
        clear h
        go_wp2_with fail
        go_ret
        exact ⟨ret_boolA hv.out.symm, Kp.back hkr ((Kp.refl w).alloc _)⟩
    · obtain rfl : ll = m := by omega
      have ha := allB_yes (ks := ks) (p := inK [43, 44, 45]) (fun i k' hk' => HN.out i k' (by have := (List.getElem?_eq_some_iff.1 hk').1; have := HL.out.len; omega) hk')
      have ht : ks.take ll = ks := List.take_of_length_le (by rw [HL.out.len]; exact Nat.le_refl _)
      rw [ht] at hcm ⊢
      by_cases h1 : countD ks ≤ 1
      · have hv := Lib.hid (show (allB ks (inK [43, 44, 45]) && decide (countD ks ≤ 1)) = true by rw [ha, decide_eq_true h1]; rfl)
        have d0 : decide (((countD ks : Nat) : Int) ≤ 1) = true := decide_eq_true (by omega)
        clear h1 ha
        go_wp2_with fail
        go_ret
        exact ⟨ret_boolA hv.out.symm, Kp.back hkr ((Kp.refl w).alloc _)⟩
      · have hv := Lib.hid (show (allB ks (inK [43, 44, 45]) && decide (countD ks ≤ 1)) = false by rw [decide_eq_false h1, Bool.and_false])
        have d0 : decide (((countD ks : Nat) : Int) ≤ 1) = false := decide_eq_false (by omega)
        clear h1 ha
        go_wp2_with fail
        go_ret
        exact ⟨ret_boolA hv.out.symm, Kp.back hkr ((Kp.refl w).alloc _)⟩
set_option maxHeartbeats 6400000 in
set_option maxRecDepth 100000 in
theorem kids_other (ks : List Int) (tx : ByteArray) (n at_ : Int) (la : Option Addr) (ll lc : Nat) (K : Nat → Hn) (w : World)  (k : Int) (h1 : k ≠ 1) (h2 : k ≠ 2) (h6 : k ≠ 6) (h3 : k ≠ 3) (h4 : k ≠ 4) (h5 : k ≠ 5) (h11 : k ≠ 11) (h12 : k ≠ 12) (h22 : k ≠ 22) (h7 : k ≠ 7) (h8 : k ≠ 8) (h10 : k ≠ 10) (h27 : k ≠ 27) (h30 : k ≠ 30) (h31 : k ≠ 31) (h32 : k ≠ 32) (h13 : k ≠ 13) (h20 : k ≠ 20) (h21 : k ≠ 21) (h35 : k ≠ 35) (h39 : k ≠ 39) (h23 : k ≠ 23) (h24 : k ≠ 24) (h25 : k ≠ 25) (h26 : k ≠ 26) (h43 : k ≠ 43) (h28 : k ≠ 28) (h29 : k ≠ 29) (h33 : k ≠ 33) (h34 : k ≠ 34) (h36 : k ≠ 36) (h37 : k ≠ 37) (h38 : k ≠ 38) (h40 : k ≠ 40) (h41 : k ≠ 41) (h42 : k ≠ 42) (h44 : k ≠ 44) (h45 : k ≠ 45) (hL : ListAt w ks la ll lc K) :
    Calls Try.prog 39 #[.agg #[.int .i64 k, .string tx, .int .u64 n, .int .i64 at_, .slice la ll lc]] w fun e w' => e = .returned (.bool (false)) ∧ Kp w w' := by
  have HL := Lib.hid hL
  have hbl := hL.bl
  clear hL
  have f1 : (k == 1) = false := beq_eq_false_iff_ne.2 h1
  have f2 : (k == 2) = false := beq_eq_false_iff_ne.2 h2
  have f6 : (k == 6) = false := beq_eq_false_iff_ne.2 h6
  have f3 : (k == 3) = false := beq_eq_false_iff_ne.2 h3
  have f4 : (k == 4) = false := beq_eq_false_iff_ne.2 h4
  have f5 : (k == 5) = false := beq_eq_false_iff_ne.2 h5
  have f11 : (k == 11) = false := beq_eq_false_iff_ne.2 h11
  have f12 : (k == 12) = false := beq_eq_false_iff_ne.2 h12
  have f22 : (k == 22) = false := beq_eq_false_iff_ne.2 h22
  have f7 : (k == 7) = false := beq_eq_false_iff_ne.2 h7
  have f8 : (k == 8) = false := beq_eq_false_iff_ne.2 h8
  have f10 : (k == 10) = false := beq_eq_false_iff_ne.2 h10
  have f27 : (k == 27) = false := beq_eq_false_iff_ne.2 h27
  have f30 : (k == 30) = false := beq_eq_false_iff_ne.2 h30
  have f31 : (k == 31) = false := beq_eq_false_iff_ne.2 h31
  have f32 : (k == 32) = false := beq_eq_false_iff_ne.2 h32
  have f13 : (k == 13) = false := beq_eq_false_iff_ne.2 h13
  have f20 : (k == 20) = false := beq_eq_false_iff_ne.2 h20
  have f21 : (k == 21) = false := beq_eq_false_iff_ne.2 h21
  have f35 : (k == 35) = false := beq_eq_false_iff_ne.2 h35
  have f39 : (k == 39) = false := beq_eq_false_iff_ne.2 h39
  have f23 : (k == 23) = false := beq_eq_false_iff_ne.2 h23
  have f24 : (k == 24) = false := beq_eq_false_iff_ne.2 h24
  have f25 : (k == 25) = false := beq_eq_false_iff_ne.2 h25
  have f26 : (k == 26) = false := beq_eq_false_iff_ne.2 h26
  have f43 : (k == 43) = false := beq_eq_false_iff_ne.2 h43
  have f28 : (k == 28) = false := beq_eq_false_iff_ne.2 h28
  have f29 : (k == 29) = false := beq_eq_false_iff_ne.2 h29
  have f33 : (k == 33) = false := beq_eq_false_iff_ne.2 h33
  have f34 : (k == 34) = false := beq_eq_false_iff_ne.2 h34
  have f36 : (k == 36) = false := beq_eq_false_iff_ne.2 h36
  have f37 : (k == 37) = false := beq_eq_false_iff_ne.2 h37
  have f38 : (k == 38) = false := beq_eq_false_iff_ne.2 h38
  have f40 : (k == 40) = false := beq_eq_false_iff_ne.2 h40
  have f41 : (k == 41) = false := beq_eq_false_iff_ne.2 h41
  have f42 : (k == 42) = false := beq_eq_false_iff_ne.2 h42
  have f44 : (k == 44) = false := beq_eq_false_iff_ne.2 h44
  have f45 : (k == 45) = false := beq_eq_false_iff_ne.2 h45
  clear h1 h2 h6 h3 h4 h5 h11 h12 h22 h7 h8 h10 h27 h30 h31 h32 h13 h20 h21 h35 h39 h23 h24 h25 h26 h43 h28 h29 h33 h34 h36 h37 h38 h40 h41 h42 h44 h45
  go_enter Try.func39, Try.ntmps39
  go_wp2_with (first | fail)
  go_ret
  refine ⟨by first | rfl | (simp; done), ?_⟩
  (repeat (first | with_reducible exact Kp.refl _ | with_reducible refine Kp.alloc ?_ _ | with_reducible refine Kp.drew ?_ | with_reducible refine Kp.back (by assumption) ?_))
end Go.Proofs.Ytefanekfelokmaa
