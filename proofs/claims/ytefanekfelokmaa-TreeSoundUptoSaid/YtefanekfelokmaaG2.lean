/- Lists by letters in the reference. Condition: the list lies in memory. -/
import Derived.Test.YtefanekfelokmaaG1
import Derived.Deep.RegionHeld3
namespace Go.Proofs.Ytefanekfelokmaa
open Go.RowKit
set_option linter.unusedVariables false
set_option linter.unusedSimpArgs false
theorem sort_t (k : Int) : (sortL k == 116) = tyK k := by
  unfold sortL tyK
  by_cases h : 10 ≤ k ∧ k ≤ 13
  · rw [if_neg (by omega), if_neg (by omega), if_pos h, decide_eq_true h]; rfl
  · rw [decide_eq_false h]
    by_cases h1 : (20 ≤ k ∧ k ≤ 29) ∨ k = 41 ∨ k = 42
    · rw [if_pos h1]; rfl
    · by_cases h2 : 30 ≤ k ∧ k ≤ 40
      · rw [if_neg h1, if_pos h2]; rfl
      · rw [if_neg h1, if_neg h2, if_neg h]; rfl
theorem sort_e (k : Int) : (sortL k == 101) = exK k := by
  unfold sortL exK
  by_cases h : 30 ≤ k ∧ k ≤ 40
  · rw [if_neg (by omega), if_pos h, decide_eq_true h]; rfl
  · rw [decide_eq_false h]
    by_cases h1 : (20 ≤ k ∧ k ≤ 29) ∨ k = 41 ∨ k = 42
    · rw [if_pos h1]; rfl
    · by_cases h2 : 10 ≤ k ∧ k ≤ 13
      · rw [if_neg h1, if_neg h, if_pos h2]; rfl
      · rw [if_neg h1, if_neg h, if_neg h2]; rfl
theorem sort_s (k : Int) : (sortL k == 115) = stK k := by
  unfold sortL stK
  by_cases h : (20 ≤ k ∧ k ≤ 29) ∨ k = 41 ∨ k = 42
  · rw [if_pos h, decide_eq_true h]; rfl
  · rw [decide_eq_false h]
    by_cases h1 : 30 ≤ k ∧ k ≤ 40
    · rw [if_neg h, if_pos h1]; rfl
    · by_cases h2 : 10 ≤ k ∧ k ≤ 13
      · rw [if_neg h, if_neg h1, if_pos h2]; rfl
      · rw [if_neg h, if_neg h1, if_neg h2]; rfl
theorem in_one (k a : Int) : inK [a] k = (k == a) := by unfold inK; simp; rfl
set_option maxHeartbeats 6400000 in
set_option maxRecDepth 100000 in
theorem list_gpqb (w : World) (ks : List Int) (la : Option Addr) (ll lc : Nat) (K : Nat → Hn) (hL : ListAt w ks la ll lc K) :
    Calls Try.prog 48 #[.slice la ll lc, .string ⟨#[103, 112, 113, 98]⟩] w fun e w' => e = .returned (.bool (areB ks [(inK [4]), (inK [6]), (inK [7]), (inK [20])])) ∧ Kp w w' := by
  have HL := Lib.hid hL
  have hbl := hL.bl
  clear hL
  by_cases hll : ll = 4
  · subst hll
    go_enter Try.func48, Try.ntmps48
    go_wp2_with fail
    go_loopw [5] (fun i wr => ∃ n : Nat, n ≤ 4 ∧ i = .int .i64 n ∧ Hid (∀ (i : Nat) (k : Int) (p : Int → Bool), i < n → ks[i]? = some k → ([(inK [4]), (inK [6]), (inK [7]), (inK [20])] : List (Int → Bool))[i]? = some p → p k = true) ∧ Kp w wr) (fun i _ => 4 - (intOf i).toNat)
    case atStart => exact ⟨0, by omega, rfl, Lib.hid (fun i _ _ hi => absurd hi (by omega)), Kp.refl _⟩
    case round =>
      obtain ⟨n, hn, rfl, HN, hkr⟩ := hrel
      have HKR := Lib.hid hkr
      have hcase : n = 0 ∨ n = 1 ∨ n = 2 ∨ n = 3 ∨ n = 4 := by omega
      rcases hcase with rfl | rfl | rfl | rfl | rfl
      · obtain ⟨b, o, ha, hr⟩ := HL.out.tl.at (by omega)
        have HA := Lib.hid ha
        have HKX := Lib.hid (HL.out.at_ 0 (by omega))
        have g0 := (node_at (hkr.range (hr 0 (by omega)))).1
        have g1 : wr.cell? ⟨b, o, none⟩ = some (.int .i64 (K 0).k) := g0
        have hlt : 0 < 4 := by omega
        clear ha hr
        have hb : ∀ h, ((((⟨#[103, 112, 113, 98]⟩ : ByteArray)[0]'h).toNat : Nat) : Int) = 103 := fun _ => rfl
        cases hq : (inK [4]) (K 0).k with
        | false =>
          have hv := Lib.hid (areB_no (ks := ks) (ps := [(inK [4]), (inK [6]), (inK [7]), (inK [20])]) (i := 0) HKX.out rfl hq)
          have e1 : ((K 0).k == 4) = false := (by rw [← in_one]; exact hq)
          clear hq
          go_wp2_with (first | ((with_reducible show wpList _ _ _ (⟨some 21, _, _, _, _, _⟩ :: _) _ _); refine wpList_index_tab (d := 21) _ _ _ rfl 25 Try.underlying23 5 rfl _ _ _ _ o (by rfl) HA.out 0 (by rfl) hlt ?_))
          go_region_held3 (fun _ : World => True) (first | trivial) ((first | (go_at_call 29; (with_reducible refine (c_sort (K 0).k _).mono ?_); rintro e w' ⟨rfl, rfl⟩)))
          all_goals (go_wp2_with fail; go_ret; exact ⟨ret_boolA hv.out.symm, HKR.out.drew⟩)
        | true =>
          have HQ := Lib.hid hq
          have e1 : ((K 0).k == 4) = true := (by rw [← in_one]; exact hq)
          clear hq
          go_wp2_with (first | ((with_reducible show wpList _ _ _ (⟨some 21, _, _, _, _, _⟩ :: _) _ _); refine wpList_index_tab (d := 21) _ _ _ rfl 25 Try.underlying23 5 rfl _ _ _ _ o (by rfl) HA.out 0 (by rfl) hlt ?_))
          go_region_held3 (fun _ : World => True) (first | trivial) ((first | (go_at_call 29; (with_reducible refine (c_sort (K 0).k _).mono ?_); rintro e w' ⟨rfl, rfl⟩)))
          all_goals
            go_wp2_with fail
            go_roundw
            case rel => exact ⟨1, by omega, by go_num, Lib.hid (fun i k' p' hi hk' hp' => by
              by_cases e : i = 0
              · subst e
                obtain rfl := Option.some.inj (hk'.symm.trans HKX.out)
                obtain rfl : p' = (inK [4]) := (Option.some.inj hp').symm
                exact HQ.out
              · exact HN.out i k' p' (by omega) hk' hp'), HKR.out.drew⟩
            case measure => simp [intOf]
      · obtain ⟨b, o, ha, hr⟩ := HL.out.tl.at (by omega)
        have HA := Lib.hid ha
        have HKX := Lib.hid (HL.out.at_ 1 (by omega))
        have g0 := (node_at (hkr.range (hr 1 (by omega)))).1
        have g1 : wr.cell? ⟨b, o + 5, none⟩ = some (.int .i64 (K 1).k) := g0
        have hlt : 1 < 4 := by omega
        clear ha hr
        have hb : ∀ h, ((((⟨#[103, 112, 113, 98]⟩ : ByteArray)[1]'h).toNat : Nat) : Int) = 112 := fun _ => rfl
        cases hq : (inK [6]) (K 1).k with
        | false =>
          have hv := Lib.hid (areB_no (ks := ks) (ps := [(inK [4]), (inK [6]), (inK [7]), (inK [20])]) (i := 1) HKX.out rfl hq)
          have e1 : ((K 1).k == 6) = false := (by rw [← in_one]; exact hq)
          clear hq
          go_wp2_with (first | ((with_reducible show wpList _ _ _ (⟨some 21, _, _, _, _, _⟩ :: _) _ _); refine wpList_index_tab (d := 21) _ _ _ rfl 25 Try.underlying23 5 rfl _ _ _ _ o (by rfl) HA.out 1 (by rfl) hlt ?_))
          go_region_held3 (fun _ : World => True) (first | trivial) ((first | (go_at_call 29; (with_reducible refine (c_sort (K 1).k _).mono ?_); rintro e w' ⟨rfl, rfl⟩)))
          all_goals (go_wp2_with fail; go_ret; exact ⟨ret_boolA hv.out.symm, HKR.out.drew⟩)
        | true =>
          have HQ := Lib.hid hq
          have e1 : ((K 1).k == 6) = true := (by rw [← in_one]; exact hq)
          clear hq
          go_wp2_with (first | ((with_reducible show wpList _ _ _ (⟨some 21, _, _, _, _, _⟩ :: _) _ _); refine wpList_index_tab (d := 21) _ _ _ rfl 25 Try.underlying23 5 rfl _ _ _ _ o (by rfl) HA.out 1 (by rfl) hlt ?_))
          go_region_held3 (fun _ : World => True) (first | trivial) ((first | (go_at_call 29; (with_reducible refine (c_sort (K 1).k _).mono ?_); rintro e w' ⟨rfl, rfl⟩)))
          all_goals
            go_wp2_with fail
            go_roundw
            case rel => exact ⟨2, by omega, by go_num, Lib.hid (fun i k' p' hi hk' hp' => by
              by_cases e : i = 1
              · subst e
                obtain rfl := Option.some.inj (hk'.symm.trans HKX.out)
                obtain rfl : p' = (inK [6]) := (Option.some.inj hp').symm
                exact HQ.out
              · exact HN.out i k' p' (by omega) hk' hp'), HKR.out.drew⟩
            case measure => simp [intOf]
      · obtain ⟨b, o, ha, hr⟩ := HL.out.tl.at (by omega)
        have HA := Lib.hid ha
        have HKX := Lib.hid (HL.out.at_ 2 (by omega))
        have g0 := (node_at (hkr.range (hr 2 (by omega)))).1
        have g1 : wr.cell? ⟨b, o + 10, none⟩ = some (.int .i64 (K 2).k) := g0
        have hlt : 2 < 4 := by omega
        clear ha hr
        have hb : ∀ h, ((((⟨#[103, 112, 113, 98]⟩ : ByteArray)[2]'h).toNat : Nat) : Int) = 113 := fun _ => rfl
        cases hq : (inK [7]) (K 2).k with
        | false =>
          have hv := Lib.hid (areB_no (ks := ks) (ps := [(inK [4]), (inK [6]), (inK [7]), (inK [20])]) (i := 2) HKX.out rfl hq)
          have e1 : ((K 2).k == 7) = false := (by rw [← in_one]; exact hq)
          clear hq
          go_wp2_with (first | ((with_reducible show wpList _ _ _ (⟨some 21, _, _, _, _, _⟩ :: _) _ _); refine wpList_index_tab (d := 21) _ _ _ rfl 25 Try.underlying23 5 rfl _ _ _ _ o (by rfl) HA.out 2 (by rfl) hlt ?_))
          go_region_held3 (fun _ : World => True) (first | trivial) ((first | (go_at_call 29; (with_reducible refine (c_sort (K 2).k _).mono ?_); rintro e w' ⟨rfl, rfl⟩)))
          all_goals (go_wp2_with fail; go_ret; exact ⟨ret_boolA hv.out.symm, HKR.out.drew⟩)
        | true =>
          have HQ := Lib.hid hq
          have e1 : ((K 2).k == 7) = true := (by rw [← in_one]; exact hq)
          clear hq
          go_wp2_with (first | ((with_reducible show wpList _ _ _ (⟨some 21, _, _, _, _, _⟩ :: _) _ _); refine wpList_index_tab (d := 21) _ _ _ rfl 25 Try.underlying23 5 rfl _ _ _ _ o (by rfl) HA.out 2 (by rfl) hlt ?_))
          go_region_held3 (fun _ : World => True) (first | trivial) ((first | (go_at_call 29; (with_reducible refine (c_sort (K 2).k _).mono ?_); rintro e w' ⟨rfl, rfl⟩)))
          all_goals
            go_wp2_with fail
            go_roundw
            case rel => exact ⟨3, by omega, by go_num, Lib.hid (fun i k' p' hi hk' hp' => by
              by_cases e : i = 2
              · subst e
                obtain rfl := Option.some.inj (hk'.symm.trans HKX.out)
                obtain rfl : p' = (inK [7]) := (Option.some.inj hp').symm
                exact HQ.out
              · exact HN.out i k' p' (by omega) hk' hp'), HKR.out.drew⟩
            case measure => simp [intOf]
      · obtain ⟨b, o, ha, hr⟩ := HL.out.tl.at (by omega)
        have HA := Lib.hid ha
        have HKX := Lib.hid (HL.out.at_ 3 (by omega))
        have g0 := (node_at (hkr.range (hr 3 (by omega)))).1
        have g1 : wr.cell? ⟨b, o + 15, none⟩ = some (.int .i64 (K 3).k) := g0
        have hlt : 3 < 4 := by omega
        clear ha hr
        have hb : ∀ h, ((((⟨#[103, 112, 113, 98]⟩ : ByteArray)[3]'h).toNat : Nat) : Int) = 98 := fun _ => rfl
        cases hq : (inK [20]) (K 3).k with
        | false =>
          have hv := Lib.hid (areB_no (ks := ks) (ps := [(inK [4]), (inK [6]), (inK [7]), (inK [20])]) (i := 3) HKX.out rfl hq)
          have e1 : ((K 3).k == 20) = false := (by rw [← in_one]; exact hq)
          clear hq
          go_wp2_with (first | ((with_reducible show wpList _ _ _ (⟨some 21, _, _, _, _, _⟩ :: _) _ _); refine wpList_index_tab (d := 21) _ _ _ rfl 25 Try.underlying23 5 rfl _ _ _ _ o (by rfl) HA.out 3 (by rfl) hlt ?_))
          go_region_held3 (fun _ : World => True) (first | trivial) ((first | (go_at_call 29; (with_reducible refine (c_sort (K 3).k _).mono ?_); rintro e w' ⟨rfl, rfl⟩)))
          all_goals (go_wp2_with fail; go_ret; exact ⟨ret_boolA hv.out.symm, HKR.out.drew⟩)
        | true =>
          have HQ := Lib.hid hq
          have e1 : ((K 3).k == 20) = true := (by rw [← in_one]; exact hq)
          clear hq
          go_wp2_with (first | ((with_reducible show wpList _ _ _ (⟨some 21, _, _, _, _, _⟩ :: _) _ _); refine wpList_index_tab (d := 21) _ _ _ rfl 25 Try.underlying23 5 rfl _ _ _ _ o (by rfl) HA.out 3 (by rfl) hlt ?_))
          go_region_held3 (fun _ : World => True) (first | trivial) ((first | (go_at_call 29; (with_reducible refine (c_sort (K 3).k _).mono ?_); rintro e w' ⟨rfl, rfl⟩)))
          all_goals
            go_wp2_with fail
            go_roundw
            case rel => exact ⟨4, by omega, by go_num, Lib.hid (fun i k' p' hi hk' hp' => by
              by_cases e : i = 3
              · subst e
                obtain rfl := Option.some.inj (hk'.symm.trans HKX.out)
                obtain rfl : p' = (inK [20]) := (Option.some.inj hp').symm
                exact HQ.out
              · exact HN.out i k' p' (by omega) hk' hp'), HKR.out.drew⟩
            case measure => simp [intOf]
      · have hv := Lib.hid (areB_yes (ks := ks) (ps := [(inK [4]), (inK [6]), (inK [7]), (inK [20])]) (by rw [HL.out.len]; rfl) (fun i k' p' hk' hp' => HN.out i k' p' (by have := (List.getElem?_eq_some_iff.1 hk').1; have := HL.out.len; omega) hk' hp'))
        go_wp2_with fail
        go_ret
        exact ⟨ret_boolA hv.out.symm, hkr⟩
  · rw [areB_len (by rw [HL.out.len]; exact hll)]
    have q1 : ((ll : Int) != 4) = true := bne_iff_ne.2 (by omega)
    have q2 : ((ll : Int) == 4) = false := beq_eq_false_iff_ne.2 (by omega)
    go_enter Try.func48, Try.ntmps48
    go_wp2_with fail
    go_ret
    exact ⟨rfl, Kp.refl w⟩
set_option maxHeartbeats 6400000 in
set_option maxRecDepth 100000 in
theorem list_t (w : World) (ks : List Int) (la : Option Addr) (ll lc : Nat) (K : Nat → Hn) (hL : ListAt w ks la ll lc K) :
    Calls Try.prog 48 #[.slice la ll lc, .string ⟨#[116]⟩] w fun e w' => e = .returned (.bool (areB ks [tyK])) ∧ Kp w w' := by
  have HL := Lib.hid hL
  have hbl := hL.bl
  clear hL
  by_cases hll : ll = 1
  · subst hll
    go_enter Try.func48, Try.ntmps48
    go_wp2_with fail
    go_loopw [5] (fun i wr => ∃ n : Nat, n ≤ 1 ∧ i = .int .i64 n ∧ Hid (∀ (i : Nat) (k : Int) (p : Int → Bool), i < n → ks[i]? = some k → ([tyK] : List (Int → Bool))[i]? = some p → p k = true) ∧ Kp w wr) (fun i _ => 1 - (intOf i).toNat)
    case atStart => exact ⟨0, by omega, rfl, Lib.hid (fun i _ _ hi => absurd hi (by omega)), Kp.refl _⟩
    case round =>
      obtain ⟨n, hn, rfl, HN, hkr⟩ := hrel
      have HKR := Lib.hid hkr
      have hcase : n = 0 ∨ n = 1 := by omega
      rcases hcase with rfl | rfl
      · obtain ⟨b, o, ha, hr⟩ := HL.out.tl.at (by omega)
        have HA := Lib.hid ha
        have HKX := Lib.hid (HL.out.at_ 0 (by omega))
        have g0 := (node_at (hkr.range (hr 0 (by omega)))).1
        have g1 : wr.cell? ⟨b, o, none⟩ = some (.int .i64 (K 0).k) := g0
        have hlt : 0 < 1 := by omega
        clear ha hr
        have hb : ∀ h, ((((⟨#[116]⟩ : ByteArray)[0]'h).toNat : Nat) : Int) = 116 := fun _ => rfl
        cases hq : tyK (K 0).k with
        | false =>
          have hv := Lib.hid (areB_no (ks := ks) (ps := [tyK]) (i := 0) HKX.out rfl hq)
          have e1 : (sortL (K 0).k == 116) = false := (by rw [sort_t]; exact hq)
          clear hq
          go_wp2_with (first | ((with_reducible show wpList _ _ _ (⟨some 21, _, _, _, _, _⟩ :: _) _ _); refine wpList_index_tab (d := 21) _ _ _ rfl 25 Try.underlying23 5 rfl _ _ _ _ o (by rfl) HA.out 0 (by rfl) hlt ?_))
          go_region_held3 (fun _ : World => True) (first | trivial) ((first | (go_at_call 29; (with_reducible refine (c_sort (K 0).k _).mono ?_); rintro e w' ⟨rfl, rfl⟩)))
          all_goals (go_wp2_with fail; go_ret; exact ⟨ret_boolA hv.out.symm, HKR.out.drew⟩)
        | true =>
          have HQ := Lib.hid hq
          have e1 : (sortL (K 0).k == 116) = true := (by rw [sort_t]; exact hq)
          clear hq
          go_wp2_with (first | ((with_reducible show wpList _ _ _ (⟨some 21, _, _, _, _, _⟩ :: _) _ _); refine wpList_index_tab (d := 21) _ _ _ rfl 25 Try.underlying23 5 rfl _ _ _ _ o (by rfl) HA.out 0 (by rfl) hlt ?_))
          go_region_held3 (fun _ : World => True) (first | trivial) ((first | (go_at_call 29; (with_reducible refine (c_sort (K 0).k _).mono ?_); rintro e w' ⟨rfl, rfl⟩)))
          all_goals
            go_wp2_with fail
            go_roundw
            case rel => exact ⟨1, by omega, by go_num, Lib.hid (fun i k' p' hi hk' hp' => by
              by_cases e : i = 0
              · subst e
                obtain rfl := Option.some.inj (hk'.symm.trans HKX.out)
                obtain rfl : p' = tyK := (Option.some.inj hp').symm
                exact HQ.out
              · exact HN.out i k' p' (by omega) hk' hp'), HKR.out.drew⟩
            case measure => simp [intOf]
      · have hv := Lib.hid (areB_yes (ks := ks) (ps := [tyK]) (by rw [HL.out.len]; rfl) (fun i k' p' hk' hp' => HN.out i k' p' (by have := (List.getElem?_eq_some_iff.1 hk').1; have := HL.out.len; omega) hk' hp'))
        go_wp2_with fail
        go_ret
        exact ⟨ret_boolA hv.out.symm, hkr⟩
  · rw [areB_len (by rw [HL.out.len]; exact hll)]
    have q1 : ((ll : Int) != 1) = true := bne_iff_ne.2 (by omega)
    have q2 : ((ll : Int) == 1) = false := beq_eq_false_iff_ne.2 (by omega)
    go_enter Try.func48, Try.ntmps48
    go_wp2_with fail
    go_ret
    exact ⟨rfl, Kp.refl w⟩
set_option maxHeartbeats 6400000 in
set_option maxRecDepth 100000 in
theorem list_e (w : World) (ks : List Int) (la : Option Addr) (ll lc : Nat) (K : Nat → Hn) (hL : ListAt w ks la ll lc K) :
    Calls Try.prog 48 #[.slice la ll lc, .string ⟨#[101]⟩] w fun e w' => e = .returned (.bool (areB ks [exK])) ∧ Kp w w' := by
  have HL := Lib.hid hL
  have hbl := hL.bl
  clear hL
  by_cases hll : ll = 1
  · subst hll
    go_enter Try.func48, Try.ntmps48
    go_wp2_with fail
    go_loopw [5] (fun i wr => ∃ n : Nat, n ≤ 1 ∧ i = .int .i64 n ∧ Hid (∀ (i : Nat) (k : Int) (p : Int → Bool), i < n → ks[i]? = some k → ([exK] : List (Int → Bool))[i]? = some p → p k = true) ∧ Kp w wr) (fun i _ => 1 - (intOf i).toNat)
    case atStart => exact ⟨0, by omega, rfl, Lib.hid (fun i _ _ hi => absurd hi (by omega)), Kp.refl _⟩
    case round =>
      obtain ⟨n, hn, rfl, HN, hkr⟩ := hrel
      have HKR := Lib.hid hkr
      have hcase : n = 0 ∨ n = 1 := by omega
      rcases hcase with rfl | rfl
      · obtain ⟨b, o, ha, hr⟩ := HL.out.tl.at (by omega)
        have HA := Lib.hid ha
        have HKX := Lib.hid (HL.out.at_ 0 (by omega))
        have g0 := (node_at (hkr.range (hr 0 (by omega)))).1
        have g1 : wr.cell? ⟨b, o, none⟩ = some (.int .i64 (K 0).k) := g0
        have hlt : 0 < 1 := by omega
        clear ha hr
        have hb : ∀ h, ((((⟨#[101]⟩ : ByteArray)[0]'h).toNat : Nat) : Int) = 101 := fun _ => rfl
        cases hq : exK (K 0).k with
        | false =>
          have hv := Lib.hid (areB_no (ks := ks) (ps := [exK]) (i := 0) HKX.out rfl hq)
          have e1 : (sortL (K 0).k == 101) = false := (by rw [sort_e]; exact hq)
          clear hq
          go_wp2_with (first | ((with_reducible show wpList _ _ _ (⟨some 21, _, _, _, _, _⟩ :: _) _ _); refine wpList_index_tab (d := 21) _ _ _ rfl 25 Try.underlying23 5 rfl _ _ _ _ o (by rfl) HA.out 0 (by rfl) hlt ?_))
          go_region_held3 (fun _ : World => True) (first | trivial) ((first | (go_at_call 29; (with_reducible refine (c_sort (K 0).k _).mono ?_); rintro e w' ⟨rfl, rfl⟩)))
          all_goals (go_wp2_with fail; go_ret; exact ⟨ret_boolA hv.out.symm, HKR.out.drew⟩)
        | true =>
          have HQ := Lib.hid hq
          have e1 : (sortL (K 0).k == 101) = true := (by rw [sort_e]; exact hq)
          clear hq
          go_wp2_with (first | ((with_reducible show wpList _ _ _ (⟨some 21, _, _, _, _, _⟩ :: _) _ _); refine wpList_index_tab (d := 21) _ _ _ rfl 25 Try.underlying23 5 rfl _ _ _ _ o (by rfl) HA.out 0 (by rfl) hlt ?_))
          go_region_held3 (fun _ : World => True) (first | trivial) ((first | (go_at_call 29; (with_reducible refine (c_sort (K 0).k _).mono ?_); rintro e w' ⟨rfl, rfl⟩)))
          all_goals
            go_wp2_with fail
            go_roundw
            case rel => exact ⟨1, by omega, by go_num, Lib.hid (fun i k' p' hi hk' hp' => by
              by_cases e : i = 0
              · subst e
                obtain rfl := Option.some.inj (hk'.symm.trans HKX.out)
                obtain rfl : p' = exK := (Option.some.inj hp').symm
                exact HQ.out
              · exact HN.out i k' p' (by omega) hk' hp'), HKR.out.drew⟩
            case measure => simp [intOf]
      · have hv := Lib.hid (areB_yes (ks := ks) (ps := [exK]) (by rw [HL.out.len]; rfl) (fun i k' p' hk' hp' => HN.out i k' p' (by have := (List.getElem?_eq_some_iff.1 hk').1; have := HL.out.len; omega) hk' hp'))
        go_wp2_with fail
        go_ret
        exact ⟨ret_boolA hv.out.symm, hkr⟩
  · rw [areB_len (by rw [HL.out.len]; exact hll)]
    have q1 : ((ll : Int) != 1) = true := bne_iff_ne.2 (by omega)
    have q2 : ((ll : Int) == 1) = false := beq_eq_false_iff_ne.2 (by omega)
    go_enter Try.func48, Try.ntmps48
    go_wp2_with fail
    go_ret
    exact ⟨rfl, Kp.refl w⟩
set_option maxHeartbeats 6400000 in
set_option maxRecDepth 100000 in
theorem list_ee (w : World) (ks : List Int) (la : Option Addr) (ll lc : Nat) (K : Nat → Hn) (hL : ListAt w ks la ll lc K) :
    Calls Try.prog 48 #[.slice la ll lc, .string ⟨#[101, 101]⟩] w fun e w' => e = .returned (.bool (areB ks [exK, exK])) ∧ Kp w w' := by
  have HL := Lib.hid hL
  have hbl := hL.bl
  clear hL
  by_cases hll : ll = 2
  · subst hll
    go_enter Try.func48, Try.ntmps48
    go_wp2_with fail
    go_loopw [5] (fun i wr => ∃ n : Nat, n ≤ 2 ∧ i = .int .i64 n ∧ Hid (∀ (i : Nat) (k : Int) (p : Int → Bool), i < n → ks[i]? = some k → ([exK, exK] : List (Int → Bool))[i]? = some p → p k = true) ∧ Kp w wr) (fun i _ => 2 - (intOf i).toNat)
    case atStart => exact ⟨0, by omega, rfl, Lib.hid (fun i _ _ hi => absurd hi (by omega)), Kp.refl _⟩
    case round =>
      obtain ⟨n, hn, rfl, HN, hkr⟩ := hrel
      have HKR := Lib.hid hkr
      have hcase : n = 0 ∨ n = 1 ∨ n = 2 := by omega
      rcases hcase with rfl | rfl | rfl
      · obtain ⟨b, o, ha, hr⟩ := HL.out.tl.at (by omega)
        have HA := Lib.hid ha
        have HKX := Lib.hid (HL.out.at_ 0 (by omega))
        have g0 := (node_at (hkr.range (hr 0 (by omega)))).1
        have g1 : wr.cell? ⟨b, o, none⟩ = some (.int .i64 (K 0).k) := g0
        have hlt : 0 < 2 := by omega
        clear ha hr
        have hb : ∀ h, ((((⟨#[101, 101]⟩ : ByteArray)[0]'h).toNat : Nat) : Int) = 101 := fun _ => rfl
        cases hq : exK (K 0).k with
        | false =>
          have hv := Lib.hid (areB_no (ks := ks) (ps := [exK, exK]) (i := 0) HKX.out rfl hq)
          have e1 : (sortL (K 0).k == 101) = false := (by rw [sort_e]; exact hq)
          clear hq
          go_wp2_with (first | ((with_reducible show wpList _ _ _ (⟨some 21, _, _, _, _, _⟩ :: _) _ _); refine wpList_index_tab (d := 21) _ _ _ rfl 25 Try.underlying23 5 rfl _ _ _ _ o (by rfl) HA.out 0 (by rfl) hlt ?_))
          go_region_held3 (fun _ : World => True) (first | trivial) ((first | (go_at_call 29; (with_reducible refine (c_sort (K 0).k _).mono ?_); rintro e w' ⟨rfl, rfl⟩)))
          all_goals (go_wp2_with fail; go_ret; exact ⟨ret_boolA hv.out.symm, HKR.out.drew⟩)
        | true =>
          have HQ := Lib.hid hq
          have e1 : (sortL (K 0).k == 101) = true := (by rw [sort_e]; exact hq)
          clear hq
          go_wp2_with (first | ((with_reducible show wpList _ _ _ (⟨some 21, _, _, _, _, _⟩ :: _) _ _); refine wpList_index_tab (d := 21) _ _ _ rfl 25 Try.underlying23 5 rfl _ _ _ _ o (by rfl) HA.out 0 (by rfl) hlt ?_))
          go_region_held3 (fun _ : World => True) (first | trivial) ((first | (go_at_call 29; (with_reducible refine (c_sort (K 0).k _).mono ?_); rintro e w' ⟨rfl, rfl⟩)))
          all_goals
            go_wp2_with fail
            go_roundw
            case rel => exact ⟨1, by omega, by go_num, Lib.hid (fun i k' p' hi hk' hp' => by
              by_cases e : i = 0
              · subst e
                obtain rfl := Option.some.inj (hk'.symm.trans HKX.out)
                obtain rfl : p' = exK := (Option.some.inj hp').symm
                exact HQ.out
              · exact HN.out i k' p' (by omega) hk' hp'), HKR.out.drew⟩
            case measure => simp [intOf]
      · obtain ⟨b, o, ha, hr⟩ := HL.out.tl.at (by omega)
        have HA := Lib.hid ha
        have HKX := Lib.hid (HL.out.at_ 1 (by omega))
        have g0 := (node_at (hkr.range (hr 1 (by omega)))).1
        have g1 : wr.cell? ⟨b, o + 5, none⟩ = some (.int .i64 (K 1).k) := g0
        have hlt : 1 < 2 := by omega
        clear ha hr
        have hb : ∀ h, ((((⟨#[101, 101]⟩ : ByteArray)[1]'h).toNat : Nat) : Int) = 101 := fun _ => rfl
        cases hq : exK (K 1).k with
        | false =>
          have hv := Lib.hid (areB_no (ks := ks) (ps := [exK, exK]) (i := 1) HKX.out rfl hq)
          have e1 : (sortL (K 1).k == 101) = false := (by rw [sort_e]; exact hq)
          clear hq
          go_wp2_with (first | ((with_reducible show wpList _ _ _ (⟨some 21, _, _, _, _, _⟩ :: _) _ _); refine wpList_index_tab (d := 21) _ _ _ rfl 25 Try.underlying23 5 rfl _ _ _ _ o (by rfl) HA.out 1 (by rfl) hlt ?_))
          go_region_held3 (fun _ : World => True) (first | trivial) ((first | (go_at_call 29; (with_reducible refine (c_sort (K 1).k _).mono ?_); rintro e w' ⟨rfl, rfl⟩)))
          all_goals (go_wp2_with fail; go_ret; exact ⟨ret_boolA hv.out.symm, HKR.out.drew⟩)
        | true =>
          have HQ := Lib.hid hq
          have e1 : (sortL (K 1).k == 101) = true := (by rw [sort_e]; exact hq)
          clear hq
          go_wp2_with (first | ((with_reducible show wpList _ _ _ (⟨some 21, _, _, _, _, _⟩ :: _) _ _); refine wpList_index_tab (d := 21) _ _ _ rfl 25 Try.underlying23 5 rfl _ _ _ _ o (by rfl) HA.out 1 (by rfl) hlt ?_))
          go_region_held3 (fun _ : World => True) (first | trivial) ((first | (go_at_call 29; (with_reducible refine (c_sort (K 1).k _).mono ?_); rintro e w' ⟨rfl, rfl⟩)))
          all_goals
            go_wp2_with fail
            go_roundw
            case rel => exact ⟨2, by omega, by go_num, Lib.hid (fun i k' p' hi hk' hp' => by
              by_cases e : i = 1
              · subst e
                obtain rfl := Option.some.inj (hk'.symm.trans HKX.out)
                obtain rfl : p' = exK := (Option.some.inj hp').symm
                exact HQ.out
              · exact HN.out i k' p' (by omega) hk' hp'), HKR.out.drew⟩
            case measure => simp [intOf]
      · have hv := Lib.hid (areB_yes (ks := ks) (ps := [exK, exK]) (by rw [HL.out.len]; rfl) (fun i k' p' hk' hp' => HN.out i k' p' (by have := (List.getElem?_eq_some_iff.1 hk').1; have := HL.out.len; omega) hk' hp'))
        go_wp2_with fail
        go_ret
        exact ⟨ret_boolA hv.out.symm, hkr⟩
  · rw [areB_len (by rw [HL.out.len]; exact hll)]
    have q1 : ((ll : Int) != 2) = true := bne_iff_ne.2 (by omega)
    have q2 : ((ll : Int) == 2) = false := beq_eq_false_iff_ne.2 (by omega)
    go_enter Try.func48, Try.ntmps48
    go_wp2_with fail
    go_ret
    exact ⟨rfl, Kp.refl w⟩
set_option maxHeartbeats 6400000 in
set_option maxRecDepth 100000 in
theorem list_c (w : World) (ks : List Int) (la : Option Addr) (ll lc : Nat) (K : Nat → Hn) (hL : ListAt w ks la ll lc K) :
    Calls Try.prog 48 #[.slice la ll lc, .string ⟨#[99]⟩] w fun e w' => e = .returned (.bool (areB ks [(inK [34])])) ∧ Kp w w' := by
  have HL := Lib.hid hL
  have hbl := hL.bl
  clear hL
  by_cases hll : ll = 1
  · subst hll
    go_enter Try.func48, Try.ntmps48
    go_wp2_with fail
    go_loopw [5] (fun i wr => ∃ n : Nat, n ≤ 1 ∧ i = .int .i64 n ∧ Hid (∀ (i : Nat) (k : Int) (p : Int → Bool), i < n → ks[i]? = some k → ([(inK [34])] : List (Int → Bool))[i]? = some p → p k = true) ∧ Kp w wr) (fun i _ => 1 - (intOf i).toNat)
    case atStart => exact ⟨0, by omega, rfl, Lib.hid (fun i _ _ hi => absurd hi (by omega)), Kp.refl _⟩
    case round =>
      obtain ⟨n, hn, rfl, HN, hkr⟩ := hrel
      have HKR := Lib.hid hkr
      have hcase : n = 0 ∨ n = 1 := by omega
      rcases hcase with rfl | rfl
      · obtain ⟨b, o, ha, hr⟩ := HL.out.tl.at (by omega)
        have HA := Lib.hid ha
        have HKX := Lib.hid (HL.out.at_ 0 (by omega))
        have g0 := (node_at (hkr.range (hr 0 (by omega)))).1
        have g1 : wr.cell? ⟨b, o, none⟩ = some (.int .i64 (K 0).k) := g0
        have hlt : 0 < 1 := by omega
        clear ha hr
        have hb : ∀ h, ((((⟨#[99]⟩ : ByteArray)[0]'h).toNat : Nat) : Int) = 99 := fun _ => rfl
        cases hq : (inK [34]) (K 0).k with
        | false =>
          have hv := Lib.hid (areB_no (ks := ks) (ps := [(inK [34])]) (i := 0) HKX.out rfl hq)
          have e1 : ((K 0).k == 34) = false := (by rw [← in_one]; exact hq)
          clear hq
          go_wp2_with (first | ((with_reducible show wpList _ _ _ (⟨some 21, _, _, _, _, _⟩ :: _) _ _); refine wpList_index_tab (d := 21) _ _ _ rfl 25 Try.underlying23 5 rfl _ _ _ _ o (by rfl) HA.out 0 (by rfl) hlt ?_))
          go_region_held3 (fun _ : World => True) (first | trivial) ((first | (go_at_call 29; (with_reducible refine (c_sort (K 0).k _).mono ?_); rintro e w' ⟨rfl, rfl⟩)))
          all_goals (go_wp2_with fail; go_ret; exact ⟨ret_boolA hv.out.symm, HKR.out.drew⟩)
        | true =>
          have HQ := Lib.hid hq
          have e1 : ((K 0).k == 34) = true := (by rw [← in_one]; exact hq)
          clear hq
          go_wp2_with (first | ((with_reducible show wpList _ _ _ (⟨some 21, _, _, _, _, _⟩ :: _) _ _); refine wpList_index_tab (d := 21) _ _ _ rfl 25 Try.underlying23 5 rfl _ _ _ _ o (by rfl) HA.out 0 (by rfl) hlt ?_))
          go_region_held3 (fun _ : World => True) (first | trivial) ((first | (go_at_call 29; (with_reducible refine (c_sort (K 0).k _).mono ?_); rintro e w' ⟨rfl, rfl⟩)))
          all_goals
            go_wp2_with fail
            go_roundw
            case rel => exact ⟨1, by omega, by go_num, Lib.hid (fun i k' p' hi hk' hp' => by
              by_cases e : i = 0
              · subst e
                obtain rfl := Option.some.inj (hk'.symm.trans HKX.out)
                obtain rfl : p' = (inK [34]) := (Option.some.inj hp').symm
                exact HQ.out
              · exact HN.out i k' p' (by omega) hk' hp'), HKR.out.drew⟩
            case measure => simp [intOf]
      · have hv := Lib.hid (areB_yes (ks := ks) (ps := [(inK [34])]) (by rw [HL.out.len]; rfl) (fun i k' p' hk' hp' => HN.out i k' p' (by have := (List.getElem?_eq_some_iff.1 hk').1; have := HL.out.len; omega) hk' hp'))
        go_wp2_with fail
        go_ret
        exact ⟨ret_boolA hv.out.symm, hkr⟩
  · rw [areB_len (by rw [HL.out.len]; exact hll)]
    have q1 : ((ll : Int) != 1) = true := bne_iff_ne.2 (by omega)
    have q2 : ((ll : Int) == 1) = false := beq_eq_false_iff_ne.2 (by omega)
    go_enter Try.func48, Try.ntmps48
    go_wp2_with fail
    go_ret
    exact ⟨rfl, Kp.refl w⟩
set_option maxHeartbeats 6400000 in
set_option maxRecDepth 100000 in
theorem list_r (w : World) (ks : List Int) (la : Option Addr) (ll lc : Nat) (K : Nat → Hn) (hL : ListAt w ks la ll lc K) :
    Calls Try.prog 48 #[.slice la ll lc, .string ⟨#[114]⟩] w fun e w' => e = .returned (.bool (areB ks [(inK [39])])) ∧ Kp w w' := by
  have HL := Lib.hid hL
  have hbl := hL.bl
  clear hL
  by_cases hll : ll = 1
  · subst hll
    go_enter Try.func48, Try.ntmps48
    go_wp2_with fail
    go_loopw [5] (fun i wr => ∃ n : Nat, n ≤ 1 ∧ i = .int .i64 n ∧ Hid (∀ (i : Nat) (k : Int) (p : Int → Bool), i < n → ks[i]? = some k → ([(inK [39])] : List (Int → Bool))[i]? = some p → p k = true) ∧ Kp w wr) (fun i _ => 1 - (intOf i).toNat)
    case atStart => exact ⟨0, by omega, rfl, Lib.hid (fun i _ _ hi => absurd hi (by omega)), Kp.refl _⟩
    case round =>
      obtain ⟨n, hn, rfl, HN, hkr⟩ := hrel
      have HKR := Lib.hid hkr
      have hcase : n = 0 ∨ n = 1 := by omega
      rcases hcase with rfl | rfl
      · obtain ⟨b, o, ha, hr⟩ := HL.out.tl.at (by omega)
        have HA := Lib.hid ha
        have HKX := Lib.hid (HL.out.at_ 0 (by omega))
        have g0 := (node_at (hkr.range (hr 0 (by omega)))).1
        have g1 : wr.cell? ⟨b, o, none⟩ = some (.int .i64 (K 0).k) := g0
        have hlt : 0 < 1 := by omega
        clear ha hr
        have hb : ∀ h, ((((⟨#[114]⟩ : ByteArray)[0]'h).toNat : Nat) : Int) = 114 := fun _ => rfl
        cases hq : (inK [39]) (K 0).k with
        | false =>
          have hv := Lib.hid (areB_no (ks := ks) (ps := [(inK [39])]) (i := 0) HKX.out rfl hq)
          have e1 : ((K 0).k == 39) = false := (by rw [← in_one]; exact hq)
          clear hq
          go_wp2_with (first | ((with_reducible show wpList _ _ _ (⟨some 21, _, _, _, _, _⟩ :: _) _ _); refine wpList_index_tab (d := 21) _ _ _ rfl 25 Try.underlying23 5 rfl _ _ _ _ o (by rfl) HA.out 0 (by rfl) hlt ?_))
          go_region_held3 (fun _ : World => True) (first | trivial) ((first | (go_at_call 29; (with_reducible refine (c_sort (K 0).k _).mono ?_); rintro e w' ⟨rfl, rfl⟩)))
          all_goals (go_wp2_with fail; go_ret; exact ⟨ret_boolA hv.out.symm, HKR.out.drew⟩)
        | true =>
          have HQ := Lib.hid hq
          have e1 : ((K 0).k == 39) = true := (by rw [← in_one]; exact hq)
          clear hq
          go_wp2_with (first | ((with_reducible show wpList _ _ _ (⟨some 21, _, _, _, _, _⟩ :: _) _ _); refine wpList_index_tab (d := 21) _ _ _ rfl 25 Try.underlying23 5 rfl _ _ _ _ o (by rfl) HA.out 0 (by rfl) hlt ?_))
          go_region_held3 (fun _ : World => True) (first | trivial) ((first | (go_at_call 29; (with_reducible refine (c_sort (K 0).k _).mono ?_); rintro e w' ⟨rfl, rfl⟩)))
          all_goals
            go_wp2_with fail
            go_roundw
            case rel => exact ⟨1, by omega, by go_num, Lib.hid (fun i k' p' hi hk' hp' => by
              by_cases e : i = 0
              · subst e
                obtain rfl := Option.some.inj (hk'.symm.trans HKX.out)
                obtain rfl : p' = (inK [39]) := (Option.some.inj hp').symm
                exact HQ.out
              · exact HN.out i k' p' (by omega) hk' hp'), HKR.out.drew⟩
            case measure => simp [intOf]
      · have hv := Lib.hid (areB_yes (ks := ks) (ps := [(inK [39])]) (by rw [HL.out.len]; rfl) (fun i k' p' hk' hp' => HN.out i k' p' (by have := (List.getElem?_eq_some_iff.1 hk').1; have := HL.out.len; omega) hk' hp'))
        go_wp2_with fail
        go_ret
        exact ⟨ret_boolA hv.out.symm, hkr⟩
  · rw [areB_len (by rw [HL.out.len]; exact hll)]
    have q1 : ((ll : Int) != 1) = true := bne_iff_ne.2 (by omega)
    have q2 : ((ll : Int) == 1) = false := beq_eq_false_iff_ne.2 (by omega)
    go_enter Try.func48, Try.ntmps48
    go_wp2_with fail
    go_ret
    exact ⟨rfl, Kp.refl w⟩
set_option maxHeartbeats 6400000 in
set_option maxRecDepth 100000 in
theorem list_eb (w : World) (ks : List Int) (la : Option Addr) (ll lc : Nat) (K : Nat → Hn) (hL : ListAt w ks la ll lc K) :
    Calls Try.prog 48 #[.slice la ll lc, .string ⟨#[101, 98]⟩] w fun e w' => e = .returned (.bool (areB ks [exK, (inK [20])])) ∧ Kp w w' := by
  have HL := Lib.hid hL
  have hbl := hL.bl
  clear hL
  by_cases hll : ll = 2
  · subst hll
    go_enter Try.func48, Try.ntmps48
    go_wp2_with fail
    go_loopw [5] (fun i wr => ∃ n : Nat, n ≤ 2 ∧ i = .int .i64 n ∧ Hid (∀ (i : Nat) (k : Int) (p : Int → Bool), i < n → ks[i]? = some k → ([exK, (inK [20])] : List (Int → Bool))[i]? = some p → p k = true) ∧ Kp w wr) (fun i _ => 2 - (intOf i).toNat)
    case atStart => exact ⟨0, by omega, rfl, Lib.hid (fun i _ _ hi => absurd hi (by omega)), Kp.refl _⟩
    case round =>
      obtain ⟨n, hn, rfl, HN, hkr⟩ := hrel
      have HKR := Lib.hid hkr
      have hcase : n = 0 ∨ n = 1 ∨ n = 2 := by omega
      rcases hcase with rfl | rfl | rfl
      · obtain ⟨b, o, ha, hr⟩ := HL.out.tl.at (by omega)
        have HA := Lib.hid ha
        have HKX := Lib.hid (HL.out.at_ 0 (by omega))
        have g0 := (node_at (hkr.range (hr 0 (by omega)))).1
        have g1 : wr.cell? ⟨b, o, none⟩ = some (.int .i64 (K 0).k) := g0
        have hlt : 0 < 2 := by omega
        clear ha hr
        have hb : ∀ h, ((((⟨#[101, 98]⟩ : ByteArray)[0]'h).toNat : Nat) : Int) = 101 := fun _ => rfl
        cases hq : exK (K 0).k with
        | false =>
          have hv := Lib.hid (areB_no (ks := ks) (ps := [exK, (inK [20])]) (i := 0) HKX.out rfl hq)
          have e1 : (sortL (K 0).k == 101) = false := (by rw [sort_e]; exact hq)
          clear hq
          go_wp2_with (first | ((with_reducible show wpList _ _ _ (⟨some 21, _, _, _, _, _⟩ :: _) _ _); refine wpList_index_tab (d := 21) _ _ _ rfl 25 Try.underlying23 5 rfl _ _ _ _ o (by rfl) HA.out 0 (by rfl) hlt ?_))
          go_region_held3 (fun _ : World => True) (first | trivial) ((first | (go_at_call 29; (with_reducible refine (c_sort (K 0).k _).mono ?_); rintro e w' ⟨rfl, rfl⟩)))
          all_goals (go_wp2_with fail; go_ret; exact ⟨ret_boolA hv.out.symm, HKR.out.drew⟩)
        | true =>
          have HQ := Lib.hid hq
          have e1 : (sortL (K 0).k == 101) = true := (by rw [sort_e]; exact hq)
          clear hq
          go_wp2_with (first | ((with_reducible show wpList _ _ _ (⟨some 21, _, _, _, _, _⟩ :: _) _ _); refine wpList_index_tab (d := 21) _ _ _ rfl 25 Try.underlying23 5 rfl _ _ _ _ o (by rfl) HA.out 0 (by rfl) hlt ?_))
          go_region_held3 (fun _ : World => True) (first | trivial) ((first | (go_at_call 29; (with_reducible refine (c_sort (K 0).k _).mono ?_); rintro e w' ⟨rfl, rfl⟩)))
          all_goals
            go_wp2_with fail
            go_roundw
            case rel => exact ⟨1, by omega, by go_num, Lib.hid (fun i k' p' hi hk' hp' => by
              by_cases e : i = 0
              · subst e
                obtain rfl := Option.some.inj (hk'.symm.trans HKX.out)
                obtain rfl : p' = exK := (Option.some.inj hp').symm
                exact HQ.out
              · exact HN.out i k' p' (by omega) hk' hp'), HKR.out.drew⟩
            case measure => simp [intOf]
      · obtain ⟨b, o, ha, hr⟩ := HL.out.tl.at (by omega)
        have HA := Lib.hid ha
        have HKX := Lib.hid (HL.out.at_ 1 (by omega))
        have g0 := (node_at (hkr.range (hr 1 (by omega)))).1
        have g1 : wr.cell? ⟨b, o + 5, none⟩ = some (.int .i64 (K 1).k) := g0
        have hlt : 1 < 2 := by omega
        clear ha hr
        have hb : ∀ h, ((((⟨#[101, 98]⟩ : ByteArray)[1]'h).toNat : Nat) : Int) = 98 := fun _ => rfl
        cases hq : (inK [20]) (K 1).k with
        | false =>
          have hv := Lib.hid (areB_no (ks := ks) (ps := [exK, (inK [20])]) (i := 1) HKX.out rfl hq)
          have e1 : ((K 1).k == 20) = false := (by rw [← in_one]; exact hq)
          clear hq
          go_wp2_with (first | ((with_reducible show wpList _ _ _ (⟨some 21, _, _, _, _, _⟩ :: _) _ _); refine wpList_index_tab (d := 21) _ _ _ rfl 25 Try.underlying23 5 rfl _ _ _ _ o (by rfl) HA.out 1 (by rfl) hlt ?_))
          go_region_held3 (fun _ : World => True) (first | trivial) ((first | (go_at_call 29; (with_reducible refine (c_sort (K 1).k _).mono ?_); rintro e w' ⟨rfl, rfl⟩)))
          all_goals (go_wp2_with fail; go_ret; exact ⟨ret_boolA hv.out.symm, HKR.out.drew⟩)
        | true =>
          have HQ := Lib.hid hq
          have e1 : ((K 1).k == 20) = true := (by rw [← in_one]; exact hq)
          clear hq
          go_wp2_with (first | ((with_reducible show wpList _ _ _ (⟨some 21, _, _, _, _, _⟩ :: _) _ _); refine wpList_index_tab (d := 21) _ _ _ rfl 25 Try.underlying23 5 rfl _ _ _ _ o (by rfl) HA.out 1 (by rfl) hlt ?_))
          go_region_held3 (fun _ : World => True) (first | trivial) ((first | (go_at_call 29; (with_reducible refine (c_sort (K 1).k _).mono ?_); rintro e w' ⟨rfl, rfl⟩)))
          all_goals
            go_wp2_with fail
            go_roundw
            case rel => exact ⟨2, by omega, by go_num, Lib.hid (fun i k' p' hi hk' hp' => by
              by_cases e : i = 1
              · subst e
                obtain rfl := Option.some.inj (hk'.symm.trans HKX.out)
                obtain rfl : p' = (inK [20]) := (Option.some.inj hp').symm
                exact HQ.out
              · exact HN.out i k' p' (by omega) hk' hp'), HKR.out.drew⟩
            case measure => simp [intOf]
      · have hv := Lib.hid (areB_yes (ks := ks) (ps := [exK, (inK [20])]) (by rw [HL.out.len]; rfl) (fun i k' p' hk' hp' => HN.out i k' p' (by have := (List.getElem?_eq_some_iff.1 hk').1; have := HL.out.len; omega) hk' hp'))
        go_wp2_with fail
        go_ret
        exact ⟨ret_boolA hv.out.symm, hkr⟩
  · rw [areB_len (by rw [HL.out.len]; exact hll)]
    have q1 : ((ll : Int) != 2) = true := bne_iff_ne.2 (by omega)
    have q2 : ((ll : Int) == 2) = false := beq_eq_false_iff_ne.2 (by omega)
    go_enter Try.func48, Try.ntmps48
    go_wp2_with fail
    go_ret
    exact ⟨rfl, Kp.refl w⟩
set_option maxHeartbeats 6400000 in
set_option maxRecDepth 100000 in
theorem list_ebb (w : World) (ks : List Int) (la : Option Addr) (ll lc : Nat) (K : Nat → Hn) (hL : ListAt w ks la ll lc K) :
    Calls Try.prog 48 #[.slice la ll lc, .string ⟨#[101, 98, 98]⟩] w fun e w' => e = .returned (.bool (areB ks [exK, (inK [20]), (inK [20])])) ∧ Kp w w' := by
  have HL := Lib.hid hL
  have hbl := hL.bl
  clear hL
  by_cases hll : ll = 3
  · subst hll
    go_enter Try.func48, Try.ntmps48
    go_wp2_with fail
    go_loopw [5] (fun i wr => ∃ n : Nat, n ≤ 3 ∧ i = .int .i64 n ∧ Hid (∀ (i : Nat) (k : Int) (p : Int → Bool), i < n → ks[i]? = some k → ([exK, (inK [20]), (inK [20])] : List (Int → Bool))[i]? = some p → p k = true) ∧ Kp w wr) (fun i _ => 3 - (intOf i).toNat)
    case atStart => exact ⟨0, by omega, rfl, Lib.hid (fun i _ _ hi => absurd hi (by omega)), Kp.refl _⟩
    case round =>
      obtain ⟨n, hn, rfl, HN, hkr⟩ := hrel
      have HKR := Lib.hid hkr
      have hcase : n = 0 ∨ n = 1 ∨ n = 2 ∨ n = 3 := by omega
      rcases hcase with rfl | rfl | rfl | rfl
      · obtain ⟨b, o, ha, hr⟩ := HL.out.tl.at (by omega)
        have HA := Lib.hid ha
        have HKX := Lib.hid (HL.out.at_ 0 (by omega))
        have g0 := (node_at (hkr.range (hr 0 (by omega)))).1
        have g1 : wr.cell? ⟨b, o, none⟩ = some (.int .i64 (K 0).k) := g0
        have hlt : 0 < 3 := by omega
        clear ha hr
        have hb : ∀ h, ((((⟨#[101, 98, 98]⟩ : ByteArray)[0]'h).toNat : Nat) : Int) = 101 := fun _ => rfl
        cases hq : exK (K 0).k with
        | false =>
          have hv := Lib.hid (areB_no (ks := ks) (ps := [exK, (inK [20]), (inK [20])]) (i := 0) HKX.out rfl hq)
          have e1 : (sortL (K 0).k == 101) = false := (by rw [sort_e]; exact hq)
          clear hq
          go_wp2_with (first | ((with_reducible show wpList _ _ _ (⟨some 21, _, _, _, _, _⟩ :: _) _ _); refine wpList_index_tab (d := 21) _ _ _ rfl 25 Try.underlying23 5 rfl _ _ _ _ o (by rfl) HA.out 0 (by rfl) hlt ?_))
          go_region_held3 (fun _ : World => True) (first | trivial) ((first | (go_at_call 29; (with_reducible refine (c_sort (K 0).k _).mono ?_); rintro e w' ⟨rfl, rfl⟩)))
          all_goals (go_wp2_with fail; go_ret; exact ⟨ret_boolA hv.out.symm, HKR.out.drew⟩)
        | true =>
          have HQ := Lib.hid hq
          have e1 : (sortL (K 0).k == 101) = true := (by rw [sort_e]; exact hq)
          clear hq
          go_wp2_with (first | ((with_reducible show wpList _ _ _ (⟨some 21, _, _, _, _, _⟩ :: _) _ _); refine wpList_index_tab (d := 21) _ _ _ rfl 25 Try.underlying23 5 rfl _ _ _ _ o (by rfl) HA.out 0 (by rfl) hlt ?_))
          go_region_held3 (fun _ : World => True) (first | trivial) ((first | (go_at_call 29; (with_reducible refine (c_sort (K 0).k _).mono ?_); rintro e w' ⟨rfl, rfl⟩)))
          all_goals
            go_wp2_with fail
            go_roundw
            case rel => exact ⟨1, by omega, by go_num, Lib.hid (fun i k' p' hi hk' hp' => by
              by_cases e : i = 0
              · subst e
                obtain rfl := Option.some.inj (hk'.symm.trans HKX.out)
                obtain rfl : p' = exK := (Option.some.inj hp').symm
                exact HQ.out
              · exact HN.out i k' p' (by omega) hk' hp'), HKR.out.drew⟩
            case measure => simp [intOf]
      · obtain ⟨b, o, ha, hr⟩ := HL.out.tl.at (by omega)
        have HA := Lib.hid ha
        have HKX := Lib.hid (HL.out.at_ 1 (by omega))
        have g0 := (node_at (hkr.range (hr 1 (by omega)))).1
        have g1 : wr.cell? ⟨b, o + 5, none⟩ = some (.int .i64 (K 1).k) := g0
        have hlt : 1 < 3 := by omega
        clear ha hr
        have hb : ∀ h, ((((⟨#[101, 98, 98]⟩ : ByteArray)[1]'h).toNat : Nat) : Int) = 98 := fun _ => rfl
        cases hq : (inK [20]) (K 1).k with
        | false =>
          have hv := Lib.hid (areB_no (ks := ks) (ps := [exK, (inK [20]), (inK [20])]) (i := 1) HKX.out rfl hq)
          have e1 : ((K 1).k == 20) = false := (by rw [← in_one]; exact hq)
          clear hq
          go_wp2_with (first | ((with_reducible show wpList _ _ _ (⟨some 21, _, _, _, _, _⟩ :: _) _ _); refine wpList_index_tab (d := 21) _ _ _ rfl 25 Try.underlying23 5 rfl _ _ _ _ o (by rfl) HA.out 1 (by rfl) hlt ?_))
          go_region_held3 (fun _ : World => True) (first | trivial) ((first | (go_at_call 29; (with_reducible refine (c_sort (K 1).k _).mono ?_); rintro e w' ⟨rfl, rfl⟩)))
          all_goals (go_wp2_with fail; go_ret; exact ⟨ret_boolA hv.out.symm, HKR.out.drew⟩)
        | true =>
          have HQ := Lib.hid hq
          have e1 : ((K 1).k == 20) = true := (by rw [← in_one]; exact hq)
          clear hq
          go_wp2_with (first | ((with_reducible show wpList _ _ _ (⟨some 21, _, _, _, _, _⟩ :: _) _ _); refine wpList_index_tab (d := 21) _ _ _ rfl 25 Try.underlying23 5 rfl _ _ _ _ o (by rfl) HA.out 1 (by rfl) hlt ?_))
          go_region_held3 (fun _ : World => True) (first | trivial) ((first | (go_at_call 29; (with_reducible refine (c_sort (K 1).k _).mono ?_); rintro e w' ⟨rfl, rfl⟩)))
          all_goals
            go_wp2_with fail
            go_roundw
            case rel => exact ⟨2, by omega, by go_num, Lib.hid (fun i k' p' hi hk' hp' => by
              by_cases e : i = 1
              · subst e
                obtain rfl := Option.some.inj (hk'.symm.trans HKX.out)
                obtain rfl : p' = (inK [20]) := (Option.some.inj hp').symm
                exact HQ.out
              · exact HN.out i k' p' (by omega) hk' hp'), HKR.out.drew⟩
            case measure => simp [intOf]
      · obtain ⟨b, o, ha, hr⟩ := HL.out.tl.at (by omega)
        have HA := Lib.hid ha
        have HKX := Lib.hid (HL.out.at_ 2 (by omega))
        have g0 := (node_at (hkr.range (hr 2 (by omega)))).1
        have g1 : wr.cell? ⟨b, o + 10, none⟩ = some (.int .i64 (K 2).k) := g0
        have hlt : 2 < 3 := by omega
        clear ha hr
        have hb : ∀ h, ((((⟨#[101, 98, 98]⟩ : ByteArray)[2]'h).toNat : Nat) : Int) = 98 := fun _ => rfl
        cases hq : (inK [20]) (K 2).k with
        | false =>
          have hv := Lib.hid (areB_no (ks := ks) (ps := [exK, (inK [20]), (inK [20])]) (i := 2) HKX.out rfl hq)
          have e1 : ((K 2).k == 20) = false := (by rw [← in_one]; exact hq)
          clear hq
          go_wp2_with (first | ((with_reducible show wpList _ _ _ (⟨some 21, _, _, _, _, _⟩ :: _) _ _); refine wpList_index_tab (d := 21) _ _ _ rfl 25 Try.underlying23 5 rfl _ _ _ _ o (by rfl) HA.out 2 (by rfl) hlt ?_))
          go_region_held3 (fun _ : World => True) (first | trivial) ((first | (go_at_call 29; (with_reducible refine (c_sort (K 2).k _).mono ?_); rintro e w' ⟨rfl, rfl⟩)))
          all_goals (go_wp2_with fail; go_ret; exact ⟨ret_boolA hv.out.symm, HKR.out.drew⟩)
        | true =>
          have HQ := Lib.hid hq
          have e1 : ((K 2).k == 20) = true := (by rw [← in_one]; exact hq)
          clear hq
          go_wp2_with (first | ((with_reducible show wpList _ _ _ (⟨some 21, _, _, _, _, _⟩ :: _) _ _); refine wpList_index_tab (d := 21) _ _ _ rfl 25 Try.underlying23 5 rfl _ _ _ _ o (by rfl) HA.out 2 (by rfl) hlt ?_))
          go_region_held3 (fun _ : World => True) (first | trivial) ((first | (go_at_call 29; (with_reducible refine (c_sort (K 2).k _).mono ?_); rintro e w' ⟨rfl, rfl⟩)))
          all_goals
            go_wp2_with fail
            go_roundw
            case rel => exact ⟨3, by omega, by go_num, Lib.hid (fun i k' p' hi hk' hp' => by
              by_cases e : i = 2
              · subst e
                obtain rfl := Option.some.inj (hk'.symm.trans HKX.out)
                obtain rfl : p' = (inK [20]) := (Option.some.inj hp').symm
                exact HQ.out
              · exact HN.out i k' p' (by omega) hk' hp'), HKR.out.drew⟩
            case measure => simp [intOf]
      · have hv := Lib.hid (areB_yes (ks := ks) (ps := [exK, (inK [20]), (inK [20])]) (by rw [HL.out.len]; rfl) (fun i k' p' hk' hp' => HN.out i k' p' (by have := (List.getElem?_eq_some_iff.1 hk').1; have := HL.out.len; omega) hk' hp'))
        go_wp2_with fail
        go_ret
        exact ⟨ret_boolA hv.out.symm, hkr⟩
  · rw [areB_len (by rw [HL.out.len]; exact hll)]
    have q1 : ((ll : Int) != 3) = true := bne_iff_ne.2 (by omega)
    have q2 : ((ll : Int) == 3) = false := beq_eq_false_iff_ne.2 (by omega)
    go_enter Try.func48, Try.ntmps48
    go_wp2_with fail
    go_ret
    exact ⟨rfl, Kp.refl w⟩
set_option maxHeartbeats 6400000 in
set_option maxRecDepth 100000 in
theorem list_ebi (w : World) (ks : List Int) (la : Option Addr) (ll lc : Nat) (K : Nat → Hn) (hL : ListAt w ks la ll lc K) :
    Calls Try.prog 48 #[.slice la ll lc, .string ⟨#[101, 98, 105]⟩] w fun e w' => e = .returned (.bool (areB ks [exK, (inK [20]), (inK [25])])) ∧ Kp w w' := by
  have HL := Lib.hid hL
  have hbl := hL.bl
  clear hL
  by_cases hll : ll = 3
  · subst hll
    go_enter Try.func48, Try.ntmps48
    go_wp2_with fail
    go_loopw [5] (fun i wr => ∃ n : Nat, n ≤ 3 ∧ i = .int .i64 n ∧ Hid (∀ (i : Nat) (k : Int) (p : Int → Bool), i < n → ks[i]? = some k → ([exK, (inK [20]), (inK [25])] : List (Int → Bool))[i]? = some p → p k = true) ∧ Kp w wr) (fun i _ => 3 - (intOf i).toNat)
    case atStart => exact ⟨0, by omega, rfl, Lib.hid (fun i _ _ hi => absurd hi (by omega)), Kp.refl _⟩
    case round =>
      obtain ⟨n, hn, rfl, HN, hkr⟩ := hrel
      have HKR := Lib.hid hkr
      have hcase : n = 0 ∨ n = 1 ∨ n = 2 ∨ n = 3 := by omega
      rcases hcase with rfl | rfl | rfl | rfl
      · obtain ⟨b, o, ha, hr⟩ := HL.out.tl.at (by omega)
        have HA := Lib.hid ha
        have HKX := Lib.hid (HL.out.at_ 0 (by omega))
        have g0 := (node_at (hkr.range (hr 0 (by omega)))).1
        have g1 : wr.cell? ⟨b, o, none⟩ = some (.int .i64 (K 0).k) := g0
        have hlt : 0 < 3 := by omega
        clear ha hr
        have hb : ∀ h, ((((⟨#[101, 98, 105]⟩ : ByteArray)[0]'h).toNat : Nat) : Int) = 101 := fun _ => rfl
        cases hq : exK (K 0).k with
        | false =>
          have hv := Lib.hid (areB_no (ks := ks) (ps := [exK, (inK [20]), (inK [25])]) (i := 0) HKX.out rfl hq)
          have e1 : (sortL (K 0).k == 101) = false := (by rw [sort_e]; exact hq)
          clear hq
          go_wp2_with (first | ((with_reducible show wpList _ _ _ (⟨some 21, _, _, _, _, _⟩ :: _) _ _); refine wpList_index_tab (d := 21) _ _ _ rfl 25 Try.underlying23 5 rfl _ _ _ _ o (by rfl) HA.out 0 (by rfl) hlt ?_))
          go_region_held3 (fun _ : World => True) (first | trivial) ((first | (go_at_call 29; (with_reducible refine (c_sort (K 0).k _).mono ?_); rintro e w' ⟨rfl, rfl⟩)))
          all_goals (go_wp2_with fail; go_ret; exact ⟨ret_boolA hv.out.symm, HKR.out.drew⟩)
        | true =>
          have HQ := Lib.hid hq
          have e1 : (sortL (K 0).k == 101) = true := (by rw [sort_e]; exact hq)
          clear hq
          go_wp2_with (first | ((with_reducible show wpList _ _ _ (⟨some 21, _, _, _, _, _⟩ :: _) _ _); refine wpList_index_tab (d := 21) _ _ _ rfl 25 Try.underlying23 5 rfl _ _ _ _ o (by rfl) HA.out 0 (by rfl) hlt ?_))
          go_region_held3 (fun _ : World => True) (first | trivial) ((first | (go_at_call 29; (with_reducible refine (c_sort (K 0).k _).mono ?_); rintro e w' ⟨rfl, rfl⟩)))
          all_goals
            go_wp2_with fail
            go_roundw
            case rel => exact ⟨1, by omega, by go_num, Lib.hid (fun i k' p' hi hk' hp' => by
              by_cases e : i = 0
              · subst e
                obtain rfl := Option.some.inj (hk'.symm.trans HKX.out)
                obtain rfl : p' = exK := (Option.some.inj hp').symm
                exact HQ.out
              · exact HN.out i k' p' (by omega) hk' hp'), HKR.out.drew⟩
            case measure => simp [intOf]
      · obtain ⟨b, o, ha, hr⟩ := HL.out.tl.at (by omega)
        have HA := Lib.hid ha
        have HKX := Lib.hid (HL.out.at_ 1 (by omega))
        have g0 := (node_at (hkr.range (hr 1 (by omega)))).1
        have g1 : wr.cell? ⟨b, o + 5, none⟩ = some (.int .i64 (K 1).k) := g0
        have hlt : 1 < 3 := by omega
        clear ha hr
        have hb : ∀ h, ((((⟨#[101, 98, 105]⟩ : ByteArray)[1]'h).toNat : Nat) : Int) = 98 := fun _ => rfl
        cases hq : (inK [20]) (K 1).k with
        | false =>
          have hv := Lib.hid (areB_no (ks := ks) (ps := [exK, (inK [20]), (inK [25])]) (i := 1) HKX.out rfl hq)
          have e1 : ((K 1).k == 20) = false := (by rw [← in_one]; exact hq)
          clear hq
          go_wp2_with (first | ((with_reducible show wpList _ _ _ (⟨some 21, _, _, _, _, _⟩ :: _) _ _); refine wpList_index_tab (d := 21) _ _ _ rfl 25 Try.underlying23 5 rfl _ _ _ _ o (by rfl) HA.out 1 (by rfl) hlt ?_))
          go_region_held3 (fun _ : World => True) (first | trivial) ((first | (go_at_call 29; (with_reducible refine (c_sort (K 1).k _).mono ?_); rintro e w' ⟨rfl, rfl⟩)))
          all_goals (go_wp2_with fail; go_ret; exact ⟨ret_boolA hv.out.symm, HKR.out.drew⟩)
        | true =>
          have HQ := Lib.hid hq
          have e1 : ((K 1).k == 20) = true := (by rw [← in_one]; exact hq)
          clear hq
          go_wp2_with (first | ((with_reducible show wpList _ _ _ (⟨some 21, _, _, _, _, _⟩ :: _) _ _); refine wpList_index_tab (d := 21) _ _ _ rfl 25 Try.underlying23 5 rfl _ _ _ _ o (by rfl) HA.out 1 (by rfl) hlt ?_))
          go_region_held3 (fun _ : World => True) (first | trivial) ((first | (go_at_call 29; (with_reducible refine (c_sort (K 1).k _).mono ?_); rintro e w' ⟨rfl, rfl⟩)))
          all_goals
            go_wp2_with fail
            go_roundw
            case rel => exact ⟨2, by omega, by go_num, Lib.hid (fun i k' p' hi hk' hp' => by
              by_cases e : i = 1
              · subst e
                obtain rfl := Option.some.inj (hk'.symm.trans HKX.out)
                obtain rfl : p' = (inK [20]) := (Option.some.inj hp').symm
                exact HQ.out
              · exact HN.out i k' p' (by omega) hk' hp'), HKR.out.drew⟩
            case measure => simp [intOf]
      · obtain ⟨b, o, ha, hr⟩ := HL.out.tl.at (by omega)
        have HA := Lib.hid ha
        have HKX := Lib.hid (HL.out.at_ 2 (by omega))
        have g0 := (node_at (hkr.range (hr 2 (by omega)))).1
        have g1 : wr.cell? ⟨b, o + 10, none⟩ = some (.int .i64 (K 2).k) := g0
        have hlt : 2 < 3 := by omega
        clear ha hr
        have hb : ∀ h, ((((⟨#[101, 98, 105]⟩ : ByteArray)[2]'h).toNat : Nat) : Int) = 105 := fun _ => rfl
        cases hq : (inK [25]) (K 2).k with
        | false =>
          have hv := Lib.hid (areB_no (ks := ks) (ps := [exK, (inK [20]), (inK [25])]) (i := 2) HKX.out rfl hq)
          have e1 : ((K 2).k == 25) = false := (by rw [← in_one]; exact hq)
          clear hq
          go_wp2_with (first | ((with_reducible show wpList _ _ _ (⟨some 21, _, _, _, _, _⟩ :: _) _ _); refine wpList_index_tab (d := 21) _ _ _ rfl 25 Try.underlying23 5 rfl _ _ _ _ o (by rfl) HA.out 2 (by rfl) hlt ?_))
          go_region_held3 (fun _ : World => True) (first | trivial) ((first | (go_at_call 29; (with_reducible refine (c_sort (K 2).k _).mono ?_); rintro e w' ⟨rfl, rfl⟩)))
          all_goals (go_wp2_with fail; go_ret; exact ⟨ret_boolA hv.out.symm, HKR.out.drew⟩)
        | true =>
          have HQ := Lib.hid hq
          have e1 : ((K 2).k == 25) = true := (by rw [← in_one]; exact hq)
          clear hq
          go_wp2_with (first | ((with_reducible show wpList _ _ _ (⟨some 21, _, _, _, _, _⟩ :: _) _ _); refine wpList_index_tab (d := 21) _ _ _ rfl 25 Try.underlying23 5 rfl _ _ _ _ o (by rfl) HA.out 2 (by rfl) hlt ?_))
          go_region_held3 (fun _ : World => True) (first | trivial) ((first | (go_at_call 29; (with_reducible refine (c_sort (K 2).k _).mono ?_); rintro e w' ⟨rfl, rfl⟩)))
          all_goals
            go_wp2_with fail
            go_roundw
            case rel => exact ⟨3, by omega, by go_num, Lib.hid (fun i k' p' hi hk' hp' => by
              by_cases e : i = 2
              · subst e
                obtain rfl := Option.some.inj (hk'.symm.trans HKX.out)
                obtain rfl : p' = (inK [25]) := (Option.some.inj hp').symm
                exact HQ.out
              · exact HN.out i k' p' (by omega) hk' hp'), HKR.out.drew⟩
            case measure => simp [intOf]
      · have hv := Lib.hid (areB_yes (ks := ks) (ps := [exK, (inK [20]), (inK [25])]) (by rw [HL.out.len]; rfl) (fun i k' p' hk' hp' => HN.out i k' p' (by have := (List.getElem?_eq_some_iff.1 hk').1; have := HL.out.len; omega) hk' hp'))
        go_wp2_with fail
        go_ret
        exact ⟨ret_boolA hv.out.symm, hkr⟩
  · rw [areB_len (by rw [HL.out.len]; exact hll)]
    have q1 : ((ll : Int) != 3) = true := bne_iff_ne.2 (by omega)
    have q2 : ((ll : Int) == 3) = false := beq_eq_false_iff_ne.2 (by omega)
    go_enter Try.func48, Try.ntmps48
    go_wp2_with fail
    go_ret
    exact ⟨rfl, Kp.refl w⟩
set_option maxHeartbeats 6400000 in
set_option maxRecDepth 100000 in
theorem list_pqb (w : World) (ks : List Int) (la : Option Addr) (ll lc : Nat) (K : Nat → Hn) (hL : ListAt w ks la ll lc K) :
    Calls Try.prog 48 #[.slice la ll lc, .string ⟨#[112, 113, 98]⟩] w fun e w' => e = .returned (.bool (areB ks [(inK [6]), (inK [7]), (inK [20])])) ∧ Kp w w' := by
  have HL := Lib.hid hL
  have hbl := hL.bl
  clear hL
  by_cases hll : ll = 3
  · subst hll
    go_enter Try.func48, Try.ntmps48
    go_wp2_with fail
    go_loopw [5] (fun i wr => ∃ n : Nat, n ≤ 3 ∧ i = .int .i64 n ∧ Hid (∀ (i : Nat) (k : Int) (p : Int → Bool), i < n → ks[i]? = some k → ([(inK [6]), (inK [7]), (inK [20])] : List (Int → Bool))[i]? = some p → p k = true) ∧ Kp w wr) (fun i _ => 3 - (intOf i).toNat)
    case atStart => exact ⟨0, by omega, rfl, Lib.hid (fun i _ _ hi => absurd hi (by omega)), Kp.refl _⟩
    case round =>
      obtain ⟨n, hn, rfl, HN, hkr⟩ := hrel
      have HKR := Lib.hid hkr
      have hcase : n = 0 ∨ n = 1 ∨ n = 2 ∨ n = 3 := by omega
      rcases hcase with rfl | rfl | rfl | rfl
      · obtain ⟨b, o, ha, hr⟩ := HL.out.tl.at (by omega)
        have HA := Lib.hid ha
        have HKX := Lib.hid (HL.out.at_ 0 (by omega))
        have g0 := (node_at (hkr.range (hr 0 (by omega)))).1
        have g1 : wr.cell? ⟨b, o, none⟩ = some (.int .i64 (K 0).k) := g0
        have hlt : 0 < 3 := by omega
        clear ha hr
        have hb : ∀ h, ((((⟨#[112, 113, 98]⟩ : ByteArray)[0]'h).toNat : Nat) : Int) = 112 := fun _ => rfl
        cases hq : (inK [6]) (K 0).k with
        | false =>
          have hv := Lib.hid (areB_no (ks := ks) (ps := [(inK [6]), (inK [7]), (inK [20])]) (i := 0) HKX.out rfl hq)
          have e1 : ((K 0).k == 6) = false := (by rw [← in_one]; exact hq)
          clear hq
          go_wp2_with (first | ((with_reducible show wpList _ _ _ (⟨some 21, _, _, _, _, _⟩ :: _) _ _); refine wpList_index_tab (d := 21) _ _ _ rfl 25 Try.underlying23 5 rfl _ _ _ _ o (by rfl) HA.out 0 (by rfl) hlt ?_))
          go_region_held3 (fun _ : World => True) (first | trivial) ((first | (go_at_call 29; (with_reducible refine (c_sort (K 0).k _).mono ?_); rintro e w' ⟨rfl, rfl⟩)))
          all_goals (go_wp2_with fail; go_ret; exact ⟨ret_boolA hv.out.symm, HKR.out.drew⟩)
        | true =>
          have HQ := Lib.hid hq
          have e1 : ((K 0).k == 6) = true := (by rw [← in_one]; exact hq)
          clear hq
          go_wp2_with (first | ((with_reducible show wpList _ _ _ (⟨some 21, _, _, _, _, _⟩ :: _) _ _); refine wpList_index_tab (d := 21) _ _ _ rfl 25 Try.underlying23 5 rfl _ _ _ _ o (by rfl) HA.out 0 (by rfl) hlt ?_))
          go_region_held3 (fun _ : World => True) (first | trivial) ((first | (go_at_call 29; (with_reducible refine (c_sort (K 0).k _).mono ?_); rintro e w' ⟨rfl, rfl⟩)))
          all_goals
            go_wp2_with fail
            go_roundw
            case rel => exact ⟨1, by omega, by go_num, Lib.hid (fun i k' p' hi hk' hp' => by
              by_cases e : i = 0
              · subst e
                obtain rfl := Option.some.inj (hk'.symm.trans HKX.out)
                obtain rfl : p' = (inK [6]) := (Option.some.inj hp').symm
                exact HQ.out
              · exact HN.out i k' p' (by omega) hk' hp'), HKR.out.drew⟩
            case measure => simp [intOf]
      · obtain ⟨b, o, ha, hr⟩ := HL.out.tl.at (by omega)
        have HA := Lib.hid ha
        have HKX := Lib.hid (HL.out.at_ 1 (by omega))
        have g0 := (node_at (hkr.range (hr 1 (by omega)))).1
        have g1 : wr.cell? ⟨b, o + 5, none⟩ = some (.int .i64 (K 1).k) := g0
        have hlt : 1 < 3 := by omega
        clear ha hr
        have hb : ∀ h, ((((⟨#[112, 113, 98]⟩ : ByteArray)[1]'h).toNat : Nat) : Int) = 113 := fun _ => rfl
        cases hq : (inK [7]) (K 1).k with
        | false =>
          have hv := Lib.hid (areB_no (ks := ks) (ps := [(inK [6]), (inK [7]), (inK [20])]) (i := 1) HKX.out rfl hq)
          have e1 : ((K 1).k == 7) = false := (by rw [← in_one]; exact hq)
          clear hq
          go_wp2_with (first | ((with_reducible show wpList _ _ _ (⟨some 21, _, _, _, _, _⟩ :: _) _ _); refine wpList_index_tab (d := 21) _ _ _ rfl 25 Try.underlying23 5 rfl _ _ _ _ o (by rfl) HA.out 1 (by rfl) hlt ?_))
          go_region_held3 (fun _ : World => True) (first | trivial) ((first | (go_at_call 29; (with_reducible refine (c_sort (K 1).k _).mono ?_); rintro e w' ⟨rfl, rfl⟩)))
          all_goals (go_wp2_with fail; go_ret; exact ⟨ret_boolA hv.out.symm, HKR.out.drew⟩)
        | true =>
          have HQ := Lib.hid hq
          have e1 : ((K 1).k == 7) = true := (by rw [← in_one]; exact hq)
          clear hq
          go_wp2_with (first | ((with_reducible show wpList _ _ _ (⟨some 21, _, _, _, _, _⟩ :: _) _ _); refine wpList_index_tab (d := 21) _ _ _ rfl 25 Try.underlying23 5 rfl _ _ _ _ o (by rfl) HA.out 1 (by rfl) hlt ?_))
          go_region_held3 (fun _ : World => True) (first | trivial) ((first | (go_at_call 29; (with_reducible refine (c_sort (K 1).k _).mono ?_); rintro e w' ⟨rfl, rfl⟩)))
          all_goals
            go_wp2_with fail
            go_roundw
            case rel => exact ⟨2, by omega, by go_num, Lib.hid (fun i k' p' hi hk' hp' => by
              by_cases e : i = 1
              · subst e
                obtain rfl := Option.some.inj (hk'.symm.trans HKX.out)
                obtain rfl : p' = (inK [7]) := (Option.some.inj hp').symm
                exact HQ.out
              · exact HN.out i k' p' (by omega) hk' hp'), HKR.out.drew⟩
            case measure => simp [intOf]
      · obtain ⟨b, o, ha, hr⟩ := HL.out.tl.at (by omega)
        have HA := Lib.hid ha
        have HKX := Lib.hid (HL.out.at_ 2 (by omega))
        have g0 := (node_at (hkr.range (hr 2 (by omega)))).1
        have g1 : wr.cell? ⟨b, o + 10, none⟩ = some (.int .i64 (K 2).k) := g0
        have hlt : 2 < 3 := by omega
        clear ha hr
        have hb : ∀ h, ((((⟨#[112, 113, 98]⟩ : ByteArray)[2]'h).toNat : Nat) : Int) = 98 := fun _ => rfl
        cases hq : (inK [20]) (K 2).k with
        | false =>
          have hv := Lib.hid (areB_no (ks := ks) (ps := [(inK [6]), (inK [7]), (inK [20])]) (i := 2) HKX.out rfl hq)
          have e1 : ((K 2).k == 20) = false := (by rw [← in_one]; exact hq)
          clear hq
          go_wp2_with (first | ((with_reducible show wpList _ _ _ (⟨some 21, _, _, _, _, _⟩ :: _) _ _); refine wpList_index_tab (d := 21) _ _ _ rfl 25 Try.underlying23 5 rfl _ _ _ _ o (by rfl) HA.out 2 (by rfl) hlt ?_))
          go_region_held3 (fun _ : World => True) (first | trivial) ((first | (go_at_call 29; (with_reducible refine (c_sort (K 2).k _).mono ?_); rintro e w' ⟨rfl, rfl⟩)))
          all_goals (go_wp2_with fail; go_ret; exact ⟨ret_boolA hv.out.symm, HKR.out.drew⟩)
        | true =>
          have HQ := Lib.hid hq
          have e1 : ((K 2).k == 20) = true := (by rw [← in_one]; exact hq)
          clear hq
          go_wp2_with (first | ((with_reducible show wpList _ _ _ (⟨some 21, _, _, _, _, _⟩ :: _) _ _); refine wpList_index_tab (d := 21) _ _ _ rfl 25 Try.underlying23 5 rfl _ _ _ _ o (by rfl) HA.out 2 (by rfl) hlt ?_))
          go_region_held3 (fun _ : World => True) (first | trivial) ((first | (go_at_call 29; (with_reducible refine (c_sort (K 2).k _).mono ?_); rintro e w' ⟨rfl, rfl⟩)))
          all_goals
            go_wp2_with fail
            go_roundw
            case rel => exact ⟨3, by omega, by go_num, Lib.hid (fun i k' p' hi hk' hp' => by
              by_cases e : i = 2
              · subst e
                obtain rfl := Option.some.inj (hk'.symm.trans HKX.out)
                obtain rfl : p' = (inK [20]) := (Option.some.inj hp').symm
                exact HQ.out
              · exact HN.out i k' p' (by omega) hk' hp'), HKR.out.drew⟩
            case measure => simp [intOf]
      · have hv := Lib.hid (areB_yes (ks := ks) (ps := [(inK [6]), (inK [7]), (inK [20])]) (by rw [HL.out.len]; rfl) (fun i k' p' hk' hp' => HN.out i k' p' (by have := (List.getElem?_eq_some_iff.1 hk').1; have := HL.out.len; omega) hk' hp'))
        go_wp2_with fail
        go_ret
        exact ⟨ret_boolA hv.out.symm, hkr⟩
  · rw [areB_len (by rw [HL.out.len]; exact hll)]
    have q1 : ((ll : Int) != 3) = true := bne_iff_ne.2 (by omega)
    have q2 : ((ll : Int) == 3) = false := beq_eq_false_iff_ne.2 (by omega)
    go_enter Try.func48, Try.ntmps48
    go_wp2_with fail
    go_ret
    exact ⟨rfl, Kp.refl w⟩
set_option maxHeartbeats 6400000 in
set_option maxRecDepth 100000 in
theorem list_te (w : World) (ks : List Int) (la : Option Addr) (ll lc : Nat) (K : Nat → Hn) (hL : ListAt w ks la ll lc K) :
    Calls Try.prog 48 #[.slice la ll lc, .string ⟨#[116, 101]⟩] w fun e w' => e = .returned (.bool (areB ks [tyK, exK])) ∧ Kp w w' := by
  have HL := Lib.hid hL
  have hbl := hL.bl
  clear hL
  by_cases hll : ll = 2
  · subst hll
    go_enter Try.func48, Try.ntmps48
    go_wp2_with fail
    go_loopw [5] (fun i wr => ∃ n : Nat, n ≤ 2 ∧ i = .int .i64 n ∧ Hid (∀ (i : Nat) (k : Int) (p : Int → Bool), i < n → ks[i]? = some k → ([tyK, exK] : List (Int → Bool))[i]? = some p → p k = true) ∧ Kp w wr) (fun i _ => 2 - (intOf i).toNat)
    case atStart => exact ⟨0, by omega, rfl, Lib.hid (fun i _ _ hi => absurd hi (by omega)), Kp.refl _⟩
    case round =>
      obtain ⟨n, hn, rfl, HN, hkr⟩ := hrel
      have HKR := Lib.hid hkr
      have hcase : n = 0 ∨ n = 1 ∨ n = 2 := by omega
      rcases hcase with rfl | rfl | rfl
      · obtain ⟨b, o, ha, hr⟩ := HL.out.tl.at (by omega)
        have HA := Lib.hid ha
        have HKX := Lib.hid (HL.out.at_ 0 (by omega))
        have g0 := (node_at (hkr.range (hr 0 (by omega)))).1
        have g1 : wr.cell? ⟨b, o, none⟩ = some (.int .i64 (K 0).k) := g0
        have hlt : 0 < 2 := by omega
        clear ha hr
        have hb : ∀ h, ((((⟨#[116, 101]⟩ : ByteArray)[0]'h).toNat : Nat) : Int) = 116 := fun _ => rfl
        cases hq : tyK (K 0).k with
        | false =>
          have hv := Lib.hid (areB_no (ks := ks) (ps := [tyK, exK]) (i := 0) HKX.out rfl hq)
          have e1 : (sortL (K 0).k == 116) = false := (by rw [sort_t]; exact hq)
          clear hq
          go_wp2_with (first | ((with_reducible show wpList _ _ _ (⟨some 21, _, _, _, _, _⟩ :: _) _ _); refine wpList_index_tab (d := 21) _ _ _ rfl 25 Try.underlying23 5 rfl _ _ _ _ o (by rfl) HA.out 0 (by rfl) hlt ?_))
          go_region_held3 (fun _ : World => True) (first | trivial) ((first | (go_at_call 29; (with_reducible refine (c_sort (K 0).k _).mono ?_); rintro e w' ⟨rfl, rfl⟩)))
          all_goals (go_wp2_with fail; go_ret; exact ⟨ret_boolA hv.out.symm, HKR.out.drew⟩)
        | true =>
          have HQ := Lib.hid hq
          have e1 : (sortL (K 0).k == 116) = true := (by rw [sort_t]; exact hq)
          clear hq
          go_wp2_with (first | ((with_reducible show wpList _ _ _ (⟨some 21, _, _, _, _, _⟩ :: _) _ _); refine wpList_index_tab (d := 21) _ _ _ rfl 25 Try.underlying23 5 rfl _ _ _ _ o (by rfl) HA.out 0 (by rfl) hlt ?_))
          go_region_held3 (fun _ : World => True) (first | trivial) ((first | (go_at_call 29; (with_reducible refine (c_sort (K 0).k _).mono ?_); rintro e w' ⟨rfl, rfl⟩)))
          all_goals
            go_wp2_with fail
            go_roundw
            case rel => exact ⟨1, by omega, by go_num, Lib.hid (fun i k' p' hi hk' hp' => by
              by_cases e : i = 0
              · subst e
                obtain rfl := Option.some.inj (hk'.symm.trans HKX.out)
                obtain rfl : p' = tyK := (Option.some.inj hp').symm
                exact HQ.out
              · exact HN.out i k' p' (by omega) hk' hp'), HKR.out.drew⟩
            case measure => simp [intOf]
      · obtain ⟨b, o, ha, hr⟩ := HL.out.tl.at (by omega)
        have HA := Lib.hid ha
        have HKX := Lib.hid (HL.out.at_ 1 (by omega))
        have g0 := (node_at (hkr.range (hr 1 (by omega)))).1
        have g1 : wr.cell? ⟨b, o + 5, none⟩ = some (.int .i64 (K 1).k) := g0
        have hlt : 1 < 2 := by omega
        clear ha hr
        have hb : ∀ h, ((((⟨#[116, 101]⟩ : ByteArray)[1]'h).toNat : Nat) : Int) = 101 := fun _ => rfl
        cases hq : exK (K 1).k with
        | false =>
          have hv := Lib.hid (areB_no (ks := ks) (ps := [tyK, exK]) (i := 1) HKX.out rfl hq)
          have e1 : (sortL (K 1).k == 101) = false := (by rw [sort_e]; exact hq)
          clear hq
          go_wp2_with (first | ((with_reducible show wpList _ _ _ (⟨some 21, _, _, _, _, _⟩ :: _) _ _); refine wpList_index_tab (d := 21) _ _ _ rfl 25 Try.underlying23 5 rfl _ _ _ _ o (by rfl) HA.out 1 (by rfl) hlt ?_))
          go_region_held3 (fun _ : World => True) (first | trivial) ((first | (go_at_call 29; (with_reducible refine (c_sort (K 1).k _).mono ?_); rintro e w' ⟨rfl, rfl⟩)))
          all_goals (go_wp2_with fail; go_ret; exact ⟨ret_boolA hv.out.symm, HKR.out.drew⟩)
        | true =>
          have HQ := Lib.hid hq
          have e1 : (sortL (K 1).k == 101) = true := (by rw [sort_e]; exact hq)
          clear hq
          go_wp2_with (first | ((with_reducible show wpList _ _ _ (⟨some 21, _, _, _, _, _⟩ :: _) _ _); refine wpList_index_tab (d := 21) _ _ _ rfl 25 Try.underlying23 5 rfl _ _ _ _ o (by rfl) HA.out 1 (by rfl) hlt ?_))
          go_region_held3 (fun _ : World => True) (first | trivial) ((first | (go_at_call 29; (with_reducible refine (c_sort (K 1).k _).mono ?_); rintro e w' ⟨rfl, rfl⟩)))
          all_goals
            go_wp2_with fail
            go_roundw
            case rel => exact ⟨2, by omega, by go_num, Lib.hid (fun i k' p' hi hk' hp' => by
              by_cases e : i = 1
              · subst e
                obtain rfl := Option.some.inj (hk'.symm.trans HKX.out)
                obtain rfl : p' = exK := (Option.some.inj hp').symm
                exact HQ.out
              · exact HN.out i k' p' (by omega) hk' hp'), HKR.out.drew⟩
            case measure => simp [intOf]
      · have hv := Lib.hid (areB_yes (ks := ks) (ps := [tyK, exK]) (by rw [HL.out.len]; rfl) (fun i k' p' hk' hp' => HN.out i k' p' (by have := (List.getElem?_eq_some_iff.1 hk').1; have := HL.out.len; omega) hk' hp'))
        go_wp2_with fail
        go_ret
        exact ⟨ret_boolA hv.out.symm, hkr⟩
  · rw [areB_len (by rw [HL.out.len]; exact hll)]
    have q1 : ((ll : Int) != 2) = true := bne_iff_ne.2 (by omega)
    have q2 : ((ll : Int) == 2) = false := beq_eq_false_iff_ne.2 (by omega)
    go_enter Try.func48, Try.ntmps48
    go_wp2_with fail
    go_ret
    exact ⟨rfl, Kp.refl w⟩
set_option maxHeartbeats 6400000 in
set_option maxRecDepth 100000 in
theorem list_eeb (w : World) (ks : List Int) (la : Option Addr) (ll lc : Nat) (K : Nat → Hn) (hL : ListAt w ks la ll lc K) :
    Calls Try.prog 48 #[.slice la ll lc, .string ⟨#[101, 101, 98]⟩] w fun e w' => e = .returned (.bool (areB ks [exK, exK, (inK [20])])) ∧ Kp w w' := by
  have HL := Lib.hid hL
  have hbl := hL.bl
  clear hL
  by_cases hll : ll = 3
  · subst hll
    go_enter Try.func48, Try.ntmps48
    go_wp2_with fail
    go_loopw [5] (fun i wr => ∃ n : Nat, n ≤ 3 ∧ i = .int .i64 n ∧ Hid (∀ (i : Nat) (k : Int) (p : Int → Bool), i < n → ks[i]? = some k → ([exK, exK, (inK [20])] : List (Int → Bool))[i]? = some p → p k = true) ∧ Kp w wr) (fun i _ => 3 - (intOf i).toNat)
    case atStart => exact ⟨0, by omega, rfl, Lib.hid (fun i _ _ hi => absurd hi (by omega)), Kp.refl _⟩
    case round =>
      obtain ⟨n, hn, rfl, HN, hkr⟩ := hrel
      have HKR := Lib.hid hkr
      have hcase : n = 0 ∨ n = 1 ∨ n = 2 ∨ n = 3 := by omega
      rcases hcase with rfl | rfl | rfl | rfl
      · obtain ⟨b, o, ha, hr⟩ := HL.out.tl.at (by omega)
        have HA := Lib.hid ha
        have HKX := Lib.hid (HL.out.at_ 0 (by omega))
        have g0 := (node_at (hkr.range (hr 0 (by omega)))).1
        have g1 : wr.cell? ⟨b, o, none⟩ = some (.int .i64 (K 0).k) := g0
        have hlt : 0 < 3 := by omega
        clear ha hr
        have hb : ∀ h, ((((⟨#[101, 101, 98]⟩ : ByteArray)[0]'h).toNat : Nat) : Int) = 101 := fun _ => rfl
        cases hq : exK (K 0).k with
        | false =>
          have hv := Lib.hid (areB_no (ks := ks) (ps := [exK, exK, (inK [20])]) (i := 0) HKX.out rfl hq)
          have e1 : (sortL (K 0).k == 101) = false := (by rw [sort_e]; exact hq)
          clear hq
          go_wp2_with (first | ((with_reducible show wpList _ _ _ (⟨some 21, _, _, _, _, _⟩ :: _) _ _); refine wpList_index_tab (d := 21) _ _ _ rfl 25 Try.underlying23 5 rfl _ _ _ _ o (by rfl) HA.out 0 (by rfl) hlt ?_))
          go_region_held3 (fun _ : World => True) (first | trivial) ((first | (go_at_call 29; (with_reducible refine (c_sort (K 0).k _).mono ?_); rintro e w' ⟨rfl, rfl⟩)))
          all_goals (go_wp2_with fail; go_ret; exact ⟨ret_boolA hv.out.symm, HKR.out.drew⟩)
        | true =>
          have HQ := Lib.hid hq
          have e1 : (sortL (K 0).k == 101) = true := (by rw [sort_e]; exact hq)
          clear hq
          go_wp2_with (first | ((with_reducible show wpList _ _ _ (⟨some 21, _, _, _, _, _⟩ :: _) _ _); refine wpList_index_tab (d := 21) _ _ _ rfl 25 Try.underlying23 5 rfl _ _ _ _ o (by rfl) HA.out 0 (by rfl) hlt ?_))
          go_region_held3 (fun _ : World => True) (first | trivial) ((first | (go_at_call 29; (with_reducible refine (c_sort (K 0).k _).mono ?_); rintro e w' ⟨rfl, rfl⟩)))
          all_goals
            go_wp2_with fail
            go_roundw
            case rel => exact ⟨1, by omega, by go_num, Lib.hid (fun i k' p' hi hk' hp' => by
              by_cases e : i = 0
              · subst e
                obtain rfl := Option.some.inj (hk'.symm.trans HKX.out)
                obtain rfl : p' = exK := (Option.some.inj hp').symm
                exact HQ.out
              · exact HN.out i k' p' (by omega) hk' hp'), HKR.out.drew⟩
            case measure => simp [intOf]
      · obtain ⟨b, o, ha, hr⟩ := HL.out.tl.at (by omega)
        have HA := Lib.hid ha
        have HKX := Lib.hid (HL.out.at_ 1 (by omega))
        have g0 := (node_at (hkr.range (hr 1 (by omega)))).1
        have g1 : wr.cell? ⟨b, o + 5, none⟩ = some (.int .i64 (K 1).k) := g0
        have hlt : 1 < 3 := by omega
        clear ha hr
        have hb : ∀ h, ((((⟨#[101, 101, 98]⟩ : ByteArray)[1]'h).toNat : Nat) : Int) = 101 := fun _ => rfl
        cases hq : exK (K 1).k with
        | false =>
          have hv := Lib.hid (areB_no (ks := ks) (ps := [exK, exK, (inK [20])]) (i := 1) HKX.out rfl hq)
          have e1 : (sortL (K 1).k == 101) = false := (by rw [sort_e]; exact hq)
          clear hq
          go_wp2_with (first | ((with_reducible show wpList _ _ _ (⟨some 21, _, _, _, _, _⟩ :: _) _ _); refine wpList_index_tab (d := 21) _ _ _ rfl 25 Try.underlying23 5 rfl _ _ _ _ o (by rfl) HA.out 1 (by rfl) hlt ?_))
          go_region_held3 (fun _ : World => True) (first | trivial) ((first | (go_at_call 29; (with_reducible refine (c_sort (K 1).k _).mono ?_); rintro e w' ⟨rfl, rfl⟩)))
          all_goals (go_wp2_with fail; go_ret; exact ⟨ret_boolA hv.out.symm, HKR.out.drew⟩)
        | true =>
          have HQ := Lib.hid hq
          have e1 : (sortL (K 1).k == 101) = true := (by rw [sort_e]; exact hq)
          clear hq
          go_wp2_with (first | ((with_reducible show wpList _ _ _ (⟨some 21, _, _, _, _, _⟩ :: _) _ _); refine wpList_index_tab (d := 21) _ _ _ rfl 25 Try.underlying23 5 rfl _ _ _ _ o (by rfl) HA.out 1 (by rfl) hlt ?_))
          go_region_held3 (fun _ : World => True) (first | trivial) ((first | (go_at_call 29; (with_reducible refine (c_sort (K 1).k _).mono ?_); rintro e w' ⟨rfl, rfl⟩)))
          all_goals
            go_wp2_with fail
            go_roundw
            case rel => exact ⟨2, by omega, by go_num, Lib.hid (fun i k' p' hi hk' hp' => by
              by_cases e : i = 1
              · subst e
                obtain rfl := Option.some.inj (hk'.symm.trans HKX.out)
                obtain rfl : p' = exK := (Option.some.inj hp').symm
                exact HQ.out
              · exact HN.out i k' p' (by omega) hk' hp'), HKR.out.drew⟩
            case measure => simp [intOf]
      · obtain ⟨b, o, ha, hr⟩ := HL.out.tl.at (by omega)
        have HA := Lib.hid ha
        have HKX := Lib.hid (HL.out.at_ 2 (by omega))
        have g0 := (node_at (hkr.range (hr 2 (by omega)))).1
        have g1 : wr.cell? ⟨b, o + 10, none⟩ = some (.int .i64 (K 2).k) := g0
        have hlt : 2 < 3 := by omega
        clear ha hr
        have hb : ∀ h, ((((⟨#[101, 101, 98]⟩ : ByteArray)[2]'h).toNat : Nat) : Int) = 98 := fun _ => rfl
        cases hq : (inK [20]) (K 2).k with
        | false =>
          have hv := Lib.hid (areB_no (ks := ks) (ps := [exK, exK, (inK [20])]) (i := 2) HKX.out rfl hq)
          have e1 : ((K 2).k == 20) = false := (by rw [← in_one]; exact hq)
          clear hq
          go_wp2_with (first | ((with_reducible show wpList _ _ _ (⟨some 21, _, _, _, _, _⟩ :: _) _ _); refine wpList_index_tab (d := 21) _ _ _ rfl 25 Try.underlying23 5 rfl _ _ _ _ o (by rfl) HA.out 2 (by rfl) hlt ?_))
          go_region_held3 (fun _ : World => True) (first | trivial) ((first | (go_at_call 29; (with_reducible refine (c_sort (K 2).k _).mono ?_); rintro e w' ⟨rfl, rfl⟩)))
          all_goals (go_wp2_with fail; go_ret; exact ⟨ret_boolA hv.out.symm, HKR.out.drew⟩)
        | true =>
          have HQ := Lib.hid hq
          have e1 : ((K 2).k == 20) = true := (by rw [← in_one]; exact hq)
          clear hq
          go_wp2_with (first | ((with_reducible show wpList _ _ _ (⟨some 21, _, _, _, _, _⟩ :: _) _ _); refine wpList_index_tab (d := 21) _ _ _ rfl 25 Try.underlying23 5 rfl _ _ _ _ o (by rfl) HA.out 2 (by rfl) hlt ?_))
          go_region_held3 (fun _ : World => True) (first | trivial) ((first | (go_at_call 29; (with_reducible refine (c_sort (K 2).k _).mono ?_); rintro e w' ⟨rfl, rfl⟩)))
          all_goals
            go_wp2_with fail
            go_roundw
            case rel => exact ⟨3, by omega, by go_num, Lib.hid (fun i k' p' hi hk' hp' => by
              by_cases e : i = 2
              · subst e
                obtain rfl := Option.some.inj (hk'.symm.trans HKX.out)
                obtain rfl : p' = (inK [20]) := (Option.some.inj hp').symm
                exact HQ.out
              · exact HN.out i k' p' (by omega) hk' hp'), HKR.out.drew⟩
            case measure => simp [intOf]
      · have hv := Lib.hid (areB_yes (ks := ks) (ps := [exK, exK, (inK [20])]) (by rw [HL.out.len]; rfl) (fun i k' p' hk' hp' => HN.out i k' p' (by have := (List.getElem?_eq_some_iff.1 hk').1; have := HL.out.len; omega) hk' hp'))
        go_wp2_with fail
        go_ret
        exact ⟨ret_boolA hv.out.symm, hkr⟩
  · rw [areB_len (by rw [HL.out.len]; exact hll)]
    have q1 : ((ll : Int) != 3) = true := bne_iff_ne.2 (by omega)
    have q2 : ((ll : Int) == 3) = false := beq_eq_false_iff_ne.2 (by omega)
    go_enter Try.func48, Try.ntmps48
    go_wp2_with fail
    go_ret
    exact ⟨rfl, Kp.refl w⟩
set_option maxHeartbeats 6400000 in
set_option maxRecDepth 100000 in
theorem list_b (w : World) (ks : List Int) (la : Option Addr) (ll lc : Nat) (K : Nat → Hn) (hL : ListAt w ks la ll lc K) :
    Calls Try.prog 48 #[.slice la ll lc, .string ⟨#[98]⟩] w fun e w' => e = .returned (.bool (areB ks [(inK [20])])) ∧ Kp w w' := by
  have HL := Lib.hid hL
  have hbl := hL.bl
  clear hL
  by_cases hll : ll = 1
  · subst hll
    go_enter Try.func48, Try.ntmps48
    go_wp2_with fail
    go_loopw [5] (fun i wr => ∃ n : Nat, n ≤ 1 ∧ i = .int .i64 n ∧ Hid (∀ (i : Nat) (k : Int) (p : Int → Bool), i < n → ks[i]? = some k → ([(inK [20])] : List (Int → Bool))[i]? = some p → p k = true) ∧ Kp w wr) (fun i _ => 1 - (intOf i).toNat)
    case atStart => exact ⟨0, by omega, rfl, Lib.hid (fun i _ _ hi => absurd hi (by omega)), Kp.refl _⟩
    case round =>
      obtain ⟨n, hn, rfl, HN, hkr⟩ := hrel
      have HKR := Lib.hid hkr
      have hcase : n = 0 ∨ n = 1 := by omega
      rcases hcase with rfl | rfl
      · obtain ⟨b, o, ha, hr⟩ := HL.out.tl.at (by omega)
        have HA := Lib.hid ha
        have HKX := Lib.hid (HL.out.at_ 0 (by omega))
        have g0 := (node_at (hkr.range (hr 0 (by omega)))).1
        have g1 : wr.cell? ⟨b, o, none⟩ = some (.int .i64 (K 0).k) := g0
        have hlt : 0 < 1 := by omega
        clear ha hr
        have hb : ∀ h, ((((⟨#[98]⟩ : ByteArray)[0]'h).toNat : Nat) : Int) = 98 := fun _ => rfl
        cases hq : (inK [20]) (K 0).k with
        | false =>
          have hv := Lib.hid (areB_no (ks := ks) (ps := [(inK [20])]) (i := 0) HKX.out rfl hq)
          have e1 : ((K 0).k == 20) = false := (by rw [← in_one]; exact hq)
          clear hq
          go_wp2_with (first | ((with_reducible show wpList _ _ _ (⟨some 21, _, _, _, _, _⟩ :: _) _ _); refine wpList_index_tab (d := 21) _ _ _ rfl 25 Try.underlying23 5 rfl _ _ _ _ o (by rfl) HA.out 0 (by rfl) hlt ?_))
          go_region_held3 (fun _ : World => True) (first | trivial) ((first | (go_at_call 29; (with_reducible refine (c_sort (K 0).k _).mono ?_); rintro e w' ⟨rfl, rfl⟩)))
          all_goals (go_wp2_with fail; go_ret; exact ⟨ret_boolA hv.out.symm, HKR.out.drew⟩)
        | true =>
          have HQ := Lib.hid hq
          have e1 : ((K 0).k == 20) = true := (by rw [← in_one]; exact hq)
          clear hq
          go_wp2_with (first | ((with_reducible show wpList _ _ _ (⟨some 21, _, _, _, _, _⟩ :: _) _ _); refine wpList_index_tab (d := 21) _ _ _ rfl 25 Try.underlying23 5 rfl _ _ _ _ o (by rfl) HA.out 0 (by rfl) hlt ?_))
          go_region_held3 (fun _ : World => True) (first | trivial) ((first | (go_at_call 29; (with_reducible refine (c_sort (K 0).k _).mono ?_); rintro e w' ⟨rfl, rfl⟩)))
          all_goals
            go_wp2_with fail
            go_roundw
            case rel => exact ⟨1, by omega, by go_num, Lib.hid (fun i k' p' hi hk' hp' => by
              by_cases e : i = 0
              · subst e
                obtain rfl := Option.some.inj (hk'.symm.trans HKX.out)
                obtain rfl : p' = (inK [20]) := (Option.some.inj hp').symm
                exact HQ.out
              · exact HN.out i k' p' (by omega) hk' hp'), HKR.out.drew⟩
            case measure => simp [intOf]
      · have hv := Lib.hid (areB_yes (ks := ks) (ps := [(inK [20])]) (by rw [HL.out.len]; rfl) (fun i k' p' hk' hp' => HN.out i k' p' (by have := (List.getElem?_eq_some_iff.1 hk').1; have := HL.out.len; omega) hk' hp'))
        go_wp2_with fail
        go_ret
        exact ⟨ret_boolA hv.out.symm, hkr⟩
  · rw [areB_len (by rw [HL.out.len]; exact hll)]
    have q1 : ((ll : Int) != 1) = true := bne_iff_ne.2 (by omega)
    have q2 : ((ll : Int) == 1) = false := beq_eq_false_iff_ne.2 (by omega)
    go_enter Try.func48, Try.ntmps48
    go_wp2_with fail
    go_ret
    exact ⟨rfl, Kp.refl w⟩
end Go.Proofs.Ytefanekfelokmaa
