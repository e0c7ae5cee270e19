/- Whether a list has one node of each of some sorts, all of one, and so on: are, areAll, areFew, areArguments, defaults of package tree. Condition: the list lies in memory, and the sorts too. -/
import Derived.Test.YtgamenimbkafjaaF2
namespace Go.Proofs.Ytgamenimbkafjaa
open Go.RowKit
set_option linter.unusedVariables false
set_option linter.unusedSimpArgs false

def areB : List Int → List (Int → Bool) → Bool
  | [], [] => true
  | k :: ks, p :: ps => p k && areB ks ps
  | _, _ => false
theorem areB_len : ∀ {ks : List Int} {ps : List (Int → Bool)}, ks.length ≠ ps.length → areB ks ps = false
  | [], [], h => absurd rfl h
  | [], _ :: _, _ => rfl
  | _ :: _, [], _ => rfl
  | k :: ks, p :: ps, h => by
    rw [areB, areB_len (ks := ks) (ps := ps) (by simpa using h), Bool.and_false]
theorem areB_no : ∀ {ks : List Int} {ps : List (Int → Bool)} {i : Nat} {k : Int} {p : Int → Bool}, ks[i]? = some k → ps[i]? = some p → p k = false → areB ks ps = false
  | [], _, i, _, _, h, _, _ => by simp at h
  | _ :: _, [], _, _, _, _, h, _ => by simp at h
  | k :: ks, p :: ps, 0, k', p', h, g, hf => by
    simp at h g
    subst h
    subst g
    rw [areB, hf, Bool.false_and]
  | k :: ks, p :: ps, i + 1, k', p', h, g, hf => by
    rw [areB, areB_no (ks := ks) (ps := ps) (i := i) (by simpa using h) (by simpa using g) hf, Bool.and_false]
theorem areB_yes : ∀ {ks : List Int} {ps : List (Int → Bool)}, ks.length = ps.length → (∀ (i : Nat) (k : Int) (p : Int → Bool), ks[i]? = some k → ps[i]? = some p → p k = true) → areB ks ps = true
  | [], [], _, _ => rfl
  | [], _ :: _, h, _ => by simp at h
  | _ :: _, [], h, _ => by simp at h
  | k :: ks, p :: ps, h, g => by
    rw [areB, g 0 k p rfl rfl, areB_yes (ks := ks) (ps := ps) (by simpa using h) (fun i k' p' a b => g (i + 1) k' p' (by simpa using a) (by simpa using b))]
    rfl
/-- A list of nodes in memory, whose Kinds are ks. -/
structure ListAt (w : World) (ks : List Int) (la : Option Addr) (ll lc : Nat) (K : Nat → Hn) : Prop where
  tl : tab w A0 25 la ll lc 5 (fun i => (K i).cells)
  len : ks.length = ll
  at_ : ∀ i, i < ll → ks[i]? = some (K i).k
  bl : ll ≤ 4398046511104
theorem ListAt.keep {w w' : World} {ks : List Int} {la : Option Addr} {ll lc : Nat} {K : Nat → Hn} (h : ListAt w ks la ll lc K) (hk : Kp w w') : ListAt w' ks la ll lc K := { h with tl := h.tl.keep hk }
structure SortsAt (w : World) (ps : List (Int → Bool)) (sa : Option Addr) (sn sc : Nat) (F : Nat → Value) : Prop where
  tl : tab w A0 49 sa sn sc 1 (fun i => [F i])
  len : ps.length = sn
  at_ : ∀ i, i < sn → ∃ p, ps[i]? = some p ∧ SortAt w (F i) p
set_option maxHeartbeats 6400000 in
set_option maxRecDepth 100000 in
theorem c_are (w : World) (ks : List Int) (la : Option Addr) (ll lc : Nat) (K : Nat → Hn) (hL : ListAt w ks la ll lc K) (ps : List (Int → Bool)) (sa : Option Addr) (sn sc : Nat) (F : Nat → Value) (hS : SortsAt w ps sa sn sc F) :
    Calls Try.prog 58 #[.slice la ll lc, .slice sa sn sc] w fun e w' => e = .returned (.bool (areB ks ps)) ∧ Kp w w' := by
  have HL := Lib.hid hL
  have HS := Lib.hid hS
  have hbl := hL.bl
  clear hL hS
  by_cases hll : ll = sn
  · subst hll
    have q2 : ((ll : Int) != (ll : Int)) = false := by simp
    go_enter Try.func58, Try.ntmps58
    go_wp2_with fail
    go_loopw [14] (fun i wr => ∃ n : Nat, n ≤ ll ∧ i = .int .i64 n ∧ Hid (∀ (i : Nat) (k : Int) (p : Int → Bool), i < n → ks[i]? = some k → ps[i]? = some p → p k = true) ∧ Kp w wr) (fun i _ => ll - (intOf i).toNat)
    case atStart => exact ⟨0, by omega, rfl, Lib.hid (fun i _ _ hi => absurd hi (by omega)), Kp.refl _⟩
    case round =>
      obtain ⟨n, hn, rfl, HN, hkr⟩ := hrel
      have HKR := Lib.hid hkr
      by_cases hlt : n < ll
      · obtain ⟨b, o, ha, hr⟩ := HL.out.tl.at (by omega)
        obtain ⟨sb, so, hsa, hsr⟩ := HS.out.tl.at (by omega)
        have HA := Lib.hid ha
        have HSA := Lib.hid hsa
        have HKX := Lib.hid (HL.out.at_ n hlt)
        have HR := Lib.hid (hr n hlt)
        have g0 : wr.cell? ⟨sb, so + n, none⟩ = some (F n) := hkr.cellv (by simpa using hsr n hlt 0 _ rfl)
        obtain ⟨p, hp, hs⟩ := HS.out.at_ n hlt
        have HP := Lib.hid hp
        clear ha hsa hr hsr hp hkr
        rcases hs with ⟨hF, rfl⟩ | ⟨hF, rfl⟩ | ⟨hF, rfl⟩ | ⟨hF, rfl⟩ | ⟨pb, L, hF, ho, rfl⟩
        · rw [hF] at g0
          clear hF
          cases hq : tyK (K n).k with
          | false =>
            have hv := Lib.hid (areB_no (ks := ks) (ps := ps) (i := n) HKX.out HP.out hq)
            go_wp2_with (first | ((with_reducible show wpList _ _ _ (⟨some 17, _, _, _, _, _⟩ :: _) _ _); refine wpList_index_tab (d := 17) _ _ _ rfl 49 Try.underlying65 1 rfl _ _ _ _ so (by rfl) HSA.out n (by rfl) hlt ?_) | ((with_reducible show wpList _ _ _ (⟨some 22, _, _, _, _, _⟩ :: _) _ _); refine wpList_index_tab (d := 22) _ _ _ rfl 25 Try.underlying23 5 rfl _ _ _ _ o (by rfl) HA.out n (by rfl) hlt ?_) | ((with_reducible show wpList _ _ _ (⟨some 23, _, _, _, _, _⟩ :: _) _ _); refine wpList_load_nd (d := 23) _ _ rfl _ Try.underlying25 w _ _ b (o+n*5) (by rfl) rfl (by first | rfl | omega) (K n) HR.out HKR.out rfl ?_) | (go_at_call 34; (with_reducible refine (c_isType (K n) _).mono ?_); rintro e w6 ⟨rfl, hk6⟩; rw [hq]))
            go_ret
            exact ⟨ret_boolA hv.out.symm, HKR.out.trans hk6⟩
          | true =>
            go_wp2_with (first | ((with_reducible show wpList _ _ _ (⟨some 17, _, _, _, _, _⟩ :: _) _ _); refine wpList_index_tab (d := 17) _ _ _ rfl 49 Try.underlying65 1 rfl _ _ _ _ so (by rfl) HSA.out n (by rfl) hlt ?_) | ((with_reducible show wpList _ _ _ (⟨some 22, _, _, _, _, _⟩ :: _) _ _); refine wpList_index_tab (d := 22) _ _ _ rfl 25 Try.underlying23 5 rfl _ _ _ _ o (by rfl) HA.out n (by rfl) hlt ?_) | ((with_reducible show wpList _ _ _ (⟨some 23, _, _, _, _, _⟩ :: _) _ _); refine wpList_load_nd (d := 23) _ _ rfl _ Try.underlying25 w _ _ b (o+n*5) (by rfl) rfl (by first | rfl | omega) (K n) HR.out HKR.out rfl ?_) | (go_at_call 34; (with_reducible refine (c_isType (K n) _).mono ?_); rintro e w6 ⟨rfl, hk6⟩; rw [hq]))
            go_roundw
            case rel => exact ⟨n + 1, by omega, by go_num, Lib.hid (fun i k' p' hi hk' hp' => by
              by_cases e : i = n
              · subst e
                obtain rfl := Option.some.inj (hk'.symm.trans HKX.out)
                obtain rfl := Option.some.inj (hp'.symm.trans HP.out)
                exact hq
              · exact HN.out i k' p' (by omega) hk' hp'), HKR.out.trans hk6⟩
            case measure => simp [intOf]; omega
        
        · rw [hF] at g0
          clear hF
          cases hq : stK (K n).k with
          | false =>
            have hv := Lib.hid (areB_no (ks := ks) (ps := ps) (i := n) HKX.out HP.out hq)
            go_wp2_with (first | ((with_reducible show wpList _ _ _ (⟨some 17, _, _, _, _, _⟩ :: _) _ _); refine wpList_index_tab (d := 17) _ _ _ rfl 49 Try.underlying65 1 rfl _ _ _ _ so (by rfl) HSA.out n (by rfl) hlt ?_) | ((with_reducible show wpList _ _ _ (⟨some 22, _, _, _, _, _⟩ :: _) _ _); refine wpList_index_tab (d := 22) _ _ _ rfl 25 Try.underlying23 5 rfl _ _ _ _ o (by rfl) HA.out n (by rfl) hlt ?_) | ((with_reducible show wpList _ _ _ (⟨some 23, _, _, _, _, _⟩ :: _) _ _); refine wpList_load_nd (d := 23) _ _ rfl _ Try.underlying25 w _ _ b (o+n*5) (by rfl) rfl (by first | rfl | omega) (K n) HR.out HKR.out rfl ?_) | (go_at_call 32; (with_reducible refine (c_isStatement (K n) _).mono ?_); rintro e w6 ⟨rfl, hk6⟩; rw [hq]))
            go_ret
            exact ⟨ret_boolA hv.out.symm, HKR.out.trans hk6⟩
          | true =>
            go_wp2_with (first | ((with_reducible show wpList _ _ _ (⟨some 17, _, _, _, _, _⟩ :: _) _ _); refine wpList_index_tab (d := 17) _ _ _ rfl 49 Try.underlying65 1 rfl _ _ _ _ so (by rfl) HSA.out n (by rfl) hlt ?_) | ((with_reducible show wpList _ _ _ (⟨some 22, _, _, _, _, _⟩ :: _) _ _); refine wpList_index_tab (d := 22) _ _ _ rfl 25 Try.underlying23 5 rfl _ _ _ _ o (by rfl) HA.out n (by rfl) hlt ?_) | ((with_reducible show wpList _ _ _ (⟨some 23, _, _, _, _, _⟩ :: _) _ _); refine wpList_load_nd (d := 23) _ _ rfl _ Try.underlying25 w _ _ b (o+n*5) (by rfl) rfl (by first | rfl | omega) (K n) HR.out HKR.out rfl ?_) | (go_at_call 32; (with_reducible refine (c_isStatement (K n) _).mono ?_); rintro e w6 ⟨rfl, hk6⟩; rw [hq]))
            go_roundw
            case rel => exact ⟨n + 1, by omega, by go_num, Lib.hid (fun i k' p' hi hk' hp' => by
              by_cases e : i = n
              · subst e
                obtain rfl := Option.some.inj (hk'.symm.trans HKX.out)
                obtain rfl := Option.some.inj (hp'.symm.trans HP.out)
                exact hq
              · exact HN.out i k' p' (by omega) hk' hp'), HKR.out.trans hk6⟩
            case measure => simp [intOf]; omega
        
        · rw [hF] at g0
          clear hF
          cases hq : exK (K n).k with
          | false =>
            have hv := Lib.hid (areB_no (ks := ks) (ps := ps) (i := n) HKX.out HP.out hq)
            go_wp2_with (first | ((with_reducible show wpList _ _ _ (⟨some 17, _, _, _, _, _⟩ :: _) _ _); refine wpList_index_tab (d := 17) _ _ _ rfl 49 Try.underlying65 1 rfl _ _ _ _ so (by rfl) HSA.out n (by rfl) hlt ?_) | ((with_reducible show wpList _ _ _ (⟨some 22, _, _, _, _, _⟩ :: _) _ _); refine wpList_index_tab (d := 22) _ _ _ rfl 25 Try.underlying23 5 rfl _ _ _ _ o (by rfl) HA.out n (by rfl) hlt ?_) | ((with_reducible show wpList _ _ _ (⟨some 23, _, _, _, _, _⟩ :: _) _ _); refine wpList_load_nd (d := 23) _ _ rfl _ Try.underlying25 w _ _ b (o+n*5) (by rfl) rfl (by first | rfl | omega) (K n) HR.out HKR.out rfl ?_) | (go_at_call 33; (with_reducible refine (c_isExpression (K n) _).mono ?_); rintro e w6 ⟨rfl, hk6⟩; rw [hq]))
            go_ret
            exact ⟨ret_boolA hv.out.symm, HKR.out.trans hk6⟩
          | true =>
            go_wp2_with (first | ((with_reducible show wpList _ _ _ (⟨some 17, _, _, _, _, _⟩ :: _) _ _); refine wpList_index_tab (d := 17) _ _ _ rfl 49 Try.underlying65 1 rfl _ _ _ _ so (by rfl) HSA.out n (by rfl) hlt ?_) | ((with_reducible show wpList _ _ _ (⟨some 22, _, _, _, _, _⟩ :: _) _ _); refine wpList_index_tab (d := 22) _ _ _ rfl 25 Try.underlying23 5 rfl _ _ _ _ o (by rfl) HA.out n (by rfl) hlt ?_) | ((with_reducible show wpList _ _ _ (⟨some 23, _, _, _, _, _⟩ :: _) _ _); refine wpList_load_nd (d := 23) _ _ rfl _ Try.underlying25 w _ _ b (o+n*5) (by rfl) rfl (by first | rfl | omega) (K n) HR.out HKR.out rfl ?_) | (go_at_call 33; (with_reducible refine (c_isExpression (K n) _).mono ?_); rintro e w6 ⟨rfl, hk6⟩; rw [hq]))
            go_roundw
            case rel => exact ⟨n + 1, by omega, by go_num, Lib.hid (fun i k' p' hi hk' hp' => by
              by_cases e : i = n
              · subst e
                obtain rfl := Option.some.inj (hk'.symm.trans HKX.out)
                obtain rfl := Option.some.inj (hp'.symm.trans HP.out)
                exact hq
              · exact HN.out i k' p' (by omega) hk' hp'), HKR.out.trans hk6⟩
            case measure => simp [intOf]; omega
        
        · rw [hF] at g0
          clear hF
          cases hq : brK (K n).k with
          | false =>
            have hv := Lib.hid (areB_no (ks := ks) (ps := ps) (i := n) HKX.out HP.out hq)
            go_wp2_with (first | ((with_reducible show wpList _ _ _ (⟨some 17, _, _, _, _, _⟩ :: _) _ _); refine wpList_index_tab (d := 17) _ _ _ rfl 49 Try.underlying65 1 rfl _ _ _ _ so (by rfl) HSA.out n (by rfl) hlt ?_) | ((with_reducible show wpList _ _ _ (⟨some 22, _, _, _, _, _⟩ :: _) _ _); refine wpList_index_tab (d := 22) _ _ _ rfl 25 Try.underlying23 5 rfl _ _ _ _ o (by rfl) HA.out n (by rfl) hlt ?_) | ((with_reducible show wpList _ _ _ (⟨some 23, _, _, _, _, _⟩ :: _) _ _); refine wpList_load_nd (d := 23) _ _ rfl _ Try.underlying25 w _ _ b (o+n*5) (by rfl) rfl (by first | rfl | omega) (K n) HR.out HKR.out rfl ?_) | (go_at_call 65; (with_reducible refine (c_isInBrackets (K n) _).mono ?_); rintro e w6 ⟨rfl, hk6⟩; rw [hq]))
            go_ret
            exact ⟨ret_boolA hv.out.symm, HKR.out.trans hk6⟩
          | true =>
            go_wp2_with (first | ((with_reducible show wpList _ _ _ (⟨some 17, _, _, _, _, _⟩ :: _) _ _); refine wpList_index_tab (d := 17) _ _ _ rfl 49 Try.underlying65 1 rfl _ _ _ _ so (by rfl) HSA.out n (by rfl) hlt ?_) | ((with_reducible show wpList _ _ _ (⟨some 22, _, _, _, _, _⟩ :: _) _ _); refine wpList_index_tab (d := 22) _ _ _ rfl 25 Try.underlying23 5 rfl _ _ _ _ o (by rfl) HA.out n (by rfl) hlt ?_) | ((with_reducible show wpList _ _ _ (⟨some 23, _, _, _, _, _⟩ :: _) _ _); refine wpList_load_nd (d := 23) _ _ rfl _ Try.underlying25 w _ _ b (o+n*5) (by rfl) rfl (by first | rfl | omega) (K n) HR.out HKR.out rfl ?_) | (go_at_call 65; (with_reducible refine (c_isInBrackets (K n) _).mono ?_); rintro e w6 ⟨rfl, hk6⟩; rw [hq]))
            go_roundw
            case rel => exact ⟨n + 1, by omega, by go_num, Lib.hid (fun i k' p' hi hk' hp' => by
              by_cases e : i = n
              · subst e
                obtain rfl := Option.some.inj (hk'.symm.trans HKX.out)
                obtain rfl := Option.some.inj (hp'.symm.trans HP.out)
                exact hq
              · exact HN.out i k' p' (by omega) hk' hp'), HKR.out.trans hk6⟩
            case measure => simp [intOf]; omega
        
        · rw [hF] at g0
          clear hF
          have HO := Lib.hid ho
          clear ho
          cases hq : inK L (K n).k with
          | false =>
            have hv := Lib.hid (areB_no (ks := ks) (ps := ps) (i := n) HKX.out HP.out hq)
            go_wp2_with (first | ((with_reducible show wpList _ _ _ (⟨some 17, _, _, _, _, _⟩ :: _) _ _); refine wpList_index_tab (d := 17) _ _ _ rfl 49 Try.underlying65 1 rfl _ _ _ _ so (by rfl) HSA.out n (by rfl) hlt ?_) | ((with_reducible show wpList _ _ _ (⟨some 22, _, _, _, _, _⟩ :: _) _ _); refine wpList_index_tab (d := 22) _ _ _ rfl 25 Try.underlying23 5 rfl _ _ _ _ o (by rfl) HA.out n (by rfl) hlt ?_) | ((with_reducible show wpList _ _ _ (⟨some 23, _, _, _, _, _⟩ :: _) _ _); refine wpList_load_nd (d := 23) _ _ rfl _ Try.underlying25 w _ _ b (o+n*5) (by rfl) rfl (by first | rfl | omega) (K n) HR.out HKR.out rfl ?_) | (go_at_call 41; (with_reducible refine (c_of1 (K n) _ pb L (HO.out.keep HKR.out)).mono ?_); rintro e w6 ⟨rfl, hk6⟩; rw [hq]))
            go_ret
            exact ⟨ret_boolA hv.out.symm, HKR.out.trans hk6⟩
          | true =>
            go_wp2_with (first | ((with_reducible show wpList _ _ _ (⟨some 17, _, _, _, _, _⟩ :: _) _ _); refine wpList_index_tab (d := 17) _ _ _ rfl 49 Try.underlying65 1 rfl _ _ _ _ so (by rfl) HSA.out n (by rfl) hlt ?_) | ((with_reducible show wpList _ _ _ (⟨some 22, _, _, _, _, _⟩ :: _) _ _); refine wpList_index_tab (d := 22) _ _ _ rfl 25 Try.underlying23 5 rfl _ _ _ _ o (by rfl) HA.out n (by rfl) hlt ?_) | ((with_reducible show wpList _ _ _ (⟨some 23, _, _, _, _, _⟩ :: _) _ _); refine wpList_load_nd (d := 23) _ _ rfl _ Try.underlying25 w _ _ b (o+n*5) (by rfl) rfl (by first | rfl | omega) (K n) HR.out HKR.out rfl ?_) | (go_at_call 41; (with_reducible refine (c_of1 (K n) _ pb L (HO.out.keep HKR.out)).mono ?_); rintro e w6 ⟨rfl, hk6⟩; rw [hq]))
            go_roundw
            case rel => exact ⟨n + 1, by omega, by go_num, Lib.hid (fun i k' p' hi hk' hp' => by
              by_cases e : i = n
              · subst e
                obtain rfl := Option.some.inj (hk'.symm.trans HKX.out)
                obtain rfl := Option.some.inj (hp'.symm.trans HP.out)
                exact hq
              · exact HN.out i k' p' (by omega) hk' hp'), HKR.out.trans hk6⟩
            case measure => simp [intOf]; omega
      · obtain rfl : n = ll := by omega
        have hv := Lib.hid (areB_yes (ks := ks) (ps := ps) (by rw [HL.out.len, HS.out.len]) (fun i k' p' hk' hp' => HN.out i k' p' (by have := (List.getElem?_eq_some_iff.1 hk').1; have := HL.out.len; omega) hk' hp'))
        go_wp2_with fail
        go_ret
        exact ⟨ret_boolA hv.out.symm, hkr⟩
  · rw [areB_len (by rw [HL.out.len, HS.out.len]; exact hll)]
    have e5 : (ll : Int) ≠ (sn : Int) := by omega
    have q1 : ((ll : Int) == (sn : Int)) = false := beq_eq_false_iff_ne.2 e5
    have q2 : ((ll : Int) != (sn : Int)) = true := bne_iff_ne.2 e5
    go_enter Try.func58, Try.ntmps58
    go_wp2_with fail
    go_ret
    exact ⟨rfl, Kp.refl w⟩
def allB (ks : List Int) (p : Int → Bool) : Bool := ks.all p
theorem allB_no {ks : List Int} {p : Int → Bool} {i : Nat} {k : Int} (h : ks[i]? = some k) (hf : p k = false) : allB ks p = false := by
  unfold allB
  exact List.all_eq_false.2 ⟨k, List.mem_of_getElem? h, by rw [hf]; decide⟩
theorem allB_yes {ks : List Int} {p : Int → Bool} (h : ∀ (i : Nat) (k : Int), ks[i]? = some k → p k = true) : allB ks p = true := by
  unfold allB
  refine List.all_eq_true.2 fun k hk => ?_
  obtain ⟨i, hi⟩ := List.mem_iff_getElem?.1 hk
  exact h i k hi
set_option maxHeartbeats 6400000 in
set_option maxRecDepth 100000 in
theorem c_areAll (w : World) (ks : List Int) (la : Option Addr) (ll lc : Nat) (K : Nat → Hn) (hL : ListAt w ks la ll lc K) (F : Value) (p : Int → Bool) (hs : SortAt w F p) :
    Calls Try.prog 61 #[.slice la ll lc, F] w fun e w' => e = .returned (.bool (allB ks p)) ∧ Kp w w' := by
  have HL := Lib.hid hL
  have hbl := hL.bl
  clear hL
  rcases hs with ⟨hF, rfl⟩ | ⟨hF, rfl⟩ | ⟨hF, rfl⟩ | ⟨hF, rfl⟩ | ⟨pb, L, hF, ho, rfl⟩
  · rw [hF]
    clear hF
    go_enter Try.func61, Try.ntmps61
    go_wp2_with fail
    
    go_loopw [9] (fun i wr => ∃ n : Nat, n ≤ ll ∧ i = .int .i64 n ∧ Hid (∀ (i : Nat) (k : Int), i < n → ks[i]? = some k → (tyK) k = true) ∧ Kp w wr) (fun i _ => ll - (intOf i).toNat)
    case atStart => exact ⟨0, by omega, rfl, Lib.hid (fun i _ hi => absurd hi (by omega)), Kp.refl _⟩
    case round =>
      obtain ⟨n, hn, rfl, HN, hkr⟩ := hrel
      have HKR := Lib.hid hkr
      by_cases hlt : n < ll
      · obtain ⟨b, o, ha, hr⟩ := HL.out.tl.at (by omega)
        have HA := Lib.hid ha
        have HKX := Lib.hid (HL.out.at_ n hlt)
        have HR := Lib.hid (hr n hlt)
        clear ha hr hkr
        cases hq : tyK (K n).k with
        | false =>
          have hv := Lib.hid (allB_no (ks := ks) (i := n) HKX.out hq)
          go_wp2_with (first | ((with_reducible show wpList _ _ _ (⟨some 11, _, _, _, _, _⟩ :: _) _ _); refine wpList_index_tab (d := 11) _ _ _ rfl 25 Try.underlying23 5 rfl _ _ _ _ o (by rfl) HA.out n (by rfl) hlt ?_) | ((with_reducible show wpList _ _ _ (⟨some 12, _, _, _, _, _⟩ :: _) _ _); refine wpList_load_nd (d := 12) _ _ rfl _ Try.underlying25 w _ _ b (o+n*5) (by rfl) rfl (by first | rfl | omega) (K n) HR.out HKR.out rfl ?_) | (go_at_call 34; (with_reducible refine (c_isType (K n) _).mono ?_); rintro e w6 ⟨rfl, hk6⟩; rw [hq]))
          go_ret
          exact ⟨ret_boolA hv.out.symm, (HKR.out.trans ((Kp.refl wr).alloc _)).trans hk6⟩
        | true =>
          go_wp2_with (first | ((with_reducible show wpList _ _ _ (⟨some 11, _, _, _, _, _⟩ :: _) _ _); refine wpList_index_tab (d := 11) _ _ _ rfl 25 Try.underlying23 5 rfl _ _ _ _ o (by rfl) HA.out n (by rfl) hlt ?_) | ((with_reducible show wpList _ _ _ (⟨some 12, _, _, _, _, _⟩ :: _) _ _); refine wpList_load_nd (d := 12) _ _ rfl _ Try.underlying25 w _ _ b (o+n*5) (by rfl) rfl (by first | rfl | omega) (K n) HR.out HKR.out rfl ?_) | (go_at_call 34; (with_reducible refine (c_isType (K n) _).mono ?_); rintro e w6 ⟨rfl, hk6⟩; rw [hq]))
          go_roundw
          case rel => exact ⟨n + 1, by omega, by go_num, Lib.hid (fun i k' hi hk' => by
            by_cases e : i = n
            · subst e
              obtain rfl := Option.some.inj (hk'.symm.trans HKX.out)
              exact hq
            · exact HN.out i k' (by omega) hk'), (HKR.out.trans ((Kp.refl wr).alloc _)).trans hk6⟩
          case measure => simp [intOf]; omega
      · obtain rfl : n = ll := by omega
        have hv := Lib.hid (allB_yes (ks := ks) (p := tyK) (fun i k' hk' => HN.out i k' (by have := (List.getElem?_eq_some_iff.1 hk').1; have := HL.out.len; omega) hk'))
        go_wp2_with fail
        go_ret
        exact ⟨ret_boolA hv.out.symm, hkr⟩
  
  · rw [hF]
    clear hF
    go_enter Try.func61, Try.ntmps61
    go_wp2_with fail
    
    go_loopw [9] (fun i wr => ∃ n : Nat, n ≤ ll ∧ i = .int .i64 n ∧ Hid (∀ (i : Nat) (k : Int), i < n → ks[i]? = some k → (stK) k = true) ∧ Kp w wr) (fun i _ => ll - (intOf i).toNat)
    case atStart => exact ⟨0, by omega, rfl, Lib.hid (fun i _ hi => absurd hi (by omega)), Kp.refl _⟩
    case round =>
      obtain ⟨n, hn, rfl, HN, hkr⟩ := hrel
      have HKR := Lib.hid hkr
      by_cases hlt : n < ll
      · obtain ⟨b, o, ha, hr⟩ := HL.out.tl.at (by omega)
        have HA := Lib.hid ha
        have HKX := Lib.hid (HL.out.at_ n hlt)
        have HR := Lib.hid (hr n hlt)
        clear ha hr hkr
        cases hq : stK (K n).k with
        | false =>
          have hv := Lib.hid (allB_no (ks := ks) (i := n) HKX.out hq)
          go_wp2_with (first | ((with_reducible show wpList _ _ _ (⟨some 11, _, _, _, _, _⟩ :: _) _ _); refine wpList_index_tab (d := 11) _ _ _ rfl 25 Try.underlying23 5 rfl _ _ _ _ o (by rfl) HA.out n (by rfl) hlt ?_) | ((with_reducible show wpList _ _ _ (⟨some 12, _, _, _, _, _⟩ :: _) _ _); refine wpList_load_nd (d := 12) _ _ rfl _ Try.underlying25 w _ _ b (o+n*5) (by rfl) rfl (by first | rfl | omega) (K n) HR.out HKR.out rfl ?_) | (go_at_call 32; (with_reducible refine (c_isStatement (K n) _).mono ?_); rintro e w6 ⟨rfl, hk6⟩; rw [hq]))
          go_ret
          exact ⟨ret_boolA hv.out.symm, (HKR.out.trans ((Kp.refl wr).alloc _)).trans hk6⟩
        | true =>
          go_wp2_with (first | ((with_reducible show wpList _ _ _ (⟨some 11, _, _, _, _, _⟩ :: _) _ _); refine wpList_index_tab (d := 11) _ _ _ rfl 25 Try.underlying23 5 rfl _ _ _ _ o (by rfl) HA.out n (by rfl) hlt ?_) | ((with_reducible show wpList _ _ _ (⟨some 12, _, _, _, _, _⟩ :: _) _ _); refine wpList_load_nd (d := 12) _ _ rfl _ Try.underlying25 w _ _ b (o+n*5) (by rfl) rfl (by first | rfl | omega) (K n) HR.out HKR.out rfl ?_) | (go_at_call 32; (with_reducible refine (c_isStatement (K n) _).mono ?_); rintro e w6 ⟨rfl, hk6⟩; rw [hq]))
          go_roundw
          case rel => exact ⟨n + 1, by omega, by go_num, Lib.hid (fun i k' hi hk' => by
            by_cases e : i = n
            · subst e
              obtain rfl := Option.some.inj (hk'.symm.trans HKX.out)
              exact hq
            · exact HN.out i k' (by omega) hk'), (HKR.out.trans ((Kp.refl wr).alloc _)).trans hk6⟩
          case measure => simp [intOf]; omega
      · obtain rfl : n = ll := by omega
        have hv := Lib.hid (allB_yes (ks := ks) (p := stK) (fun i k' hk' => HN.out i k' (by have := (List.getElem?_eq_some_iff.1 hk').1; have := HL.out.len; omega) hk'))
        go_wp2_with fail
        go_ret
        exact ⟨ret_boolA hv.out.symm, hkr⟩
  
  · rw [hF]
    clear hF
    go_enter Try.func61, Try.ntmps61
    go_wp2_with fail
    
    go_loopw [9] (fun i wr => ∃ n : Nat, n ≤ ll ∧ i = .int .i64 n ∧ Hid (∀ (i : Nat) (k : Int), i < n → ks[i]? = some k → (exK) k = true) ∧ Kp w wr) (fun i _ => ll - (intOf i).toNat)
    case atStart => exact ⟨0, by omega, rfl, Lib.hid (fun i _ hi => absurd hi (by omega)), Kp.refl _⟩
    case round =>
      obtain ⟨n, hn, rfl, HN, hkr⟩ := hrel
      have HKR := Lib.hid hkr
      by_cases hlt : n < ll
      · obtain ⟨b, o, ha, hr⟩ := HL.out.tl.at (by omega)
        have HA := Lib.hid ha
        have HKX := Lib.hid (HL.out.at_ n hlt)
        have HR := Lib.hid (hr n hlt)
        clear ha hr hkr
        cases hq : exK (K n).k with
        | false =>
          have hv := Lib.hid (allB_no (ks := ks) (i := n) HKX.out hq)
          go_wp2_with (first | ((with_reducible show wpList _ _ _ (⟨some 11, _, _, _, _, _⟩ :: _) _ _); refine wpList_index_tab (d := 11) _ _ _ rfl 25 Try.underlying23 5 rfl _ _ _ _ o (by rfl) HA.out n (by rfl) hlt ?_) | ((with_reducible show wpList _ _ _ (⟨some 12, _, _, _, _, _⟩ :: _) _ _); refine wpList_load_nd (d := 12) _ _ rfl _ Try.underlying25 w _ _ b (o+n*5) (by rfl) rfl (by first | rfl | omega) (K n) HR.out HKR.out rfl ?_) | (go_at_call 33; (with_reducible refine (c_isExpression (K n) _).mono ?_); rintro e w6 ⟨rfl, hk6⟩; rw [hq]))
          go_ret
          exact ⟨ret_boolA hv.out.symm, (HKR.out.trans ((Kp.refl wr).alloc _)).trans hk6⟩
        | true =>
          go_wp2_with (first | ((with_reducible show wpList _ _ _ (⟨some 11, _, _, _, _, _⟩ :: _) _ _); refine wpList_index_tab (d := 11) _ _ _ rfl 25 Try.underlying23 5 rfl _ _ _ _ o (by rfl) HA.out n (by rfl) hlt ?_) | ((with_reducible show wpList _ _ _ (⟨some 12, _, _, _, _, _⟩ :: _) _ _); refine wpList_load_nd (d := 12) _ _ rfl _ Try.underlying25 w _ _ b (o+n*5) (by rfl) rfl (by first | rfl | omega) (K n) HR.out HKR.out rfl ?_) | (go_at_call 33; (with_reducible refine (c_isExpression (K n) _).mono ?_); rintro e w6 ⟨rfl, hk6⟩; rw [hq]))
          go_roundw
          case rel => exact ⟨n + 1, by omega, by go_num, Lib.hid (fun i k' hi hk' => by
            by_cases e : i = n
            · subst e
              obtain rfl := Option.some.inj (hk'.symm.trans HKX.out)
              exact hq
            · exact HN.out i k' (by omega) hk'), (HKR.out.trans ((Kp.refl wr).alloc _)).trans hk6⟩
          case measure => simp [intOf]; omega
      · obtain rfl : n = ll := by omega
        have hv := Lib.hid (allB_yes (ks := ks) (p := exK) (fun i k' hk' => HN.out i k' (by have := (List.getElem?_eq_some_iff.1 hk').1; have := HL.out.len; omega) hk'))
        go_wp2_with fail
        go_ret
        exact ⟨ret_boolA hv.out.symm, hkr⟩
  
  · rw [hF]
    clear hF
    go_enter Try.func61, Try.ntmps61
    go_wp2_with fail
    
    go_loopw [9] (fun i wr => ∃ n : Nat, n ≤ ll ∧ i = .int .i64 n ∧ Hid (∀ (i : Nat) (k : Int), i < n → ks[i]? = some k → (brK) k = true) ∧ Kp w wr) (fun i _ => ll - (intOf i).toNat)
    case atStart => exact ⟨0, by omega, rfl, Lib.hid (fun i _ hi => absurd hi (by omega)), Kp.refl _⟩
    case round =>
      obtain ⟨n, hn, rfl, HN, hkr⟩ := hrel
      have HKR := Lib.hid hkr
      by_cases hlt : n < ll
      · obtain ⟨b, o, ha, hr⟩ := HL.out.tl.at (by omega)
        have HA := Lib.hid ha
        have HKX := Lib.hid (HL.out.at_ n hlt)
        have HR := Lib.hid (hr n hlt)
        clear ha hr hkr
        cases hq : brK (K n).k with
        | false =>
          have hv := Lib.hid (allB_no (ks := ks) (i := n) HKX.out hq)
          go_wp2_with (first | ((with_reducible show wpList _ _ _ (⟨some 11, _, _, _, _, _⟩ :: _) _ _); refine wpList_index_tab (d := 11) _ _ _ rfl 25 Try.underlying23 5 rfl _ _ _ _ o (by rfl) HA.out n (by rfl) hlt ?_) | ((with_reducible show wpList _ _ _ (⟨some 12, _, _, _, _, _⟩ :: _) _ _); refine wpList_load_nd (d := 12) _ _ rfl _ Try.underlying25 w _ _ b (o+n*5) (by rfl) rfl (by first | rfl | omega) (K n) HR.out HKR.out rfl ?_) | (go_at_call 65; (with_reducible refine (c_isInBrackets (K n) _).mono ?_); rintro e w6 ⟨rfl, hk6⟩; rw [hq]))
          go_ret
          exact ⟨ret_boolA hv.out.symm, (HKR.out.trans ((Kp.refl wr).alloc _)).trans hk6⟩
        | true =>
          go_wp2_with (first | ((with_reducible show wpList _ _ _ (⟨some 11, _, _, _, _, _⟩ :: _) _ _); refine wpList_index_tab (d := 11) _ _ _ rfl 25 Try.underlying23 5 rfl _ _ _ _ o (by rfl) HA.out n (by rfl) hlt ?_) | ((with_reducible show wpList _ _ _ (⟨some 12, _, _, _, _, _⟩ :: _) _ _); refine wpList_load_nd (d := 12) _ _ rfl _ Try.underlying25 w _ _ b (o+n*5) (by rfl) rfl (by first | rfl | omega) (K n) HR.out HKR.out rfl ?_) | (go_at_call 65; (with_reducible refine (c_isInBrackets (K n) _).mono ?_); rintro e w6 ⟨rfl, hk6⟩; rw [hq]))
          go_roundw
          case rel => exact ⟨n + 1, by omega, by go_num, Lib.hid (fun i k' hi hk' => by
            by_cases e : i = n
            · subst e
              obtain rfl := Option.some.inj (hk'.symm.trans HKX.out)
              exact hq
            · exact HN.out i k' (by omega) hk'), (HKR.out.trans ((Kp.refl wr).alloc _)).trans hk6⟩
          case measure => simp [intOf]; omega
      · obtain rfl : n = ll := by omega
        have hv := Lib.hid (allB_yes (ks := ks) (p := brK) (fun i k' hk' => HN.out i k' (by have := (List.getElem?_eq_some_iff.1 hk').1; have := HL.out.len; omega) hk'))
        go_wp2_with fail
        go_ret
        exact ⟨ret_boolA hv.out.symm, hkr⟩
  
  · rw [hF]
    clear hF
    have HO := Lib.hid ho
    clear ho
    go_enter Try.func61, Try.ntmps61
    go_wp2_with fail
    
    go_loopw [9] (fun i wr => ∃ n : Nat, n ≤ ll ∧ i = .int .i64 n ∧ Hid (∀ (i : Nat) (k : Int), i < n → ks[i]? = some k → (inK L) k = true) ∧ Kp w wr) (fun i _ => ll - (intOf i).toNat)
    case atStart => exact ⟨0, by omega, rfl, Lib.hid (fun i _ hi => absurd hi (by omega)), Kp.refl _⟩
    case round =>
      obtain ⟨n, hn, rfl, HN, hkr⟩ := hrel
      have HKR := Lib.hid hkr
      by_cases hlt : n < ll
      · obtain ⟨b, o, ha, hr⟩ := HL.out.tl.at (by omega)
        have HA := Lib.hid ha
        have HKX := Lib.hid (HL.out.at_ n hlt)
        have HR := Lib.hid (hr n hlt)
        clear ha hr hkr
        cases hq : inK L (K n).k with
        | false =>
          have hv := Lib.hid (allB_no (ks := ks) (i := n) HKX.out hq)
          go_wp2_with (first | ((with_reducible show wpList _ _ _ (⟨some 11, _, _, _, _, _⟩ :: _) _ _); refine wpList_index_tab (d := 11) _ _ _ rfl 25 Try.underlying23 5 rfl _ _ _ _ o (by rfl) HA.out n (by rfl) hlt ?_) | ((with_reducible show wpList _ _ _ (⟨some 12, _, _, _, _, _⟩ :: _) _ _); refine wpList_load_nd (d := 12) _ _ rfl _ Try.underlying25 w _ _ b (o+n*5) (by rfl) rfl (by first | rfl | omega) (K n) HR.out HKR.out rfl ?_) | (go_at_call 41; (with_reducible refine (c_of1 (K n) _ pb L (HO.out.keep (HKR.out.trans ((Kp.refl wr).alloc _)))).mono ?_); rintro e w6 ⟨rfl, hk6⟩; rw [hq]))
          go_ret
          exact ⟨ret_boolA hv.out.symm, (HKR.out.trans ((Kp.refl wr).alloc _)).trans hk6⟩
        | true =>
          go_wp2_with (first | ((with_reducible show wpList _ _ _ (⟨some 11, _, _, _, _, _⟩ :: _) _ _); refine wpList_index_tab (d := 11) _ _ _ rfl 25 Try.underlying23 5 rfl _ _ _ _ o (by rfl) HA.out n (by rfl) hlt ?_) | ((with_reducible show wpList _ _ _ (⟨some 12, _, _, _, _, _⟩ :: _) _ _); refine wpList_load_nd (d := 12) _ _ rfl _ Try.underlying25 w _ _ b (o+n*5) (by rfl) rfl (by first | rfl | omega) (K n) HR.out HKR.out rfl ?_) | (go_at_call 41; (with_reducible refine (c_of1 (K n) _ pb L (HO.out.keep (HKR.out.trans ((Kp.refl wr).alloc _)))).mono ?_); rintro e w6 ⟨rfl, hk6⟩; rw [hq]))
          go_roundw
          case rel => exact ⟨n + 1, by omega, by go_num, Lib.hid (fun i k' hi hk' => by
            by_cases e : i = n
            · subst e
              obtain rfl := Option.some.inj (hk'.symm.trans HKX.out)
              exact hq
            · exact HN.out i k' (by omega) hk'), (HKR.out.trans ((Kp.refl wr).alloc _)).trans hk6⟩
          case measure => simp [intOf]; omega
      · obtain rfl : n = ll := by omega
        have hv := Lib.hid (allB_yes (ks := ks) (p := inK L) (fun i k' hk' => HN.out i k' (by have := (List.getElem?_eq_some_iff.1 hk').1; have := HL.out.len; omega) hk'))
        go_wp2_with fail
        go_ret
        exact ⟨ret_boolA hv.out.symm, hkr⟩
end Go.Proofs.Ytgamenimbkafjaa
