/- What a type's head must be, in package types: areFields and isFormed. No condition. -/
import Derived.Test.YtfjflfokmihcpaaT4
import Derived.Test.YtfjflfokmihcpaaT5
namespace Go.Proofs.Ytfjflfokmihcpaa
open Go.RowKit
set_option linter.unusedVariables false
set_option linter.unusedSimpArgs false

theorem zeroI (w : World) : (zeroValue 3).run Try.prog w = .ok (.int .i64 0) w := by kernel_rfl
/-- The texts that were seen. -/
noncomputable def seenF (fn : List ByteArray) (n : Nat) (s : ByteArray) : Option Value := @ite _ (∃ i, i < n ∧ fnAt fn i = s) (Classical.propDecidable _) (some (.int .i64 1)) none
theorem seen_yes {fn : List ByteArray} {n : Nat} {s : ByteArray} {i : Nat} (hi : i < n) (h : fnAt fn i = s) : seenF fn n s = some (.int .i64 1) := by unfold seenF; exact if_pos ⟨i, hi, h⟩
theorem seen_no {fn : List ByteArray} {n : Nat} {s : ByteArray} (h : ∀ i, i < n → fnAt fn i ≠ s) : seenF fn n s = none := by unfold seenF; exact if_neg (fun ⟨i, hi, e⟩ => h i hi e)
theorem seen_succ {fn : List ByteArray} {n : Nat} : fput (seenF fn n) (fnAt fn n) (.int .i64 1) = seenF fn (n + 1) := by
  funext s
  by_cases hs : s = fnAt fn n
  · rw [hs, fput_same, seen_yes (Nat.lt_succ_self n) rfl]
  · rw [fput_other _ _ hs]
    by_cases h : ∃ i, i < n ∧ fnAt fn i = s
    · obtain ⟨i, hi, e⟩ := h
      rw [seen_yes hi e, seen_yes (Nat.lt_succ_of_lt hi) e]
    · rw [seen_no (fun i hi e => h ⟨i, hi, e⟩), seen_no (fun i hi e => ?_)]
      by_cases hin : i = n
      · subst hin; exact hs e.symm
      · exact h ⟨i, by omega, e⟩
theorem seen_none (fn : List ByteArray) : seenF fn 0 = fun _ => none := by
  funext s
  exact seen_no (fun i hi => absurd hi (by omega))
set_option maxHeartbeats 1600000 in
theorem c_areFields (T : Ty) (h : Hd) (K : Nat → Hd) (w : World) (t : Top w A0 T h K) :
    Calls Try.prog 55 #[.slice h.fa h.fl h.fc] w fun x w' => x = .returned (.bool (namesB T.fn && decide (h.fl ≤ 16))) ∧ Kp w w' := by
  by_cases h16 : h.fl ≤ 16
  · have hs := Lib.hid t
    have hns : Hid (∀ i, i < h.fl → (fnAt T.fn i).size ≤ 140737488351232) := Lib.hid (fun i hi => by
      have hf := t.ef
      unfold fnAt
      rw [List.getD_eq_getElem?_getD, List.getElem?_eq_getElem (by omega)]
      exact t.rns _ (List.getElem_mem _))
    clear t
    have hmm := @run_makeMap Try.prog
    go_enter Try.func55, Try.ntmps55
    go_wp2_with fail
    go_loopw [12] (fun i wr => ∃ n : Nat, n ≤ h.fl ∧ i = .int .i64 n ∧ NamesTo T.fn n ∧ MapIs wr Try.prog 9 w.heap.size n (seenF T.fn n) ∧ Kp w wr ∧ w.heap.size < wr.heap.size) (fun i _ => h.fl - (intOf i).toNat)
    case atStart => exact ⟨0, by omega, rfl, fun i hi => absurd hi (by omega), by rw [seen_none]; exact mapIs_made w _ _, (Kp.refl w).alloc _, by simp⟩
    case round =>
      obtain ⟨n, hn, rfl, hN, hM, hkr, hsz⟩ := hrel
      have HN := Lib.hid hN
      have HM := Lib.hid hM
      clear hN hM
      by_cases hlt : n < h.fl
      · obtain ⟨b, o, ha, hr⟩ := hs.out.tf.at (by omega)
        have HA := Lib.hid ha
        have HR := Lib.hid (hr n hlt)
        clear ha hr
        cases c2 : nmB (fnAt T.fn n) with
        | false =>
          go_wp2_with (first | ((with_reducible show wpList _ _ _ (⟨some 14, _, _, _, _, _⟩ :: _) _ _); refine wpList_index_tab (d := 14) _ _ _ rfl 52 Try.underlying40 7 rfl _ _ _ _ o (by rfl) HA.out n (by rfl) hlt ?_) | ((with_reducible show wpList _ _ _ (⟨some 15, _, _, _, _, _⟩ :: _) _ _); refine wpList_load_fd (d := 15) _ _ rfl _ Try.underlying52 w _ _ b (o + n * 7) (by rfl) rfl (by first | rfl | omega) (fnAt T.fn n) (K n) HR.out hkr rfl ?_) | (go_at_call 54; (with_reducible refine (c_isName _ _ (hns.out n hlt)).mono ?_); rintro e w' ⟨rfl, hkn⟩; have xc := hkn.cellv (p := ⟨wr.heap.size, 0, none⟩) (v := .string (fnAt T.fn n)) (by simp [go_sem]); rw [c2]))
          go_ret
          exact ⟨ret_bool (by rw [names_bad (by rw [hs.out.ef]; exact hlt) c2]; rfl), Kp.trans (hkr.alloc _) hkn⟩
        | true =>
          by_cases hD : Differ T.fn n n
          · have hf : Hid ((seenF T.fn n (fnAt T.fn n)).getD (.int .i64 0) = .int .i64 0) := Lib.hid (by rw [seen_no hD]; rfl)
            go_wp2_with (first | ((with_reducible show wpList _ _ _ (⟨some 14, _, _, _, _, _⟩ :: _) _ _); refine wpList_index_tab (d := 14) _ _ _ rfl 52 Try.underlying40 7 rfl _ _ _ _ o (by rfl) HA.out n (by rfl) hlt ?_) | ((with_reducible show wpList _ _ _ (⟨some 15, _, _, _, _, _⟩ :: _) _ _); refine wpList_load_fd (d := 15) _ _ rfl _ Try.underlying52 w _ _ b (o + n * 7) (by rfl) rfl (by first | rfl | omega) (fnAt T.fn n) (K n) HR.out hkr rfl ?_) | (go_at_call 54; (with_reducible refine (c_isName _ _ (hns.out n hlt)).mono ?_); rintro e w' ⟨rfl, hkn⟩; have xc := hkn.cellv (p := ⟨wr.heap.size, 0, none⟩) (v := .string (fnAt T.fn n)) (by simp [go_sem]); rw [c2]) | ((with_reducible show wpList _ _ _ (⟨some 24, _, _, _, _, _⟩ :: _) _ _); refine wpList_map_get (d := 24) _ _ 88 9 3 (by rfl) rfl Try.underlying9 Try.underlying88 _ (zeroI) _ n _ (by rfl) ((HM.out.alloc _).keep hkn) (fnAt T.fn n) (by rfl) (by have := hns.out n hlt; unfold maxLen; omega) _ hf.out ?_) | ((with_reducible show wpList _ _ _ (⟨some 30, _, _, _, _, _⟩ :: _) _ _); refine wpList_map_get (d := 30) _ _ 88 9 3 (by rfl) rfl Try.underlying9 Try.underlying88 _ (zeroI) _ n _ (by rfl) ((HM.out.alloc _).keep hkn) (fnAt T.fn n) (by rfl) (by have := hns.out n hlt; unfold maxLen; omega) _ hf.out ?_) | (at_mapUpdate; refine wpList_map_set _ _ _ 88 9 3 rfl Try.underlying9 Try.underlying88 _ n _ (by rfl) ((HM.out.alloc _).keep hkn) (by unfold maxLen; omega) (fnAt T.fn n) (by rfl) (by have := hns.out n hlt; unfold maxLen; omega) (.int .i64 1) (by rfl) ?_; intro w3 hM3 hg3))
            go_roundw
            case rel => exact ⟨n + 1, by omega, by go_num, names_succ HN.out c2 hD, seen_succ ▸ hM3, Kp.grown (Kp.trans (hkr.alloc _) hkn) hg3 (fun k hk => by cases hk; exact Nat.le_refl _), by have := (Kp.trans (hkr.alloc (.cells #[] 0)) (Kp.refl _)).sz; have h3 := hg3.size; have h4 := hkn.sz; simp at h4; omega⟩
            case measure => simp [intOf]; omega
          · have hD' : ∃ k, k < n ∧ fnAt T.fn k = fnAt T.fn n := by
              apply Classical.byContradiction
              intro hx
              exact hD (fun k hk e => hx ⟨k, hk, e⟩)
            obtain ⟨k, hk, e⟩ := hD'
            have hf : Hid ((seenF T.fn n (fnAt T.fn n)).getD (.int .i64 0) = .int .i64 1) := Lib.hid (by rw [seen_yes hk e]; rfl)
            have HE := Lib.hid e
            clear e
            go_wp2_with (first | ((with_reducible show wpList _ _ _ (⟨some 14, _, _, _, _, _⟩ :: _) _ _); refine wpList_index_tab (d := 14) _ _ _ rfl 52 Try.underlying40 7 rfl _ _ _ _ o (by rfl) HA.out n (by rfl) hlt ?_) | ((with_reducible show wpList _ _ _ (⟨some 15, _, _, _, _, _⟩ :: _) _ _); refine wpList_load_fd (d := 15) _ _ rfl _ Try.underlying52 w _ _ b (o + n * 7) (by rfl) rfl (by first | rfl | omega) (fnAt T.fn n) (K n) HR.out hkr rfl ?_) | (go_at_call 54; (with_reducible refine (c_isName _ _ (hns.out n hlt)).mono ?_); rintro e w' ⟨rfl, hkn⟩; have xc := hkn.cellv (p := ⟨wr.heap.size, 0, none⟩) (v := .string (fnAt T.fn n)) (by simp [go_sem]); rw [c2]) | ((with_reducible show wpList _ _ _ (⟨some 24, _, _, _, _, _⟩ :: _) _ _); refine wpList_map_get (d := 24) _ _ 88 9 3 (by rfl) rfl Try.underlying9 Try.underlying88 _ (zeroI) _ n _ (by rfl) ((HM.out.alloc _).keep hkn) (fnAt T.fn n) (by rfl) (by have := hns.out n hlt; unfold maxLen; omega) _ hf.out ?_))
            go_ret
            exact ⟨ret_bool (by rw [names_twice (by rw [hs.out.ef]; exact hlt) hk HE.out]; rfl), Kp.trans (hkr.alloc _) hkn⟩
      · obtain rfl : n = h.fl := by omega
        go_wp2_with fail
        go_ret
        exact ⟨ret_bool (by rw [namesB_yes (by rw [hs.out.ef]; exact HN.out), decide_eq_true h16]; rfl), hkr⟩
  · go_enter Try.func55, Try.ntmps55
    go_wp2_with fail
    go_ret
    exact ⟨ret_bool (by rw [decide_eq_false (by omega), Bool.and_false]), Kp.refl w⟩
end Go.Proofs.Ytfjflfokmihcpaa
