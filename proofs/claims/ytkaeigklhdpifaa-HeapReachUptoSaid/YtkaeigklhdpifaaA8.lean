/- Collect; the cells of a new object; an allocation. Condition: the heap lies in memory. -/
import Derived.Test.YtkaeigklhdpifaaA7
namespace Go.Proofs.Ytkaeigklhdpifaa
open Go.RowKit Go.Maps Go.Sort
set_option linter.unusedVariables false
set_option linter.unusedSimpArgs false
set_option maxHeartbeats 1000000 in
set_option maxRecDepth 100000 in
theorem c_Collect {N : Nat → Prop} {p bud : Nat} {S : Hs} (l : List Int) (v : Value) (B : Sel) (w : World) (h : HP w N p bud S) (ok : Ok S bud) (hl : IL w B l v) :
    Calls Try.prog 23 #[.pointer (some ⟨p, 0, none⟩), v] w fun e w' => e = .returned (.tuple #[.int .i64 (colP S l).2.1, .int .i64 (colP S l).2.2]) ∧ HP w' N p bud (colP S l).1 ∧ Tr N w w' := by
  have HH := Lib.hid h
  have HK := Lib.hid ok
  have HL := Lib.hid hl
  clear h ok hl
  go_enter Try.func23, Try.ntmps23
  cases hk : knownR S l with
  | false =>
    have HN := Lib.hid hk
    clear hk
    go_wp2_with (go_at_call 38; (with_reducible refine (c_areRoots l v B w HH.out HK.out HL.out).mono ?_); rintro e w' ⟨rfl, rfl⟩; rw [HN.out])
    go_ret2
    have hr : colP S l = (S, 0, 15) := by unfold colP; rw [HN.out]; rfl
    rw [hr]
    exact ⟨rfl, HH.out, Tr.refl N _⟩
  | true =>
    have HN := Lib.hid hk
    clear hk
    go_wp2_with (first
      | (go_at_call 38; (with_reducible refine (c_areRoots l v B w HH.out HK.out HL.out).mono ?_); rintro e w' ⟨rfl, rfl⟩; rw [HN.out])
      | (go_at_call 40; (with_reducible refine (c_sweep l v B _ HH.out HK.out HL.out HN.out).mono ?_); rintro e w1 ⟨rfl, h1, h2⟩; have H1 := Lib.hid h1; have H2 := Lib.hid h2; clear h1 h2))
    go_ret2
    have hr : colP S l = (col S l, (S.length : Int) - (col S l).length, 0) := by unfold colP; rw [HN.out]; rfl
    rw [hr]
    exact ⟨rfl, H1.out, H2.out⟩
theorem c_CollectN (v : Value) (w : World) : Calls Try.prog 23 #[.pointer none, v] w fun e w' => e = .returned (.tuple #[.int .i64 0, .int .i64 2]) ∧ w' = w := by
  go_enter Try.func23, Try.ntmps23
  go_wp2_with fail
  go_ret2
  exact ⟨rfl, rfl⟩
theorem c_ReachN (v : Value) (w : World) : Calls Try.prog 26 #[.pointer none, v] w fun e w' => e = .returned (.tuple #[.slice none 0 0, .int .i64 2]) ∧ w' = w := by
  go_enter Try.func26, Try.ntmps26
  go_wp2_with fail
  go_ret2
  exact ⟨rfl, rfl⟩
theorem c_AllocN (a b : Value) (w : World) : Calls Try.prog 18 #[.pointer none, a, b] w fun e w' => e = .returned (.tuple #[.int .i64 0, .int .i64 2]) ∧ w' = w := by
  go_enter Try.func18, Try.ntmps18
  go_wp2_with fail
  go_ret2
  exact ⟨rfl, rfl⟩
theorem c_CopyN (w : World) : Calls Try.prog 13 #[.pointer none] w fun e w' => e = .returned (.pointer none) ∧ w' = w := by
  go_enter Try.func13, Try.ntmps13
  go_wp2_with fail
  go_ret
  exact ⟨rfl, rfl⟩
/-- The cells of a new object, k of which are told. -/
def fillC (refs : List Bool) (k : Nat) : List (Int × Bool) := (refs.take k).map (fun r => (0, r)) ++ List.replicate (refs.length - k) (0, false)
theorem fillC_len {refs : List Bool} {k : Nat} (h : k ≤ refs.length) : (fillC refs k).length = refs.length := by unfold fillC; simp; omega
theorem fillC_all (refs : List Bool) : fillC refs refs.length = refs.map fun r => (0, r) := by unfold fillC; simp
theorem fillC_at {refs : List Bool} {k : Nat} (hk : k ≤ refs.length) (j : Nat) : (fillC refs k)[j]? = if j < k then (refs[j]?).map (fun r => (0, r)) else if j < refs.length then some (0, false) else none := by
  unfold fillC
  have hl : ((refs.take k).map fun r => ((0 : Int), r)).length = k := by simp; omega
  by_cases h1 : j < k
  · rw [List.getElem?_append_left (by omega), List.getElem?_map, List.getElem?_take_of_lt h1, if_pos h1]
  · rw [List.getElem?_append_right (by omega), hl, List.getElem?_replicate, if_neg h1]
    by_cases h2 : j < refs.length
    · rw [if_pos (by omega), if_pos h2]
    · rw [if_neg (by omega), if_neg h2]
theorem fillC_next {refs : List Bool} {k : Nat} {r : Bool} (h : refs[k]? = some r) : (fillC refs k).modify k (fun c => (c.1, r)) = fillC refs (k + 1) := by
  have hk := (List.getElem?_eq_some_iff.1 h).1
  apply List.ext_getElem?
  intro j
  rw [List.getElem?_modify, fillC_at (by omega), fillC_at (by omega)]
  rcases Nat.lt_trichotomy j k with h1 | h1 | h1
  · rw [if_pos h1, if_pos (by omega)]
    cases refs[j]? with
    | none => rfl
    | some x => show some (if k = j then _ else _) = _; rw [if_neg (by omega)]; rfl
  · subst h1
    rw [if_neg (by omega), if_pos hk, if_pos (by omega), h]
    show some (if j = j then _ else _) = _
    rw [if_pos rfl]; rfl
  · rw [if_neg (show ¬ j < k by omega), if_neg (show ¬ j < k + 1 by omega)]
    by_cases h2 : j < refs.length
    · rw [if_pos h2]
      show some (if k = j then _ else _) = _
      rw [if_neg (by omega)]
    · rw [if_neg h2]; rfl
theorem cellsV_setB : ∀ (l : List (Int × Bool)) (i : Nat) (r : Bool), i < l.length → (cellsV l).set (i * 2 + 1) (.bool r) = cellsV (l.modify i fun c => (c.1, r))
  | [], i, r, h => by simp at h
  | d :: l, 0, r, h => by simp [cellsV]
  | d :: l, i + 1, r, h => by
    have := cellsV_setB l i r (by simpa using h)
    rw [show (i + 1) * 2 + 1 = (i * 2 + 1) + 1 + 1 by omega]
    simp [cellsV, this]
theorem CV.setB {w : World} {l : List (Int × Bool)} {v : Value} (h : CV w l v) {i g : Nat} (hi : i < l.length) (hg : v.ownBlock = some g) (r : Bool) : CV (w.setCell ⟨g, i * 2 + 1, none⟩ (.bool r)) (l.modify i fun c => (c.1, r)) v := by
  obtain ⟨hl, ⟨rfl, h0⟩ | ⟨gb, cap, cur, rfl, hB, hb, h1, h2, h3, h4⟩⟩ := h
  · cases hg
  · obtain rfl : gb = g := by simpa [Value.ownBlock] using hg
    have hs := heap_setCell_same w gb (i * 2 + 1) _ _ (.bool r) hb
    refine ⟨by rw [cellsV_len, List.length_modify], .inr ⟨gb, cap, _, by rw [List.length_modify], Nat.zero_le _, hs, by rw [List.length_modify]; exact h1, h2, by simpa using h3, ?_⟩⟩
    rw [List.length_modify, Array.toList_setIfInBounds, List.take_set, h4, cellsV_setB l i r hi]
theorem made_fill (refs : List Bool) : (madeCells (Value.agg #[.int .u64 0, .bool false]).cells (refs.length * 2)).toList = cellsV (fillC refs 0) := by
  apply List.ext_getElem?
  intro j
  have hl : (cellsV (fillC refs 0)).length = refs.length * 2 := by rw [cellsV_len, fillC_len (Nat.zero_le _)]
  by_cases hj : j < refs.length * 2
  · have hi : j / 2 < refs.length := by omega
    have h0 : (fillC refs 0)[j / 2]? = some (0, false) := by rw [fillC_at (Nat.zero_le _), if_neg (by omega), if_pos hi]
    obtain ⟨e1, e2⟩ := cellsV_at _ _ _ h0
    have hm : (madeCells (Value.agg #[.int .u64 0, .bool false]).cells (refs.length * 2)).toList[j]? = some ((Value.agg #[.int .u64 0, .bool false]).cells[j % 2]!) := by
      simp [madeCells, hj, Value.cells]
    rw [hm]
    rcases Nat.mod_two_eq_zero_or_one j with h2 | h2
    · rw [h2, show j = j / 2 * 2 by omega]; simpa [Value.cells] using e1.symm
    · rw [h2, show j = j / 2 * 2 + 1 by omega]; simpa [Value.cells] using e2.symm
  · rw [List.getElem?_eq_none (by simp [size_madeCells]; omega), List.getElem?_eq_none (by omega)]
set_option maxHeartbeats 1000000 in
set_option maxRecDepth 100000 in
theorem c_cellsOf (refs : List Bool) (v : Value) (B : Sel) (w : World) (hl : BoL w B refs v) (hn : refs.length ≤ 262146) :
    Calls Try.prog 42 #[v] w fun e w' => ∃ u, e = .returned u ∧ CV w' (refs.map fun r => (0, r)) u ∧ (∀ g, u.ownBlock = some g → w.heap.size ≤ g ∧ g < w'.heap.size) ∧ Kp w w' := by
  obtain ⟨ad, c, C, rfl, hlc, hby, hC, htab, hx⟩ := hl
  have HT := Lib.hid htab
  have HX := Lib.hid hx
  obtain ⟨iC, hIC, hC0, hC1, hC2⟩ := info_parts infoC
  clear htab hx hC
  go_enter Try.func42, Try.ntmps42
  go_wp2_with (first | (at_make; refine wpList_make_full _ rfl _ _ 72 rfl 0 75 iC _ 2 Try.underlying72 hIC hC0 hC1 _ _ _ _ refs.length (by rfl) (by rfl) rfl rfl (by rw [hC2]; omega) (by unfold maxLen; omega) (by omega) ?_; intro w1 ho hg; have HO := Lib.hid ho; have HG := Lib.hid hg; clear ho hg) | go_in)
  have hg0 : w.heap.size < w1.heap.size := by
    obtain ⟨cur, hc⟩ := own_cells HO.out rfl
    exact row_lt hc
  have hcv : CV w1 (fillC refs 0) (.slice (some ⟨w.heap.size, 0, none⟩) refs.length refs.length) := by
    have := HO.out
    rw [made_fill] at this
    unfold CV
    rw [fillC_len (Nat.zero_le _)]
    exact this
  have HCV := Lib.hid hcv
  have HK1 := Lib.hid ((Kp.refl w).grown HG.out (fun k e => by cases e))
  clear hcv HO
  go_loopw [11] (fun i wr => ∃ k : Nat, k ≤ refs.length ∧ i = .int .i64 (k : Int) ∧ CV wr (fillC refs k) (.slice (some ⟨w.heap.size, 0, none⟩) refs.length refs.length) ∧ Kp w wr) (fun i _ => refs.length - (intOf i).toNat)
  case atStart => exact ⟨0, by omega, rfl, HCV.out, HK1.out⟩
  case round =>
    obtain ⟨k, hk, rfl, hcv, hkp⟩ := hrel
    have HV := Lib.hid hcv
    have HKP := Lib.hid hkp
    clear hcv hkp
    by_cases hlt : k < refs.length
    · obtain ⟨r, hr⟩ : ∃ r, refs[k]? = some r := ⟨_, List.getElem?_eq_getElem hlt⟩
      obtain ⟨b, q, rfl, hrg⟩ := (HT.out.keep HKP.out).at (by omega)
      have hrk := hrg k hlt
      rw [HX.out k r hr] at hrk
      have e0 : wr.cell? ⟨b, q + k * 1, none⟩ = some (.bool r) := rangeAt_head hrk
      rw [Nat.mul_one] at e0
      have ez := lt_of_cell e0
      dsimp only at ez
      have HR := Lib.hid hr
      have hd : (fillC refs k)[k]? = some ((fillC refs k)[k]'(by rw [fillC_len hk]; exact hlt)) := List.getElem?_eq_getElem _
      obtain ⟨g0, cap0, hs0, d0, d1, df, dz, _⟩ := HV.out.at hd
      have hg0 : g0 = w.heap.size := by have := (Value.slice.inj hs0).1; simpa using this.symm
      subst hg0
      have d1f := df (k * 2 + 1)
      clear hrk hrg hr hs0 d0 df hd
      go_wp2_with (first
        | ((with_reducible show wpList _ _ _ (⟨some 14, _, _, _, _, _⟩ :: _) _ _); refine wpList_index_tab (d := 14) _ _ _ rfl 4 Try.underlying32 1 rfl _ _ _ _ q (by rfl) rfl k (by rfl) hlt ?_; rw [Nat.mul_one])
        | ((with_reducible show wpList _ _ _ (⟨some 19, _, _, _, _, _⟩ :: _) _ _); refine wpList_index_tab (d := 19) _ _ _ rfl 75 Try.underlying72 2 rfl _ _ _ _ 0 (by rfl) rfl k (by rfl) hlt ?_; rw [Nat.zero_add]))
      go_roundw
      case rel =>
        refine ⟨k + 1, by omega, by go_num, ?_, HKP.out.setCell (by simp) _⟩
        have := HV.out.setB (i := k) (g := w.heap.size) (by rw [fillC_len hk]; exact hlt) rfl r
        rw [fillC_next HR.out] at this
        exact this
      case measure => simp [intOf]; omega
    · have : k = refs.length := by omega
      subst this
      go_wp2_with fail
      go_ret
      refine ⟨_, rfl, by rw [← fillC_all]; exact HV.out, fun g hg => ?_, HKP.out⟩
      cases hg
      have := HKP.out.sz
      obtain ⟨cur, hc⟩ := own_cells HV.out rfl
      exact ⟨Nat.le_refl _, row_lt hc⟩
end Go.Proofs.Ytkaeigklhdpifaa
