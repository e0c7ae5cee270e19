/- The reference's heap: where an object is, what all take, which roots are known, a cell. Condition: the heap lies in memory. -/
import Derived.Test.YtkaeigklhdpifaaA6
namespace Go.Proofs.Ytkaeigklhdpifaa
open Go.RowKit Go.Maps Go.Sort
set_option linter.unusedVariables false
set_option linter.unusedSimpArgs false
def atI (S : Hs) (k : Int) : Int := match S.findIdx? (fun o => o.nm == k) with
  | some i => i
  | none => -1
theorem atI_none {S : Hs} {k : Int} (h : ∀ o ∈ S, o.nm ≠ k) : atI S k = -1 := by
  unfold atI
  rw [List.findIdx?_eq_none_iff.2 (fun o ho => by simpa using h o ho)]
theorem atI_some {S : Hs} {k : Int} {i : Nat} {o : Ob} (hi : S[i]? = some o) (hk : o.nm = k) (h : ∀ j x, j < i → S[j]? = some x → x.nm ≠ k) : atI S k = i := by
  unfold atI
  have hl := (List.getElem?_eq_some_iff.1 hi).1
  have : S.findIdx? (fun o => o.nm == k) = some i := by
    rw [List.findIdx?_eq_some_iff_getElem]
    refine ⟨hl, ?_, fun j hj => ?_⟩
    · have := (List.getElem?_eq_some_iff.1 hi).2
      rw [this]; simpa using hk
    · have := h j _ hj (List.getElem?_eq_getElem (by omega))
      simpa using this
  rw [this]
/-- What At tells. -/
theorem atI_cases {S : Hs} {bud : Nat} (ok : Ok S bud) (k : Int) : (hasN S k = false ∧ atI S k = -1) ∨ (hasN S k = true ∧ ∃ (i : Nat) (o : Ob), S[i]? = some o ∧ o.nm = k ∧ atI S k = (i : Int) ∧ getN S k = some o) := by
  cases h : hasN S k with
  | false => exact .inl ⟨rfl, atI_none (hasN_false.1 h)⟩
  | true =>
    obtain ⟨o, ho, hk⟩ := hasN_iff.1 h
    obtain ⟨i, hi⟩ := List.mem_iff_getElem?.1 ho
    refine .inr ⟨rfl, i, o, hi, hk, atI_some hi hk (fun j x hj hx => ?_), by rw [← hk]; exact ok.get ho⟩
    have := up_lt ok.up hx hi hj
    omega
theorem NV.at {w : World} {e : TypeId} {l : List Value} {v : Value} (h : NV w e l v) {j : Nat} {u : Value} (hj : l[j]? = some u) : ∃ g cap, v = .slice (some ⟨g, 0, none⟩) l.length cap ∧ w.cell? ⟨g, j, none⟩ = some u ∧ w.frozen? ⟨g, j, none⟩ = false ∧ g < w.heap.size ∧ v.ownBlock = some g := by
  obtain ⟨hl, ⟨rfl, h0⟩ | ⟨g, cap, cur, rfl, hB, hg, h1, h2, h3, h4⟩⟩ := h
  · have := (List.getElem?_eq_some_iff.1 hj).1; omega
  · have hi := (List.getElem?_eq_some_iff.1 hj).1
    rw [Nat.mul_one] at h4
    refine ⟨g, cap, rfl, ?_, frozen_of_row _ _ j _ _ hg, row_lt hg, rfl⟩
    rw [cell_of_row w g _ cur _ (0, 0) hg, ← Array.getElem?_toList]
    rw [← h4, List.getElem?_take_of_lt hi] at hj
    exact hj
/-- The list of objects, and its rows. -/
theorem RP.list {w : World} {M : Nat → Prop} {q bud : Nat} {S : Hs} (h : RP w M q bud S) : ∃ a c cv rv, w.heap[q]? = some (.cells #[.slice a S.length c, .int .i64 (bud : Int)] 53 (0, 0)) ∧ S.length ≤ c ∧ (∀ g, (Value.slice a S.length c).ownBlock = some g → M g ∧ g ≠ q) ∧ w.ownsRow 0 50 3 (.slice a S.length c) S.length (flat (objC S cv rv) S.length) ∧ tab w (From 0) 50 a S.length c 3 (objC S cv rv) ∧ RO w M q S cv rv := by
  obtain ⟨nq, lt, v, cv, rv, h1, h2, h3, h4⟩ := h
  obtain ⟨a, c, rfl, hlc, ht, _⟩ := tab_of_owns h3 (fun i => objC_len S cv rv i)
  exact ⟨a, c, cv, rv, h1, hlc, h2, h3, ht, h4⟩
theorem tab.obj {w : World} {a : Option Addr} {c : Nat} {S : Hs} {cv rv : Int → Value} (h : tab w (From 0) 50 a S.length c 3 (objC S cv rv)) {i : Nat} {o : Ob} (hi : S[i]? = some o) : ∃ b z, a = some ⟨b, z, none⟩ ∧ w.cell? ⟨b, z + i * 3, none⟩ = some (.int .i64 o.nm) ∧ w.cell? ⟨b, z + i * 3 + 1, none⟩ = some (cv o.nm) ∧ w.cell? ⟨b, z + i * 3 + 2, none⟩ = some (rv o.nm) ∧ b < w.heap.size := by
  have hl := (List.getElem?_eq_some_iff.1 hi).1
  obtain ⟨b, z, ha, hr⟩ := h.at (by omega)
  have := hr i hl
  rw [objC_at hi] at this
  have e0 := this 0 _ rfl
  exact ⟨b, z, ha, e0, this 1 _ rfl, this 2 _ rfl, lt_of_cell e0⟩
set_option maxHeartbeats 1000000 in
set_option maxRecDepth 100000 in
theorem c_At {M : Nat → Prop} {q bud : Nat} {S : Hs} (k : Int) (w : World) (h : RP w M q bud S) (ok : Ok S bud) (hk : i64 k) :
    Calls Try.prog 20 #[.pointer (some ⟨q, 0, none⟩), .int .i64 k] w fun e w' => e = .returned (.int .i64 (atI S k)) ∧ w' = w := by
  have hqz := h.lt q h.nq
  obtain ⟨a, c, cv, rv, h1, hlc, _, _, ht, _⟩ := h.list
  obtain ⟨c0, c1⟩ := row2 h1
  have HT := Lib.hid ht
  have HK := Lib.hid ok
  have hSl := ok.len
  clear h h1 ht ok
  go_enter Try.func20, Try.ntmps20
  go_wp2_with fail
  go_loopw [5] (fun i wr => ∃ j : Nat, j ≤ S.length ∧ i = .int .i64 (j : Int) ∧ wr = w ∧ Hid (∀ m x, m < j → S[m]? = some x → x.nm ≠ k)) (fun i _ => S.length - (intOf i).toNat)
  case atStart => exact ⟨0, by omega, rfl, rfl, Lib.hid (fun m x hm => by omega)⟩
  case round =>
    obtain ⟨j, hj, rfl, hw, hno⟩ := hrel
    subst hw
    by_cases hlt : j < S.length
    · obtain ⟨o, ho⟩ : ∃ o, S[j]? = some o := ⟨_, List.getElem?_eq_getElem hlt⟩
      obtain ⟨b, z, rfl, e0, _, _, ez⟩ := HT.out.obj ho
      have HO := Lib.hid ho
      have hnm : i64 o.nm := by have := HK.out.pos o (List.mem_of_getElem? ho); unfold i64; omega
      clear ho
      by_cases he : o.nm = k
      · subst he
        go_wp2_with ((with_reducible show wpList _ _ _ (⟨some 20, _, _, _, _, _⟩ :: _) _ _); refine wpList_index_tab (d := 20) _ _ _ rfl 50 Try.underlying51 3 rfl _ _ _ _ z (by rfl) rfl j (by rfl) hlt ?_)
        go_ret
        exact ⟨by rw [atI_some HO.out rfl hno.out]; rfl, rfl⟩
      · have hne : (o.nm == k) = false := by simpa using he
        go_wp2_with ((with_reducible show wpList _ _ _ (⟨some 20, _, _, _, _, _⟩ :: _) _ _); refine wpList_index_tab (d := 20) _ _ _ rfl 50 Try.underlying51 3 rfl _ _ _ _ z (by rfl) rfl j (by rfl) hlt ?_)
        go_roundw
        case rel =>
          refine ⟨j + 1, by omega, by go_num, trivial, Lib.hid (fun m x hm hx => ?_)⟩
          by_cases e : m = j
          · subst e; rw [HO.out] at hx; cases hx; exact he
          · exact hno.out m x (by omega) hx
        case measure => simp [intOf]; omega
    · have : j = S.length := by omega
      subst this
      go_wp2_with fail
      go_ret
      refine ⟨?_, rfl⟩
      rw [atI_none (fun o ho => by obtain ⟨m, hm⟩ := List.mem_iff_getElem?.1 ho; exact hno.out m o (List.getElem?_eq_some_iff.1 hm).1 hm)]
      rfl
theorem used_step {S : Hs} {j : Nat} {o : Ob} (h : S[j]? = some o) : used (S.take (j + 1)) = used (S.take j) + 1 + o.cs.length := by
  rw [List.take_add_one, h, used_append]
  simp [used]; omega
theorem used_take_le (S : Hs) (j : Nat) : used (S.take j) ≤ used S := by have := used_take S j; omega
set_option maxHeartbeats 1000000 in
set_option maxRecDepth 100000 in
theorem c_rUsed {M : Nat → Prop} {q bud : Nat} {S : Hs} (w : World) (h : RP w M q bud S) (ok : Ok S bud) :
    Calls Try.prog 30 #[.pointer (some ⟨q, 0, none⟩)] w fun e w' => e = .returned (.int .i64 (used S : Int)) ∧ w' = w := by
  have hqz := h.lt q h.nq
  obtain ⟨a, c, cv, rv, h1, hlc, _, _, ht, hro⟩ := h.list
  obtain ⟨c0, c1⟩ := row2 h1
  have HT := Lib.hid ht
  have HK := Lib.hid ok
  have HR := Lib.hid hro
  have hSl := ok.len
  have hu : used S ≤ 65536 := by have := ok.fit; have := ok.bud; omega
  clear h h1 ht ok hro
  go_enter Try.func30, Try.ntmps30
  go_wp2_with fail
  go_loopw [3, 4] (fun n i wr => ∃ j : Nat, j ≤ S.length ∧ i = .int .i64 (j : Int) ∧ n = .int .i64 (used (S.take j) : Int) ∧ wr = w) (fun _ i _ => S.length - (intOf i).toNat)
  case atStart => exact ⟨0, by omega, rfl, by simp [used], rfl⟩
  case round =>
    obtain ⟨j, hj, rfl, rfl, hw⟩ := hrel
    subst hw
    by_cases hlt : j < S.length
    · obtain ⟨o, ho⟩ : ∃ o, S[j]? = some o := ⟨_, List.getElem?_eq_getElem hlt⟩
      obtain ⟨b, z, rfl, e0, e1, _, ez⟩ := HT.out.obj ho
      obtain ⟨ac, cc, hcv⟩ := (HR.out.ob o (List.mem_of_getElem? ho)).1.slice
      have hnl : (numsV o.cs).length = o.cs.length := by simp [numsV]
      rw [hnl] at hcv
      rw [hcv] at e1
      have hs := used_step ho
      have hl := used_take_le S (j + 1)
      have HS := Lib.hid hs
      have hcl : used (S.take j) + 1 + o.cs.length ≤ 65536 := by omega
      clear ho hcv hnl hs hl
      go_wp2_with ((with_reducible show wpList _ _ _ (⟨some 21, _, _, _, _, _⟩ :: _) _ _); refine wpList_index_tab (d := 21) _ _ _ rfl 50 Try.underlying51 3 rfl _ _ _ _ z (by rfl) rfl j (by rfl) hlt ?_)
      go_roundw
      case rel => exact ⟨j + 1, by omega, by go_num, by rw [HS.out]; go_num, trivial⟩
      case measure => simp [intOf]; omega
    · have : j = S.length := by omega
      subst this
      go_wp2_with fail
      go_ret
      exact ⟨by rw [List.take_of_length_le (Nat.le_refl _)]; rfl, rfl⟩
set_option maxHeartbeats 1000000 in
set_option maxRecDepth 100000 in
theorem c_known {M : Nat → Prop} {q bud : Nat} {S : Hs} (l : List Int) (v : Value) (B : Sel) (w : World) (h : RP w M q bud S) (ok : Ok S bud) (hl : IL w B l v) :
    Calls Try.prog 36 #[.pointer (some ⟨q, 0, none⟩), v] w fun e w' => e = .returned (.bool (knownR S l)) ∧ w' = w := by
  obtain ⟨ad, c, C, rfl, hlc, hby, hC, htab, hx⟩ := hl
  have HH := Lib.hid h
  have HK := Lib.hid ok
  have HT := Lib.hid htab
  have HX := Lib.hid hx
  clear h ok htab hx hC
  go_enter Try.func36, Try.ntmps36
  go_wp2_with fail
  go_loopw [5] (fun i wr => ∃ k : Nat, k ≤ l.length ∧ i = .int .i64 (k : Int) ∧ wr = w ∧ Hid (knownR S (l.take k) = true)) (fun i _ => l.length - (intOf i).toNat)
  case atStart => exact ⟨0, by omega, rfl, rfl, Lib.hid rfl⟩
  case round =>
    obtain ⟨k, hk, rfl, hw, hkn⟩ := hrel
    subst hw
    by_cases hlt : k < l.length
    · obtain ⟨r, hr⟩ : ∃ r, l[k]? = some r := ⟨_, List.getElem?_eq_getElem hlt⟩
      obtain ⟨hcr, hir⟩ := HX.out k r hr
      obtain ⟨b, q', rfl, hrg⟩ := HT.out.at (by omega)
      have hrk := hrg k hlt
      rw [hcr] at hrk
      have e0 : wr.cell? ⟨b, q' + k * 1, none⟩ = some (.int .i64 r) := rangeAt_head hrk
      rw [Nat.mul_one] at e0
      have ez := lt_of_cell e0
      dsimp only at ez
      have HR := Lib.hid hr
      have HIR := Lib.hid hir
      clear hrk hrg hcr hr hir
      have hst : knownR S (l.take (k + 1)) = (knownR S (l.take k) && (r == 0 || hasN S r)) := by
        rw [List.take_add_one, HR.out]
        simp [knownR]
      have HST := Lib.hid hst
      clear hst
      by_cases h0 : r = 0
      · subst h0
        go_wp2_with ((with_reducible show wpList _ _ _ (⟨some 14, _, _, _, _, _⟩ :: _) _ _); refine wpList_index_tab (d := 14) _ _ _ rfl 3 Try.underlying33 1 rfl _ _ _ _ q' (by rfl) rfl k (by rfl) hlt ?_; rw [Nat.mul_one])
        go_roundw
        case rel => exact ⟨k + 1, by omega, by go_num, trivial, Lib.hid (by rw [HST.out, hkn.out]; rfl)⟩
        case measure => simp [intOf]; omega
      · rcases atI_cases HK.out r with ⟨hh, ha⟩ | ⟨hh, i, o, _, _, ha, _⟩
        · have HA := Lib.hid ha
          have HHR := Lib.hid hh
          clear ha hh
          go_wp2_with (first
            | ((with_reducible show wpList _ _ _ (⟨some 14, _, _, _, _, _⟩ :: _) _ _); refine wpList_index_tab (d := 14) _ _ _ rfl 3 Try.underlying33 1 rfl _ _ _ _ q' (by rfl) rfl k (by rfl) hlt ?_; rw [Nat.mul_one])
            | (go_at_call 20; (with_reducible refine (c_At _ wr HH.out HK.out HIR.out).mono ?_); rintro e w' ⟨rfl, rfl⟩; rw [HA.out]))
          go_ret
          refine ⟨?_, rfl⟩
          have : knownR S l = false := by
            unfold knownR
            rw [List.all_eq_false]
            refine ⟨r, List.mem_of_getElem? HR.out, by rw [HHR.out]; simpa using h0⟩
          rw [this]; rfl
        · have HA := Lib.hid ha
          have HHR := Lib.hid hh
          clear ha hh
          go_wp2_with (first
            | ((with_reducible show wpList _ _ _ (⟨some 14, _, _, _, _, _⟩ :: _) _ _); refine wpList_index_tab (d := 14) _ _ _ rfl 3 Try.underlying33 1 rfl _ _ _ _ q' (by rfl) rfl k (by rfl) hlt ?_; rw [Nat.mul_one])
            | (go_at_call 20; (with_reducible refine (c_At _ wr HH.out HK.out HIR.out).mono ?_); rintro e w' ⟨rfl, rfl⟩; rw [HA.out]))
          go_roundw
          case rel => exact ⟨k + 1, by omega, by go_num, trivial, Lib.hid (by rw [HST.out, hkn.out, HHR.out]; simp)⟩
          case measure => simp [intOf]; omega
    · have : k = l.length := by omega
      subst this
      go_wp2_with fail
      go_ret
      refine ⟨?_, rfl⟩
      have := hkn.out
      rw [List.take_of_length_le (Nat.le_refl _)] at this
      rw [this]; rfl
end Go.Proofs.Ytkaeigklhdpifaa
