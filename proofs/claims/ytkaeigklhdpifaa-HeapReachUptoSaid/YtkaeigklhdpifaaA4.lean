/- What is reached, all of it. Condition: the heap lies in memory. -/
import Derived.Test.YtkaeigklhdpifaaA3
namespace Go.Proofs.Ytkaeigklhdpifaa
open Go.RowKit Go.Maps Go.Sort
set_option linter.unusedVariables false
set_option linter.unusedSimpArgs false
theorem nodup_le : ∀ (l m : List Int), l.Nodup → (∀ x ∈ l, x ∈ m) → l.length ≤ m.length
  | [], m, _, _ => by simp
  | a :: l, m, h, hs => by
    rw [List.nodup_cons] at h
    have ha := hs a (List.mem_cons_self ..)
    have h1 := nodup_le l (m.erase a) h.2 (fun x hx => (List.mem_erase_of_ne (fun e => h.1 (by rw [← e]; exact hx))).2 (hs x (List.mem_cons_of_mem _ hx)))
    have h2 := List.length_erase_of_mem ha
    have h3 : 0 < m.length := List.length_pos_of_mem ha
    simp
    omega
/-- The names that were met: those whose cells were looked at, and those that are left. -/
structure PV (S : Hs) (roots : List Int) (g : Int → Nat) (po st : List Int) (T : Nat) : Prop where
  nd : (po ++ st).Nodup
  mem : ∀ k, k ∈ po ++ st ↔ 0 < g k
  rch : ∀ k ∈ po ++ st, Rch S roots k
  le : ∀ k, g k ≤ T
theorem PV.start (S : Hs) (roots : List Int) : PV S roots (fun _ => 0) [] [] 0 := ⟨List.nodup_nil, fun k => by simp, by simp, fun k => Nat.le_refl _⟩
theorem sx_mem {g : Int → Nat} {po st : List Int} {x k : Int} (h : k ∈ po ++ st) : k ∈ po ++ sx g st x := by
  unfold sx
  split
  · exact h
  · split
    · exact h
    · rw [← List.append_assoc]; exact List.mem_append_left _ h
theorem PV.meet {S : Hs} {roots : List Int} {g : Int → Nat} {po st : List Int} {T : Nat} (h : PV S roots g po st T) {x : Int} (hx : x = 0 ∨ Rch S roots x) : PV S roots (gx g x) po (sx g st x) (T + 1) ∧ (x ≠ 0 → x ∈ po ++ sx g st x) := by
  unfold gx sx
  by_cases h0 : x = 0
  · rw [if_pos h0, if_pos h0]
    exact ⟨⟨h.nd, h.mem, h.rch, fun k => Nat.le_succ_of_le (h.le k)⟩, fun e => absurd h0 e⟩
  · have hr : Rch S roots x := hx.resolve_left h0
    rw [if_neg h0, if_neg h0]
    have hle : ∀ k, bump g x k ≤ T + 1 := fun k => by unfold bump; have := h.le k; split <;> omega
    by_cases h1 : 0 < g x
    · rw [if_pos h1]
      refine ⟨⟨h.nd, fun k => ?_, h.rch, hle⟩, fun _ => (h.mem x).2 h1⟩
      rw [h.mem]
      unfold bump
      by_cases e : k = x
      · subst e; simp; omega
      · rw [if_neg e]
    · rw [if_neg h1]
      have hn : x ∉ po ++ st := fun e => h1 ((h.mem x).1 e)
      refine ⟨⟨by rw [← List.append_assoc, List.nodup_append]; exact ⟨h.nd, by simp, fun a ha b hb => by simp at hb; subst hb; exact fun e => hn (e ▸ ha)⟩, fun k => ?_, fun k hk => ?_, hle⟩, fun _ => by simp⟩
      · rw [← List.append_assoc, List.mem_append, h.mem]
        unfold bump
        by_cases e : k = x
        · subst e; simp
        · rw [if_neg e]; simp [e]
      · rw [← List.append_assoc, List.mem_append] at hk
        rcases hk with hk | hk
        · exact h.rch k hk
        · simp at hk; subst hk; exact hr
theorem PV.len {S : Hs} {roots : List Int} {g : Int → Nat} {po st : List Int} {T : Nat} (h : PV S roots g po st T) : po.length + st.length ≤ S.length := by
  have := nodup_le (po ++ st) (S.map (·.nm)) h.nd (fun x hx => by
    obtain ⟨o, ho, e⟩ := hasN_iff.1 (h.rch x hx).has
    exact List.mem_map.2 ⟨o, ho, e⟩)
  simpa using this
/-- What a cell names is met. -/
def Cl (S : Hs) (po m : List Int) : Prop := ∀ x ∈ po, ∀ o ∈ S, o.nm = x → ∀ v, (v, true) ∈ o.cs → v ≠ 0 → v ∈ m
theorem Cl.mono {S : Hs} {po m m' : List Int} (h : Cl S po m) (hm : ∀ k ∈ m, k ∈ m') : Cl S po m' := fun x hx o ho e v hv h0 => hm v (h x hx o ho e v hv h0)
theorem PV.all {S : Hs} {roots : List Int} {g : Int → Nat} {po : List Int} {T : Nat} {bud : Nat} (ok : Ok S bud) (h : PV S roots g po [] T) (hr : ∀ r ∈ roots, r ≠ 0 → r ∈ po) (hc : Cl S po po) (k : Int) : 0 < g k ↔ Rch S roots k := by
  rw [← h.mem, List.append_nil]
  constructor
  · intro hk; exact h.rch k (by simpa using hk)
  · intro hk
    have nz : ∀ {v : Int}, hasN S v = true → v ≠ 0 := fun hv e => by
      obtain ⟨o, ho, e2⟩ := hasN_iff.1 hv
      have := (ok.pos o ho).1; omega
    induction hk with
    | root h1 h2 => exact hr _ h1 (nz h2)
    | step h1 h2 h3 h4 ih => exact hc _ ih _ h1 rfl _ h3 (nz h4)
/-- How many keys the map at b has, read off the world; how many are left. -/
def mapN (w : World) (b : Nat) : Nat := match w.heap[b]? with
  | some (.map es _) => es.size
  | _ => 0
def leftN (w : World) (b : Nat) : Nat := match w.cell? ⟨b, 0, none⟩ with
  | some (.slice _ n _) => n
  | _ => 0
theorem OM.count {H : Type} {R : Value → Option (DataW H × List MemPlace)} {w : World} {b : Nat} {D : DataW H} (h : OM R w b D) : mapN w b = Maps.size D := by
  obtain ⟨es, clock, h1, _, _, h4⟩ := h
  unfold mapN
  rw [h1, h4]
  simp [Maps.size, length_sorted]
theorem RX.count {w0 w : World} {tb lb mt n : Nat} {g : Int → Nat} {st : List Int} (h : RX w0 w tb lb mt g n st) : mapN w mt - leftN w lb = n - st.length := by
  obtain ⟨v, h1, h2⟩ := h.lbx
  obtain ⟨D, h3, _, h5⟩ := h.own
  obtain ⟨a, c, rfl⟩ := own_slice h2
  have : w.cell? ⟨lb, 0, none⟩ = some (.slice a st.length c) := row_cell h1 0
  rw [h3.count, h5]
  unfold leftN
  rw [this]
theorem nx_len {S : Hs} {roots : List Int} {g : Int → Nat} {po st : List Int} {T : Nat} (h : PV S roots g po st T) (x : Int) : nx g (po.length + st.length) x = po.length + (sx g st x).length := by
  unfold nx sx
  split
  · rfl
  · split
    · rfl
    · simp; omega
/-- The last of the left is popped. -/
theorem RX.pop {w0 w : World} {tb lb mt n : Nat} {g : Int → Nat} {st : List Int} {x : Int} (h : RX w0 w tb lb mt g n (st ++ [x])) : ∃ gb cap, w.cell? ⟨lb, 0, none⟩ = some (.slice (some ⟨gb, 0, none⟩) (st.length + 1) cap) ∧ w.frozen? ⟨lb, 0, none⟩ = false ∧ w.cell? ⟨gb, st.length, none⟩ = some (.int .i64 x) ∧ gb < w.heap.size ∧ st.length + 1 ≤ cap ∧ cap ≤ maxLen ∧ lb < w.heap.size ∧
    RX w0 (w.setCell ⟨lb, 0, none⟩ (.slice (some ⟨gb, 0, none⟩) st.length cap)) tb lb mt g n st := by
  obtain ⟨zt, zl, zm, n1, n2, n3⟩ := h.lt
  obtain ⟨v, h1, h2⟩ := h.lbx
  obtain ⟨D, h3, h4, h5⟩ := h.own
  obtain ⟨gb, cap, rfl, e1, e2, e3, e4, hcap⟩ := own_pop h2
  have hsame := heap_setCell_same w lb 0 _ _ (.slice (some ⟨gb, 0, none⟩) st.length cap) h1
  have hne : gb ≠ lb := fun e => by
    obtain ⟨cur, hcur⟩ := own_cells e2 rfl
    have hc2 : w.heap[gb]? = some (.cells cur 3 (0, 0)) := hcur
    rw [e, h1] at hc2; cases hc2
  refine ⟨gb, cap, row_cell h1 0, frozen_of_row _ _ 0 _ _ h1, e1, e3, e4, hcap, zl, ⟨h.old.setCell h.l0 _, ?_, ⟨_, hsame, own_turn e2 (fun k hk => Below.heap_setCell _ _ _ _ (fun e => hne (by simpa [Value.ownBlock, e] using hk)))⟩, ⟨D, h3.turn (Below.heap_setCell _ _ _ _ (Ne.symm n3)), h4, h5⟩, h.t0, h.l0, h.m0⟩⟩
  rw [Below.heap_setCell _ _ _ _ n1]
  exact h.tbx
end Go.Proofs.Ytkaeigklhdpifaa
