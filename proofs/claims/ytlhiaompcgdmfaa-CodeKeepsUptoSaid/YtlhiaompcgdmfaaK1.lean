/- Rows that are written over, and what lies beside them. No condition; no program is walked here. -/
import Derived.Test.YtlhiaompcgdmfaaO1
import Derived.Deep.MidRow
import Derived.Laws.BytesArg
import Derived.Laws.IdiomStrings
namespace Go.Proofs.Ytlhiaompcgdmfaa
open Go.RowKit
set_option linter.unusedVariables false
set_option linter.unusedSimpArgs false
/-- But for the blocks of N nothing of what was there has turned. -/
structure Tr (N : Nat → Prop) (w w' : World) : Prop where
  os : w'.os = w.os
  tape : w'.tape = w.tape
  output : w'.output = w.output
  sz : w.heap.size ≤ w'.heap.size
  fr : Fr N w w'
theorem Tr.refl (N : Nat → Prop) (w : World) : Tr N w w := ⟨rfl, rfl, rfl, Nat.le_refl _, fun _ _ _ => rfl⟩
theorem Tr.of {N N' : Nat → Prop} {w w' : World} (h : Tr N w w') (hN : ∀ k, k < w.heap.size → N k → N' k) : Tr N' w w' := ⟨h.os, h.tape, h.output, h.sz, fun k hk hn => h.fr k hk (fun e => hn (hN k hk e))⟩
theorem Tr.trans {N N' : Nat → Prop} {a b c : World} (h : Tr N a b) (k : Tr N' b c) (hN : ∀ i, i < a.heap.size → N' i → N i) : Tr N a c :=
  ⟨k.os.trans h.os, k.tape.trans h.tape, k.output.trans h.output, Nat.le_trans h.sz k.sz, fun i hi hn => (k.fr i (Nat.lt_of_lt_of_le hi h.sz) (fun e => hn (hN i hi e))).trans (h.fr i hi hn)⟩
theorem Kp.tr {w w' : World} (h : Kp w w') (N : Nat → Prop) : Tr N w w' := ⟨h.os, h.tape, h.output, h.sz, fun k hk _ => h.blk hk⟩
theorem Tr.kp {N : Nat → Prop} {w w' : World} (h : Tr N w w') (hN : ∀ k, k < w.heap.size → ¬ N k) : Kp w w' := ⟨h.os, h.tape, h.output, h.sz, fun k hk => h.fr k hk (hN k hk)⟩
/-- Of an older world nothing turns. -/
theorem Tr.old {N : Nat → Prop} {a w w' : World} (h : Tr N w w') (ha : Kp a w) (hN : ∀ k, N k → a.heap.size ≤ k) : Kp a w' :=
  ⟨h.os.trans ha.os, h.tape.trans ha.tape, h.output.trans ha.output, Nat.le_trans ha.sz h.sz, fun i hi => (h.fr i (Nat.lt_of_lt_of_le hi ha.sz) (fun e => by have := hN i e; omega)).trans (ha.blk hi)⟩
theorem Tr.keep {N : Nat → Prop} {a b c : World} (h : Tr N a b) (k : Kp b c) : Tr N a c := h.trans (k.tr N) (fun _ _ e => e)
theorem Tr.set {N : Nat → Prop} {a b : World} (h : Tr N a b) {p : Addr} (hp : N p.block ∨ a.heap.size ≤ p.block) (v : Value) : Tr N a (b.setCell p v) :=
  ⟨h.os, h.tape, h.output, by rw [World.size_setCell]; exact h.sz, fun k hk hn => (Below.heap_setCell _ _ _ _ (fun e => by
    rcases hp with h1 | h1
    · exact hn (e ▸ h1)
    · omega)).trans (h.fr k hk hn)⟩
theorem Tr.row {N : Nat → Prop} {w w' : World} (h : Tr N w w') {b : Nat} {o : Obj} (hb : w.heap[b]? = some o) (hn : ¬ N b) : w'.heap[b]? = some o := (h.fr b (row_lt hb) hn).trans hb
theorem Tr.rl {α : Type} {e : TypeId} {m by_ : Nat} {L : Ly α} (g : Good m L) {N : Nat → Prop} {w w' : World} {B : Sel} {l : List α} {v : Value} (h : Tr N w w') (hl : RL e m by_ L w B l v) (hB : ∀ b, b < w.heap.size → B.S b → ¬ N b) : RL e m by_ L w' B l v := hl.turn g h.fr h.sz hB
/-- Of the blocks from lo to hi, rows stay rows of their size; rows of functions stay as they are. -/
def Sm (lo hi : Nat) (w w' : World) : Prop := ∀ b cur e, lo ≤ b → b < hi → w.heap[b]? = some (.cells cur e (0, 0)) → ∃ cur', w'.heap[b]? = some (.cells cur' e (0, 0)) ∧ cur'.size = cur.size ∧ (e = 51 → cur' = cur)
theorem Sm.refl (lo hi : Nat) (w : World) : Sm lo hi w w := fun b cur e _ _ h => ⟨cur, h, rfl, fun _ => rfl⟩
theorem Sm.trans {lo hi : Nat} {a b c : World} (h : Sm lo hi a b) (k : Sm lo hi b c) : Sm lo hi a c := fun x cur e h1 h2 h3 => by
  obtain ⟨cur1, h4, h5, h6⟩ := h x cur e h1 h2 h3
  obtain ⟨cur2, h7, h8, h9⟩ := k x cur1 e h1 h2 h4
  exact ⟨cur2, h7, h8.trans h5, fun he => (h9 he).trans (h6 he)⟩
theorem Sm.kp {lo hi : Nat} {w w' : World} (k : Kp w w') : Sm lo hi w w' := fun b cur e _ _ h => ⟨cur, row_keep k h, rfl, fun _ => rfl⟩
theorem Sm.tr {lo hi : Nat} {N : Nat → Prop} {w w' : World} (k : Tr N w w') (hN : ∀ b, lo ≤ b → b < hi → ¬ N b) : Sm lo hi w w' := fun b cur e h1 h2 h => ⟨cur, k.row h (hN b h1 h2), rfl, fun _ => rfl⟩
theorem Sm.set {lo hi : Nat} {w : World} {g j : Nat} {cur0 : Array Value} {e0 : TypeId} (hg : w.heap[g]? = some (.cells cur0 e0 (0, 0))) (he : e0 ≠ 51) (v : Value) : Sm lo hi w (w.setCell ⟨g, j, none⟩ v) := fun b cur e h1 h2 h3 => by
  by_cases hb : b = g
  · subst hb
    rw [hg] at h3
    cases h3
    exact ⟨_, heap_setCell_same w b j _ _ v hg, by simp, fun h => absurd h he⟩
  · exact ⟨cur, (Below.heap_setCell _ _ _ _ hb).trans h3, rfl, fun _ => rfl⟩
theorem Sm.sets {lo hi : Nat} {g : Nat} {e0 : TypeId} (he : e0 ≠ 51) : ∀ (vs : List Value) (j : Nat) (w : World) (cur0 : Array Value), w.heap[g]? = some (.cells cur0 e0 (0, 0)) → Sm lo hi w (w.setCells g j vs)
  | [], j, w, _, _ => Sm.refl _ _ _
  | v :: vs, j, w, cur0, hg => (Sm.set hg he v).trans (Sm.sets he vs (j + 1) _ _ (heap_setCell_same w g j _ _ v hg))
theorem Tr.sets {N : Nat → Prop} {g : Nat} (hg : N g) : ∀ (vs : List Value) (j : Nat) (a b : World), Tr N a b → Tr N a (b.setCells g j vs)
  | [], j, a, b, h => h
  | v :: vs, j, a, b, h => Tr.sets hg vs (j + 1) a _ (h.set (.inl hg) v)
/-- A row that may be written over: n elements of m cells each. -/
def OvR (w : World) (lo hi : Nat) (e : TypeId) (m n : Nat) (v : Value) : Prop := ∃ a c, v = .slice a n c ∧ (0 < n → ∃ b cur, a = some ⟨b, 0, none⟩ ∧ lo ≤ b ∧ b < hi ∧ w.heap[b]? = some (.cells cur e (0, 0)) ∧ n * m ≤ cur.size)
theorem OvR.sm {w w' : World} {lo hi : Nat} {e : TypeId} {m n : Nat} {v : Value} (h : OvR w lo hi e m n v) (k : Sm lo hi w w') : OvR w' lo hi e m n v := by
  obtain ⟨a, c, rfl, h⟩ := h
  refine ⟨a, c, rfl, fun h0 => ?_⟩
  obtain ⟨b, cur, h1, h2, h3, h4, h5⟩ := h h0
  obtain ⟨cur', h6, h7, _⟩ := k b cur e h2 h3 h4
  exact ⟨b, cur', h1, h2, h3, h6, by rw [h7]; exact h5⟩
theorem tab_room {w : World} {lo : Nat} {e : TypeId} {a : Option Addr} {n c m : Nat} {C : Nat → List Value} (h : tab w (From lo) e a n c m C) (hC : ∀ i, (C i).length = m) (hm : 0 < m) (h0 : 0 < n) : ∃ b cur, a = some ⟨b, 0, none⟩ ∧ lo ≤ b ∧ b < w.heap.size ∧ w.heap[b]? = some (.cells cur e (0, 0)) ∧ n * m ≤ cur.size ∧ ∀ i, i < n → w.rangeAt b (i * m) (C i) := by
  obtain ⟨b, o, h1, h2, h3, h4, h5⟩ := h.2 h0
  obtain ⟨rfl, cur, h6⟩ := h4 trivial
  refine ⟨b, cur, h1, h2, h3, h6, ?_, fun i hi => by have := h5 i hi; rwa [Nat.zero_add] at this⟩
  have hl : (C (n - 1))[m - 1]? = some ((C (n - 1))[m - 1]'(by rw [hC]; omega)) := List.getElem?_eq_getElem _
  have h7 := h5 (n - 1) (by omega) (m - 1) _ hl
  rw [row_cell h6] at h7
  have h8 := (Array.getElem?_eq_some_iff.1 h7).1
  have h9 : n * m = (n - 1) * m + m := by
    obtain ⟨k, rfl⟩ : ∃ k, n = k + 1 := ⟨n - 1, by omega⟩
    simp [Nat.succ_mul]
  omega
theorem OvR.of {α : Type} {w : World} {lo : Nat} {e : TypeId} {m by_ : Nat} {L : Ly α} {l : List α} {v : Value} (h : RL e m by_ L w (From lo) l v) (hm : 0 < m) : OvR w lo w.heap.size e m l.length v := by
  obtain ⟨a, c, C, rfl, _, _, hC, ht, _⟩ := h
  refine ⟨a, c, rfl, fun h0 => ?_⟩
  obtain ⟨b, cur, h1, h2, h3, h4, h5, _⟩ := tab_room ht (fun i => (hC i).1) hm h0
  exact ⟨b, cur, h1, h2, h3, h4, h5⟩
/-- Functions whose rows may be written over. -/
def OvF (w : World) (lo hi : Nat) (l : List Fu) (v : Value) : Prop := ∃ a c, v = .slice a l.length c ∧ (0 < l.length → ∃ b cur, a = some ⟨b, 0, none⟩ ∧ lo ≤ b ∧ b < hi ∧ w.heap[b]? = some (.cells cur 51 (0, 0)) ∧
  ∀ i x, l[i]? = some x → ∃ v1 v3, cur[i * 5 + 1]? = some v1 ∧ cur[i * 5 + 4]? = some v3 ∧ OvR w lo hi 3 1 x.lo.length v1 ∧ OvR w lo hi 55 5 x.co.length v3)
theorem OvF.sm {w w' : World} {lo hi : Nat} {l : List Fu} {v : Value} (h : OvF w lo hi l v) (k : Sm lo hi w w') : OvF w' lo hi l v := by
  obtain ⟨a, c, rfl, h⟩ := h
  refine ⟨a, c, rfl, fun h0 => ?_⟩
  obtain ⟨b, cur, h1, h2, h3, h4, h5⟩ := h h0
  obtain ⟨cur', h6, _, h7⟩ := k b cur _ h2 h3 h4
  obtain rfl := h7 rfl
  refine ⟨b, cur', h1, h2, h3, h6, fun i x hx => ?_⟩
  obtain ⟨v1, v3, e1, e3, r1, r3⟩ := h5 i x hx
  exact ⟨v1, v3, e1, e3, r1.sm k, r3.sm k⟩
theorem OvF.of {w : World} {lo : Nat} {l : List Fu} {v : Value} (h : FL w (From lo) l v) : OvF w lo w.heap.size l v := by
  obtain ⟨a, c, C, rfl, _, _, hC, ht, hx⟩ := h
  refine ⟨a, c, rfl, fun h0 => ?_⟩
  obtain ⟨b, cur, h1, h2, h3, h4, _, h5⟩ := tab_room ht (fun i => (hC i).1) (by decide) h0
  refine ⟨b, cur, h1, h2, h3, h4, fun i x hi => ?_⟩
  obtain ⟨v1, v2, v3, hc, k1, _, k3, _⟩ := hx i x hi
  have h6 := h5 i (List.getElem?_eq_some_iff.1 hi).1
  rw [hc] at h6
  have e1 := h6 1 v1 rfl
  have e3 := h6 4 v3 rfl
  rw [row_cell h4] at e1 e3
  exact ⟨v1, v3, e1, e3, OvR.of k1 (by decide), OvR.of k3 (by decide)⟩
/-- What a function's rows are, at a round. -/
theorem OvF.at {w : World} {lo hi : Nat} {l : List Fu} {a : Option Addr} {n c : Nat} (h : OvF w lo hi l (.slice a n c)) {i : Nat} {x : Fu} (hix : l[i]? = some x) : ∃ b v1 v3, a = some ⟨b, 0, none⟩ ∧ b < w.heap.size ∧ w.cell? ⟨b, i * 5 + 1, none⟩ = some v1 ∧ w.cell? ⟨b, i * 5 + 4, none⟩ = some v3 ∧ OvR w lo hi 3 1 x.lo.length v1 ∧ OvR w lo hi 55 5 x.co.length v3 ∧ ∀ w', Sm lo hi w w' → w'.cell? ⟨b, i * 5 + 1, none⟩ = some v1 ∧ w'.cell? ⟨b, i * 5 + 4, none⟩ = some v3 ∧ b < w'.heap.size := by
  obtain ⟨a2, c2, he, h⟩ := h
  cases he
  have hl := (List.getElem?_eq_some_iff.1 hix).1
  obtain ⟨b, cur, rfl, h2, h3, h4, h5⟩ := h (by omega)
  obtain ⟨v1, v3, e1, e3, r1, r3⟩ := h5 i x hix
  refine ⟨b, v1, v3, rfl, row_lt h4, by rw [row_cell h4]; exact e1, by rw [row_cell h4]; exact e3, r1, r3, fun w' hk => ?_⟩
  obtain ⟨cur', g1, _, g2⟩ := hk b cur _ h2 h3 h4
  obtain rfl := g2 rfl
  exact ⟨by rw [row_cell g1]; exact e1, by rw [row_cell g1]; exact e3, row_lt g1⟩
/-- A cell of a row that may be written over. -/
theorem OvR.at {w : World} {lo hi : Nat} {e : TypeId} {m n : Nat} {a : Option Addr} {k c : Nat} (h : OvR w lo hi e m n (.slice a k c)) {i : Nat} (hix : i < n) (he : e ≠ 51) : k = n ∧ ∃ b, a = some ⟨b, 0, none⟩ ∧ lo ≤ b ∧ b < hi ∧ b < w.heap.size ∧ (∀ j, j < m → ∃ v, w.cell? ⟨b, i * m + j, none⟩ = some v) ∧ (∀ j, w.frozen? ⟨b, j, none⟩ = false) ∧ (∀ j v, Sm lo hi w (w.setCell ⟨b, j, none⟩ v)) ∧ (∀ j vs, Sm lo hi w (w.setCells b j vs)) ∧ w.there b (i * m) m := by
  obtain ⟨a2, c2, hs, h⟩ := h
  cases hs
  obtain ⟨b, cur, rfl, h2, h3, h4, h5⟩ := h (by omega)
  have hroom : ∀ j, j < m → i * m + j < cur.size := fun j hj => by
    have : (i + 1) * m ≤ n * m := Nat.mul_le_mul_right _ hix
    rw [Nat.succ_mul] at this
    omega
  have hcell : ∀ j, j < m → ∃ v, w.cell? ⟨b, i * m + j, none⟩ = some v := fun j hj => by
    rw [row_cell h4]
    exact ⟨_, Array.getElem?_eq_getElem (hroom j hj)⟩
  refine ⟨rfl, b, rfl, h2, h3, row_lt h4, hcell, fun j => frozen_of_row _ _ j _ _ h4, fun j v => Sm.set h4 he v, fun j vs => Sm.sets he vs j _ _ h4, fun j hj => ?_⟩
  obtain ⟨v, hv⟩ := hcell j hj
  exact ⟨by rw [hv]; rfl, frozen_of_row _ _ (i * m + j) _ _ h4⟩
/-- Bytes as a text. -/
theorem bytes_run (w : World) {B : Sel} {l : List UInt8} {a : Option Addr} {c : Nat} (h : BL w B l (.slice a l.length c)) : (convert 37 9 (.slice a l.length c)).run Try.prog w = .ok (.string ⟨l.toArray⟩) w := by
  obtain ⟨a', c', C, he, hlc, _, hC, ht, hx⟩ := h
  simp only [Value.slice.injEq, true_and] at he
  obtain ⟨rfl, rfl⟩ := he
  cases a with
  | none =>
    have hl : l = [] := by
      cases l with
      | nil => rfl
      | cons x l =>
        obtain ⟨h0, _⟩ := ht
        have := (h0 rfl).1
        simp at this
    subst hl
    have := run_convert_bytes_nil (P := Try.prog) w 37 5 Try.underlying37 Try.underlying5 0 c 9 Try.underlying9
    have e : ByteArray.empty = ⟨([] : List UInt8).toArray⟩ := rfl
    rw [← e]
    exact this
  | some ad =>
    by_cases h0 : 0 < l.length
    · obtain ⟨b, o, ha, hr⟩ := ht.at h0
      cases ha
      refine run_convert_bytes_back w 37 9 5 ⟨b, o, none⟩ c l Try.underlying37 Try.underlying5 Try.underlying9 (fun j hj => ?_)
      have := hr j hj 0 (.int .u8 (l[j].toNat : Int)) (by rw [hx j l[j] (List.getElem?_eq_getElem hj)]; rfl)
      simpa [Addr.add_mid] using this
    · have hl : l = [] := List.eq_nil_of_length_eq_zero (by omega)
      subst hl
      exact run_convert_bytes_back w 37 9 5 ad c [] Try.underlying37 Try.underlying5 Try.underlying9 (fun j hj => by simp at hj)
end Go.Proofs.Ytlhiaompcgdmfaa
