/- Two writers of bytes, the program's and the reference's: how they lie, and what stays as it was. No condition; no program is walked here. -/
import Derived.Test.YtkkcoaecidjecaaT1
import Derived.Lib.UnsafeStr
import Derived.Lib.Hide
import Derived.Laws.Rows
import Derived.Laws.Tables
namespace Go.Proofs.Ytkkcoaecidjecaa
open Go.RowKit
set_option linter.unusedVariables false
set_option linter.unusedSimpArgs false

/-- Bytes, as cells. -/
def bys (l : List UInt8) : List Value := l.map fun b => .int .u8 (b.toNat : Int)
theorem bys_len (l : List UInt8) : (bys l).length = l.length := by simp [bys]
theorem bys_add (l m : List UInt8) : bys (l ++ m) = bys l ++ bys m := by simp [bys]
/-- Block k holds what the writer at p has written. -/
def rowAt (w : World) (p k : Nat) : Prop := ∃ v, w.cell? ⟨p, 0, none⟩ = some v ∧ v.ownBlock = some k
/-- But for the writer at p and its bytes nothing of what was there has turned. -/
structure WF (p : Nat) (w w' : World) : Prop where
  os : w'.os = w.os
  tape : w'.tape = w.tape
  output : w'.output = w.output
  sz : w.heap.size ≤ w'.heap.size
  blk : ∀ k, k < w.heap.size → k ≠ p → ¬ rowAt w p k → w'.heap[k]? = w.heap[k]?
  row : ∀ k, rowAt w' p k → rowAt w p k ∨ w.heap.size ≤ k
theorem WF.refl (p : Nat) (w : World) : WF p w w := ⟨rfl, rfl, rfl, Nat.le_refl _, fun _ _ _ _ => rfl, fun _ h => .inl h⟩
theorem WF.trans {p : Nat} {a b c : World} (h : WF p a b) (k : WF p b c) : WF p a c :=
  ⟨k.os.trans h.os, k.tape.trans h.tape, k.output.trans h.output, Nat.le_trans h.sz k.sz, fun i hi hp hr => by
    refine (k.blk i (Nat.lt_of_lt_of_le hi h.sz) hp (fun hb => ?_)).trans (h.blk i hi hp hr)
    rcases h.row i hb with hb | hb
    · exact hr hb
    · omega, fun i hi => by
    rcases k.row i hi with hb | hb
    · exact h.row i hb
    · exact .inr (Nat.le_trans h.sz hb)⟩
theorem Kp.wf {p : Nat} {w w' : World} (h : Kp w w') (hp : p < w.heap.size) : WF p w w' :=
  ⟨h.os, h.tape, h.output, h.sz, fun k hk _ _ => h.blk hk, fun k ⟨v, h1, h2⟩ => .inl ⟨v, by rw [← World.cell?_of_block (a := ⟨p, 0, none⟩) (h.blk hp)]; exact h1, h2⟩⟩
/-- A block that no writing turns. -/
def Far (w : World) (p k : Nat) : Prop := k < w.heap.size ∧ k ≠ p ∧ ¬ rowAt w p k
theorem Far.wf {w w' : World} {p k : Nat} (h : Far w p k) (hk : WF p w w') : Far w' p k := ⟨Nat.lt_of_lt_of_le h.1 hk.sz, h.2.1, fun hr => by
  rcases hk.row k hr with hr | hr
  · exact h.2.2 hr
  · have := h.1; omega⟩
theorem WF.cellv {p : Nat} {w w' : World} (h : WF p w w') {a : Addr} {v : Value} (hc : w.cell? a = some v) (hf : Far w p a.block) : w'.cell? a = some v := by
  rw [← hc]; exact World.cell?_of_block (h.blk _ hf.1 hf.2.1 hf.2.2)
theorem WF.heap {p : Nat} {w w' : World} (h : WF p w w') {b : Nat} {o : Obj} (hc : w.heap[b]? = some o) (hf : Far w p b) : w'.heap[b]? = some o := (h.blk _ hf.1 hf.2.1 hf.2.2).trans hc
/-- Blocks under n. -/
def Und (n : Nat) : Sel := ⟨False, fun b => b < n⟩
theorem und_of {n : Nat} {B : Sel} (hB : ∀ b, B.S b → b < n) : (Und n).le B := ⟨fun h => h.elim, hB⟩
/-- The program's writer at block p: what is written is o; the bytes past 2 to the 20 are counted alone. -/
def WR (w : World) (p B : Nat) (o : Ou) : Prop := p < B ∧ B ≤ w.heap.size ∧ ∃ v, w.heap[p]? = some (.cells #[v, .int .i64 (o.1.length : Int), .bool o.2] 92 (0, 0)) ∧ w.ownsRow B 5 1 v (o.1.take 1048576).length (bys (o.1.take 1048576))
theorem rowAt_of {w : World} {p : Nat} {v : Value} {cs : Array Value} {t : TypeId} {fr : Nat × Nat} (h : w.heap[p]? = some (.cells cs t fr)) (h0 : cs[0]? = some v) {k : Nat} : rowAt w p k ↔ v.ownBlock = some k := by
  have : w.cell? ⟨p, 0, none⟩ = some v := by rw [row_cell h]; exact h0
  exact ⟨fun ⟨u, h1, h2⟩ => by rw [this] at h1; cases h1; exact h2, fun h => ⟨v, this, h⟩⟩
theorem WR.lt {w : World} {p B : Nat} {o : Ou} (h : WR w p B o) : p < w.heap.size := by obtain ⟨_, _, v, h, _⟩ := h; exact row_lt h
theorem WR.rows {w : World} {p B : Nat} {o : Ou} (h : WR w p B o) {k : Nat} (hk : rowAt w p k) : B ≤ k ∧ k < w.heap.size := by
  obtain ⟨_, _, v, h1, h2⟩ := h
  exact h2.lt k ((rowAt_of h1 rfl).1 hk)
theorem own_fr {w w' : World} {B n m : Nat} {e : TypeId} {v : Value} {xs : List Value} (h : w.ownsRow B e m v n xs) (hk : ∀ k, v.ownBlock = some k → w'.heap[k]? = w.heap[k]?) : w'.ownsRow B e m v n xs := by
  obtain ⟨hl, hv | ⟨gb, cap, cur, rfl, hB, hg, rest⟩⟩ := h
  · exact ⟨hl, .inl hv⟩
  · exact ⟨hl, .inr ⟨gb, cap, cur, rfl, hB, (hk gb rfl).trans hg, rest⟩⟩
theorem WR.keep {w w' : World} {p B : Nat} {o : Ou} (h : WR w p B o) (hk : Kp w w') : WR w' p B o := by
  obtain ⟨h0, hB, v, h1, h2⟩ := h
  exact ⟨h0, Nat.le_trans hB hk.sz, v, row_keep hk h1, own_fr h2 (fun k hv => hk.blk (h2.lt k hv).2)⟩
/-- A block outside the writer, whatever becomes of it. -/
theorem WR.other {w w' : World} {p B : Nat} {o : Ou} (h : WR w p B o) (hs : w.heap.size ≤ w'.heap.size) (hk : ∀ k, (k = p ∨ rowAt w p k) → w'.heap[k]? = w.heap[k]?) : WR w' p B o := by
  obtain ⟨h0, hB, v, h1, h2⟩ := h
  exact ⟨h0, Nat.le_trans hB hs, v, (hk p (.inl rfl)).trans h1, own_fr h2 (fun k hv => hk k (.inr ((rowAt_of h1 rfl).2 hv)))⟩
theorem WR.far_new {w : World} {p B : Nat} {o : Ou} (h : WR w p B o) (x : Obj) : Far (w.alloc x) p w.heap.size := by
  have hp := h.lt
  refine ⟨by simp, by omega, fun hr => ?_⟩
  have := ((h.keep ((Kp.refl w).alloc x)).rows hr)
  rcases (((Kp.refl w).alloc x).wf hp).row _ hr with h1 | h1
  · have := (h.rows h1).2; omega
  · obtain ⟨v, h2, h3⟩ := hr
    obtain ⟨_, _, v', h5, h6⟩ := h
    have h7 := (rowAt_of (row_keep ((Kp.refl w).alloc x) h5) rfl).1 ⟨v, h2, h3⟩
    have := (h6.lt _ h7).2; omega
theorem WF.fr {p : Nat} {w w' : World} (h : WF p w w') : Fr (fun k => k = p ∨ rowAt w p k) w w' := fun k hk hn => h.blk k hk (fun e => hn (.inl e)) (fun e => hn (.inr e))
/-- What lies under n stays. -/
theorem WR.und {α : Type} {m : Nat} {L : Ly α} (g : Good m L) {w w' : World} {p B n : Nat} {o : Ou} (h : WR w p B o) (hn : n ≤ p) {x : α} {cs : List Value} (hl : L w (Und n) x cs) (hk : WF p w w') : L w' (Und n) x cs :=
  g.turn hl hk.fr hk.sz (fun b _ (hb : b < n) e => by
    rcases e with e | e
    · omega
    · have := (h.rows e).1; have := h.1; omega)
theorem WR.undR {α : Type} {e : TypeId} {m by_ : Nat} {L : Ly α} (g : Good m L) {w w' : World} {p B n : Nat} {o : Ou} (h : WR w p B o) (hn : n ≤ p) {x : List α} {v : Value} (hl : RL e m by_ L w (Und n) x v) (hk : WF p w w') : RL e m by_ L w' (Und n) x v :=
  hl.turn g hk.fr hk.sz (fun b _ (hb : b < n) e => by
    rcases e with e | e
    · omega
    · have := (h.rows e).1; have := h.1; omega)
/-- Of an older world nothing turns. -/
theorem WR.old {w w' a : World} {p B : Nat} {o : Ou} (h : WR w p B o) (hk : WF p w w') (ha : Kp a w) (hn : a.heap.size ≤ p) : Kp a w' :=
  ⟨hk.os.trans ha.os, hk.tape.trans ha.tape, hk.output.trans ha.output, Nat.le_trans ha.sz hk.sz, fun i hi => (hk.blk i (Nat.lt_of_lt_of_le hi ha.sz) (by omega) (fun e => by have := (h.rows e).1; have := h.1; omega)).trans (ha.blk hi)⟩
theorem take_le {l : List UInt8} (h : l.length ≤ 1048576) : l.take 1048576 = l := List.take_of_length_le h
theorem row2 {w : World} {b : Nat} {x y : Value} {t : TypeId} {fr : Nat × Nat} (h : w.heap[b]? = some (.cells #[x, y] t fr)) : w.cell? ⟨b, 0, none⟩ = some x ∧ w.cell? ⟨b, 1, none⟩ = some y := ⟨row_cell h 0, row_cell h 1⟩
theorem row3 {w : World} {b : Nat} {x y z : Value} {t : TypeId} {fr : Nat × Nat} (h : w.heap[b]? = some (.cells #[x, y, z] t fr)) : w.cell? ⟨b, 0, none⟩ = some x ∧ w.cell? ⟨b, 1, none⟩ = some y ∧ w.cell? ⟨b, 2, none⟩ = some z := ⟨row_cell h 0, row_cell h 1, row_cell h 2⟩
theorem row4 {w : World} {b : Nat} {x y z u : Value} {t : TypeId} {fr : Nat × Nat} (h : w.heap[b]? = some (.cells #[x, y, z, u] t fr)) : w.cell? ⟨b, 0, none⟩ = some x ∧ w.cell? ⟨b, 1, none⟩ = some y ∧ w.cell? ⟨b, 2, none⟩ = some z ∧ w.cell? ⟨b, 3, none⟩ = some u := ⟨row_cell h 0, row_cell h 1, row_cell h 2, row_cell h 3⟩
theorem row5 {w : World} {b : Nat} {x y z u v : Value} {t : TypeId} {fr : Nat × Nat} (h : w.heap[b]? = some (.cells #[x, y, z, u, v] t fr)) : w.cell? ⟨b, 0, none⟩ = some x ∧ w.cell? ⟨b, 1, none⟩ = some y ∧ w.cell? ⟨b, 2, none⟩ = some z ∧ w.cell? ⟨b, 3, none⟩ = some u ∧ w.cell? ⟨b, 4, none⟩ = some v := ⟨row_cell h 0, row_cell h 1, row_cell h 2, row_cell h 3, row_cell h 4⟩
/-- A store of all cells of a block that was made just now. -/
theorem wpList_store_new {P : Program} {ops : Array Oper} {rest : List Oper} {o : Oper} {a : Act} {w : World} {Q : Exit → Act → World → Prop} (hgd : o.guard = none) (ty : TypeId) (x y : Operand) (ho : o.op = .store ty x y)
    (w1 : World) (g : Nat) (cells : Array Value) (hx : a.eval x = .pointer (some ⟨g, 0, none⟩)) (hy : a.eval y = .agg cells) (hgs : g = w1.heap.size)
    (t : TypeId) (old : Array Value) (hw : w = w1.alloc (.cells old t)) (hi : (P.info? ty).map (·.size) = some cells.size)
    (hold : old.size = cells.size) (h1 : cells.all (·.oneCell') = true)
    (h : ∀ w', w'.heap[g]? = some (.cells cells t (0, 0)) → Kp w1 w' → w1.heap.size < w'.heap.size → wpList P ops Q rest (a.put o.dst undef) w') : wpList P ops Q (o :: rest) a w := by
  subst hw
  subst hgs
  have hg := heap_alloc_new w1 (.cells old t)
  refine wpList_store_row hgd ty x y ho w1.heap.size cells hx hy t old hg hi hold h1 (h _ (setRow_heap _ _ old cells t (0, 0) hg) ⟨rfl, rfl, rfl, by simp, fun k hk => ?_⟩ (by simp))
  exact (setRow_other _ _ k cells (by omega)).trans (((Kp.refl w1).alloc _).blk hk)
theorem und_tab {w w' : World} {p n : Nat} {e : TypeId} {a : Option Addr} {l c m : Nat} {C : Nat → List Value} (h : tab w (Und n) e a l c m C) (hr : ∀ k, (k = p ∨ rowAt w p k) → n ≤ k) (hk : WF p w w') : tab w' (Und n) e a l c m C :=
  h.turn hk.fr hk.sz (fun b _ (hb : b < n) e => by have := hr b e; omega)
theorem WR.und_rows {w : World} {p B n : Nat} {o : Ou} (h : WR w p B o) (hn : n ≤ p) : ∀ k, (k = p ∨ rowAt w p k) → n ≤ k := by
  rintro k (e | e)
  · omega
  · have := (h.rows e).1; have := h.1; omega
/-- Onto what is written more is written. -/
theorem puts_step {o o1 o2 : Ou} {a b : List It} (h : o1 = puts o a) (k : o2 = puts o1 b) : o2 = puts o (a ++ b) := by rw [k, h, puts_append]
theorem putsR_step {o o1 o2 : Ou} {a b : List It} (h : o1 = putsR o a) (k : o2 = putsR o1 b) : o2 = putsR o (a ++ b) := by rw [k, h, putsR_append]
/-- What comes of a call that writes the numbers of its. -/
def WP (p B : Nat) (o : Ou) (its : List It) (w : World) (e : Ending) (w' : World) : Prop := e = .returned (.tuple #[]) ∧ ∃ o', Hid (o' = puts o its) ∧ o'.1.length ≤ o.1.length + 10 * its.length ∧ WR w' p B o' ∧ WF p w w'
theorem WP.of {p B : Nat} {o o' : Ou} {its : List It} {w w' : World} (h : o' = puts o its) (h1 : WR w' p B o') (h2 : WF p w w') : WP p B o its w (.returned (.tuple #[])) w' :=
  ⟨rfl, o', Lib.hid h, by rw [h]; exact puts_len _ _, h1, h2⟩
theorem end_none {fn : Func} {R : Ending → World → Prop} {a : Act} {w : World} (hfn : fn.results = #[]) (hd : a.defers = []) (hR : R (.returned (.tuple #[])) w) : bodyPost Try.prog fn R .normal a w :=
  ⟨hd, .tuple #[], by simp [results, hfn, go_sem], hR⟩
theorem end_ret {fn : Func} {R : Ending → World → Prop} {a : Act} {w : World} (hfn : fn.results = #[]) (hd : a.defers = []) (hR : R (.returned (.tuple #[])) w) : bodyPost Try.prog fn R .ret a w :=
  ⟨hd, .tuple #[], by simp [results, hfn, go_sem], hR⟩
theorem info_parts {t : TypeId} {z : Value} {s b : Nat} (h : (Try.prog.info? t).map (fun i => (i.zero, i.size, i.bytes)) = some (some z, s, b)) : ∃ i, Try.prog.info? t = some i ∧ i.zero = some z ∧ i.size = s ∧ i.bytes = b := by
  obtain ⟨i, hi, he⟩ := Option.map_eq_some_iff.1 h
  simp only [Prod.mk.injEq] at he
  exact ⟨i, hi, he.1, he.2.1, he.2.2⟩
theorem i64_len {α : Type} {l : List α} (h : l.length ≤ 1099511627776) : i64 (l.length : Int) := by unfold i64; omega
theorem i64_lenB {α : Type} {l : List α} {b : Nat} (hb : 1 ≤ b) (h : l.length * b ≤ 140737488351232) : i64 (l.length : Int) := by
  have : l.length * 1 ≤ l.length * b := Nat.mul_le_mul_left _ hb
  unfold i64; omega
end Go.Proofs.Ytkkcoaecidjecaa
