/- Rows that a call grows: nodes with their depths, side by side; and texts. No condition; no program is walked here. -/
import Derived.Test.YtgamenimbkafjaaI
import Derived.Test.YtgamenimbkafjaaM
import Derived.Test.YtgamenimbkafjaaF1
namespace Go.Proofs.Ytgamenimbkafjaa
open Go.RowKit
set_option linter.unusedVariables false
set_option linter.unusedSimpArgs false

/-- But for the blocks a and b nothing has turned. -/
structure Two (w w' : World) (a b : Option Nat) : Prop where
  os : w'.os = w.os
  tape : w'.tape = w.tape
  output : w'.output = w.output
  sz : w.heap.size ≤ w'.heap.size
  blk : ∀ k, k < w.heap.size → some k ≠ a → some k ≠ b → w'.heap[k]? = w.heap[k]?
/-- A block stays, or another one is new. -/
def New (w : World) (a a' : Option Nat) : Prop := a' = a ∨ ∃ g, a' = some g ∧ w.heap.size ≤ g
theorem New.refl (w : World) (a : Option Nat) : New w a a := .inl rfl
theorem New.trans {w w1 : World} {a b c : Option Nat} (h : New w a b) (hs : w.heap.size ≤ w1.heap.size) (k : New w1 b c) : New w a c := by
  rcases k with rfl | ⟨g, rfl, hg⟩
  · exact h
  · exact .inr ⟨g, rfl, by omega⟩
theorem New.old {w w1 : World} {a b : Option Nat} (h : New w1 a b) (hs : w.heap.size ≤ w1.heap.size) : New w a b := h.imp id (fun ⟨g, e, hg⟩ => ⟨g, e, by omega⟩)
theorem New.ne {w : World} {a b : Option Nat} (h : New w a b) {k : Nat} (hk : k < w.heap.size) (hn : some k ≠ a) : some k ≠ b := by
  rcases h with rfl | ⟨g, rfl, hg⟩
  · exact hn
  · intro e; cases e; omega
theorem Two.refl (w : World) (a b : Option Nat) : Two w w a b := ⟨rfl, rfl, rfl, Nat.le_refl _, fun _ _ _ _ => rfl⟩
theorem Two.trans {w w1 w2 : World} {a b a' b' : Option Nat} (h : Two w w1 a b) (ha : New w a a') (hb : New w b b') (k : Two w1 w2 a' b') : Two w w2 a b :=
  ⟨k.os.trans h.os, k.tape.trans h.tape, k.output.trans h.output, Nat.le_trans h.sz k.sz, fun i hi h1 h2 => (k.blk i (Nat.lt_of_lt_of_le hi h.sz) (ha.ne hi h1) (hb.ne hi h2)).trans (h.blk i hi h1 h2)⟩
theorem Kp.two {w w' : World} (h : Kp w w') (a b : Option Nat) : Two w w' a b := ⟨h.os, h.tape, h.output, h.sz, fun k hk _ _ => h.blk hk⟩
theorem Two.swap {w w' : World} {a b : Option Nat} (h : Two w w' a b) : Two w w' b a := ⟨h.os, h.tape, h.output, h.sz, fun k hk h1 h2 => h.blk k hk h2 h1⟩
theorem Two.kp {w0 w w' : World} {a b : Option Nat} (h : Two w w' a b) (k : Kp w0 w) (ha : ∀ g, a = some g → w0.heap.size ≤ g) (hb : ∀ g, b = some g → w0.heap.size ≤ g) : Kp w0 w' :=
  ⟨h.os.trans k.os, h.tape.trans k.tape, h.output.trans k.output, Nat.le_trans k.sz h.sz, fun i hi => (h.blk i (Nat.lt_of_lt_of_le hi k.sz) (fun e => by have := ha i e.symm; omega) (fun e => by have := hb i e.symm; omega)).trans (k.blk hi)⟩
theorem Two.cellv {w w' : World} {a b : Option Nat} (h : Two w w' a b) {p : Addr} {v : Value} (hc : w.cell? p = some v) (h1 : some p.block ≠ a) (h2 : some p.block ≠ b) : w'.cell? p = some v := by
  rw [← hc]; exact World.cell?_of_block (h.blk _ (lt_of_cell hc) h1 h2)
theorem grown_two {w w' : World} {a : Option Nat} (hg : w.grownBy w' a) (b : Option Nat) : Two w w' a b := ⟨hg.os, hg.tape, hg.output, hg.size, fun k hk h1 _ => hg.block k hk h1⟩
theorem own_keep {w w' : World} {B : Nat} {e : TypeId} {m n : Nat} {v : Value} {xs : List Value} (h : w.ownsRow B e m v n xs) (hk : Kp w w') : w'.ownsRow B e m v n xs := by
  refine ⟨h.1, ?_⟩
  rcases h.2 with hv | ⟨g, cap, cur, hv, hg0, hg, rest⟩
  · exact .inl hv
  · exact .inr ⟨g, cap, cur, hv, hg0, (hk.blk (Array.getElem?_eq_some_iff.1 hg).1).trans hg, rest⟩
/-- Rows of two types lie apart. -/
theorem own_apart {w : World} {B B' : Nat} {e e' : TypeId} {m m' n n' : Nat} {v v' : Value} {xs xs' : List Value} (h : w.ownsRow B e m v n xs) (h' : w.ownsRow B' e' m' v' n' xs') (he : e ≠ e') : v.ownBlock = none ∨ v.ownBlock ≠ v'.ownBlock := by
  rcases h.2 with ⟨hv, _⟩ | ⟨g, cap, cur, hv, _, hg, _⟩
  · exact .inl (by rw [hv]; rfl)
  · refine .inr (fun x => ?_)
    rcases h'.2 with ⟨hv', _⟩ | ⟨g', cap', cur', hv', _, hg', _⟩
    · rw [hv, hv'] at x; cases x
    · rw [hv, hv'] at x
      obtain rfl : g = g' := Option.some.inj x
      rw [hg] at hg'
      simp at hg'
      exact he hg'.2
theorem own_mono {w : World} {B B' : Nat} {e : TypeId} {m n : Nat} {v : Value} {xs : List Value} (h : w.ownsRow B e m v n xs) (hb : B' ≤ B) : w.ownsRow B' e m v n xs := ⟨h.1, h.2.imp id (fun ⟨g, cap, cur, hv, hg0, rest⟩ => ⟨g, cap, cur, hv, by omega, rest⟩)⟩
theorem infoI : (Try.prog.info? 3).map (fun i => (i.zero, i.size, i.bytes)) = some (some (.int .i64 0), 1, 8) := by kernel_rfl
theorem infoS : (Try.prog.info? 9).map (fun i => (i.zero, i.size, i.bytes)) = some (some (.string ⟨#[]⟩), 1, 16) := by kernel_rfl
section
variable {P : Program} {w : World} {ops : Array Oper} {rest : List Oper} {a : Act} {Q : Exit → Act → World → Prop}
/-- One element is appended, out of a new block: where the row lies then. -/
theorem wpList_append_oneH {d : Tmp} {op : Op} {ty' : TypeId} {pos : String} {af : Array Edge} (s x : Operand) (t : TypeId)
    (hop : op = .call { callee := .builtin .append, args := #[s, x], argTypes := #[t, t] })
    (base : Nat) (e : TypeId) (i : TypeInfo) (z : Value) (size bytes : Nat) (ht : P.underlying t = some (.slice e)) (hi : P.info? e = some i) (hz : i.zero = some z)
    (hsize : i.size = size) (hby : i.bytes = bytes) (hzs : z.cells.size = size) (hsz : 0 < size)
    (v : Value) (n : Nat) (xs : List Value) (hs : a.eval s = v) (w1 : World) (hown : w1.ownsRow base e size v n xs)
    (cs : List Value) (e' : TypeId) (g c : Nat) (hx : a.eval x = .slice (some ⟨g, 0, none⟩) 1 c) (hg : g = w1.heap.size) (hw : w = w1.alloc (.cells cs.toArray e')) (hC : cs.length = size) (h1 : ∀ u ∈ cs, u.oneCell' = true)
    (h63 : n + 1 ≤ maxLen) (hbytes : (n + 1) * bytes ≤ 140737488355328) (hbase : base ≤ w1.heap.size)
    (h : ∀ g' cap w', w'.ownsRow base e size (.slice (some ⟨g', 0, none⟩) (n + 1) cap) (n + 1) (xs ++ cs) → Two w1 w' v.ownBlock none → New w1 v.ownBlock (some g') → wpList P ops Q rest (a.put (some d) (.slice (some ⟨g', 0, none⟩) (n + 1) cap)) w') : wpList P ops Q (⟨some d, op, ty', pos, af, none⟩ :: rest) a w := by
  subst hop
  subst hw
  subst hg
  refine wpList_append_lies (w1.alloc (.cells cs.toArray e')) rfl s x t rfl base e i z size bytes ht hi hz hsize hby hzs hsz v n xs hs (hown.alloc _) ⟨w1.heap.size, 0, none⟩ 1 c cs hx (by omega) ?_ h1 (by omega) h63 hbytes (by simp; omega) _ rfl (fun g' cap w' a b c d => h g' cap w' a ?_ ?_)
  · intro j u hu
    rw [Addr.add_mid, Nat.zero_add, cell_of_row _ w1.heap.size j cs.toArray e' (0, 0) (heap_alloc_new _ _)]
    simpa using hu
  · have hk : Kp w1 (w1.alloc (.cells cs.toArray e')) := (Kp.refl w1).alloc _
    exact (hk.two v.ownBlock none).trans (.inl rfl) (.inl rfl) (grown_two b none)
  · rcases c with c | c
    · exact .inl c.symm
    · exact .inr ⟨g', rfl, by rw [c]; simp⟩
end
/-- Nodes with their depths, as they lay in w0. -/
abbrev It (w0 : World) (R : Nat) := Item w0 (fun _ => False) R (fun _ => True)
/-- Two rows: the nodes, and their depths. -/
structure FS (w : World) (B : Nat) (vn vd : Value) {w0 : World} {R : Nat} (L : List (It w0 R)) : Prop where
  rn : w.ownsRow B 25 5 vn L.length (L.flatMap fun x => x.1.2.2.cells)
  rd : w.ownsRow B 3 1 vd L.length (L.map fun x => Value.int .i64 x.1.1)
theorem FS.keep {w w' : World} {B : Nat} {vn vd : Value} {w0 : World} {R : Nat} {L : List (It w0 R)} (h : FS w B vn vd L) (hk : Kp w w') : FS w' B vn vd L := ⟨own_keep h.rn hk, own_keep h.rd hk⟩
theorem FS.nil (w : World) (B : Nat) (w0 : World) (R : Nat) : FS w B (.slice none 0 0) (.slice none 0 0) ([] : List (It w0 R)) := ⟨World.ownsRow_nil _ _ _ _, World.ownsRow_nil _ _ _ _⟩
theorem own_two {w w' : World} {B : Nat} {e : TypeId} {m n : Nat} {v : Value} {xs : List Value} {a b : Option Nat} (h : w.ownsRow B e m v n xs) (hk : Two w w' a b) (ha : v.ownBlock = none ∨ v.ownBlock ≠ a) (hb : v.ownBlock = none ∨ v.ownBlock ≠ b) : w'.ownsRow B e m v n xs := by
  refine ⟨h.1, ?_⟩
  rcases h.2 with hv | ⟨g, cap, cur, hv, hg0, hg, rest⟩
  · exact .inl hv
  · refine .inr ⟨g, cap, cur, hv, hg0, (hk.blk _ (Array.getElem?_eq_some_iff.1 hg).1 ?_ ?_).trans hg, rest⟩
    · rcases ha with ha | ha
      · rw [hv] at ha; cases ha
      · rw [hv] at ha; exact ha
    · rcases hb with hb | hb
      · rw [hv] at hb; cases hb
      · rw [hv] at hb; exact hb
/-- The nodes' row as a table. -/
def itH {w0 : World} {R : Nat} (L : List (It w0 R)) (i : Nat) : Hn := match L[i]? with | some x => x.1.2.2 | none => ⟨0, .empty, 0, 0, none, 0, 0⟩
def itD {w0 : World} {R : Nat} (L : List (It w0 R)) (i : Nat) : Int := match L[i]? with | some x => x.1.1 | none => 0
theorem itH_at {w0 : World} {R : Nat} {L : List (It w0 R)} {i : Nat} {x : It w0 R} (h : L[i]? = some x) : itH L i = x.1.2.2 := by unfold itH; rw [h]
theorem itD_at {w0 : World} {R : Nat} {L : List (It w0 R)} {i : Nat} {x : It w0 R} (h : L[i]? = some x) : itD L i = x.1.1 := by unfold itD; rw [h]
theorem flat_take {β : Type} (L : List β) (C : Nat → List Value) (f : β → List Value) (h : ∀ i x, L[i]? = some x → C i = f x) : ∀ n, n ≤ L.length → flat C n = (L.take n).flatMap f
  | 0, _ => by simp [flat]
  | n + 1, hn => by
    have hx : L[n]? = some (L[n]'(by omega)) := List.getElem?_eq_getElem (by omega)
    rw [flat, flat_take L C f h n (by omega), h n _ hx, List.take_add_one, hx, Option.toList_some, List.flatMap_append, List.flatMap_singleton]
theorem flat_itH {w0 : World} {R : Nat} (L : List (It w0 R)) : (L.flatMap fun x => x.1.2.2.cells) = flat (fun i => (itH L i).cells) L.length := by
  rw [flat_take L _ (fun x => x.1.2.2.cells) (fun i x hx => by rw [itH_at hx]) L.length (Nat.le_refl _), List.take_length]
theorem flat_itD {w0 : World} {R : Nat} (L : List (It w0 R)) : (L.map fun x => Value.int .i64 x.1.1) = flat (fun i => [.int .i64 (itD L i)]) L.length := by
  rw [flat_take L _ (fun x => [Value.int .i64 x.1.1]) (fun i x hx => by rw [itD_at hx]) L.length (Nat.le_refl _), List.take_length]
  induction L with
  | nil => rfl
  | cons a l ih => simp [ih]
theorem FS.tabs {w : World} {B : Nat} {vn vd : Value} {w0 : World} {R : Nat} {L : List (It w0 R)} (h : FS w B vn vd L) : ∃ an cn ad cd, vn = .slice an L.length cn ∧ vd = .slice ad L.length cd ∧ tab w (From B) 25 an L.length cn 5 (fun i => (itH L i).cells) ∧ tab w (From B) 3 ad L.length cd 1 (fun i => [.int .i64 (itD L i)]) := by
  have h1 := h.rn
  have h2 := h.rd
  rw [flat_itH] at h1
  rw [flat_itD] at h2
  obtain ⟨an, cn, rfl, _, t1, _⟩ := tab_of_owns h1 (fun _ => rfl)
  obtain ⟨ad, cd, rfl, _, t2, _⟩ := tab_of_owns h2 (fun _ => rfl)
  exact ⟨an, cn, ad, cd, rfl, rfl, t1, t2⟩
end Go.Proofs.Ytgamenimbkafjaa
