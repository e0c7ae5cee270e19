/- Nodes as a plain datum, and how a node lies in memory. No condition; no program is walked here. -/
import Derived.Test.YtgamenimbkafjaaT0
import Derived.Test.YtgamenimbkafjaaChecked
import Derived.Deep.RegionHeld3
import Derived.Deep.AppendLies
import Derived.Maps.AppendAt
import Derived.BigQuiet
namespace Go.Proofs.Ytgamenimbkafjaa
open Go.RowKit
set_option linter.unusedVariables false
set_option linter.unusedSimpArgs false

/-- A node as it reads. -/
inductive Nd where
  | mk (k : Int) (tx : ByteArray) (n : Int) (at_ : Int) (kids : List Nd)
namespace Nd
def k : Nd → Int | .mk k _ _ _ _ => k
def tx : Nd → ByteArray | .mk _ t _ _ _ => t
def n : Nd → Int | .mk _ _ n _ _ => n
def at_ : Nd → Int | .mk _ _ _ a _ => a
def kids : Nd → List Nd | .mk _ _ _ _ l => l
end Nd
/-- A header: the five cells of a node. -/
structure Hn where
  k : Int
  tx : ByteArray
  n : Int
  at_ : Int
  la : Option Addr
  ll : Nat
  lc : Nat
abbrev Hn.cells (h : Hn) : List Value := [.int .i64 h.k, .string h.tx, .int .u64 h.n, .int .i64 h.at_, .slice h.la h.ll h.lc]
abbrev Hn.val (h : Hn) : Value := .agg #[.int .i64 h.k, .string h.tx, .int .u64 h.n, .int .i64 h.at_, .slice h.la h.ll h.lc]
theorem Hn.one (h : Hn) : ∀ u ∈ h.cells, u.oneCell' = true := by
  intro u hu; simp at hu; rcases hu with rfl | rfl | rfl | rfl | rfl <;> rfl
/-- What a header says of a node, and where its list lies; K i: the header of the i-th node in it. -/
structure Top (w : World) (B : Sel) (T : Nd) (h : Hn) (K : Nat → Hn) : Prop where
  ek : T.k = h.k
  et : T.tx = h.tx
  en : T.n = h.n
  ea : T.at_ = h.at_
  es : h.ll = T.kids.length
  rk : -9223372036854775808 ≤ h.k ∧ h.k ≤ 9223372036854775807
  rn : 0 ≤ h.n ∧ h.n ≤ 18446744073709551615
  ra : -9223372036854775808 ≤ h.at_ ∧ h.at_ ≤ 9223372036854775807
  rt : h.tx.size ≤ 140737488351232
  bl : h.ll * 64 ≤ 140737488351232
  cp : h.ll ≤ h.lc
  tl : tab w B 25 h.la h.ll h.lc 5 (fun i => (K i).cells)
theorem Top.turn {N : Nat → Prop} {w w' : World} {B : Sel} {T : Nd} {h : Hn} {K : Nat → Hn} (t : Top w B T h K) (hk : Fr N w w') (hs : w.heap.size ≤ w'.heap.size) (hN : ∀ b, b < w.heap.size → B.S b → ¬ N b) : Top w' B T h K :=
  { t with tl := t.tl.turn hk hs hN }
theorem Top.keep {w w' : World} {B : Sel} {T : Nd} {h : Hn} {K : Nat → Hn} (t : Top w B T h K) (hk : Kp w w') : Top w' B T h K := t.turn hk.fr hk.sz (fun _ _ _ h => h)
theorem Top.weak {w : World} {B B' : Sel} {T : Nd} {h : Hn} {K : Nat → Hn} (t : Top w B T h K) (hB : B'.le B) : Top w B' T h K :=
  { t with tl := t.tl.weak hB }
/-- The header h reads as the node T, of less than r nodes within one another. -/
def Lies (w : World) (B : Sel) : Nat → Nd → Hn → Prop
  | 0, _, _ => False
  | r + 1, T, h => ∃ K : Nat → Hn, Top w B T h K ∧ ∀ i X, T.kids[i]? = some X → Lies w B r X (K i)
theorem Lies.turn {N : Nat → Prop} {w w' : World} {B : Sel} (hk : Fr N w w') (hs : w.heap.size ≤ w'.heap.size) (hN : ∀ b, b < w.heap.size → B.S b → ¬ N b) : ∀ {r : Nat} {T : Nd} {h : Hn}, Lies w B r T h → Lies w' B r T h
  | 0, _, _, h => h
  | r + 1, _, _, ⟨K, t, hh⟩ => ⟨K, t.turn hk hs hN, fun i X hX => Lies.turn hk hs hN (hh i X hX)⟩
theorem Lies.keep {w w' : World} {B : Sel} (hk : Kp w w') {r : Nat} {T : Nd} {h : Hn} (hl : Lies w B r T h) : Lies w' B r T h := hl.turn hk.fr hk.sz (fun _ _ _ h => h)
theorem Lies.weak {w : World} {B B' : Sel} (hB : B'.le B) : ∀ {r : Nat} {T : Nd} {h : Hn}, Lies w B r T h → Lies w B' r T h
  | 0, _, _, h => h
  | r + 1, _, _, ⟨K, t, hh⟩ => ⟨K, t.weak hB, fun i X hX => Lies.weak hB (hh i X hX)⟩
theorem Lies.mono {w : World} {B : Sel} : ∀ {r r' : Nat} {T : Nd} {h : Hn}, Lies w B r T h → r ≤ r' → Lies w B r' T h
  | 0, _, _, _, h, _ => h.elim
  | r + 1, 0, _, _, _, hr => absurd hr (by omega)
  | r + 1, r' + 1, _, _, ⟨K, t, hh⟩, hr => ⟨K, t, fun i X hX => Lies.mono (hh i X hX) (by omega)⟩
theorem Lies.below {w : World} {B : Sel} {n : Nat} (hn : w.heap.size ≤ n) : ∀ {r : Nat} {T : Nd} {h : Hn}, Lies w B r T h → Lies w ⟨B.fresh, fun b => B.S b ∧ b < n⟩ r T h
  | 0, _, _, h => h
  | r + 1, _, _, ⟨K, t, hh⟩ => ⟨K, { t with tl := tab.below hn t.tl }, fun i X hX => Lies.below hn (hh i X hX)⟩
/-- A parameter's box reads as the header that came. -/
theorem boxed {w W : World} {h : Hn} {e : TypeId} (hk : Kp (w.alloc (.cells #[.int .i64 h.k, .string h.tx, .int .u64 h.n, .int .i64 h.at_, .slice h.la h.ll h.lc] e)) W) :
    W.cell? ⟨w.heap.size, 0, none⟩ = some (.int .i64 h.k) ∧ W.cell? ⟨w.heap.size, 1, none⟩ = some (.string h.tx) ∧ W.cell? ⟨w.heap.size, 2, none⟩ = some (.int .u64 h.n) ∧
    W.cell? ⟨w.heap.size, 3, none⟩ = some (.int .i64 h.at_) ∧ W.cell? ⟨w.heap.size, 4, none⟩ = some (.slice h.la h.ll h.lc) ∧ w.heap.size + 1 ≤ W.heap.size := by
  have hsz := hk.sz
  simp at hsz
  refine ⟨?_, ?_, ?_, ?_, ?_, hsz⟩ <;> exact hk.cellv (by rw [cell_of_row _ w.heap.size _ _ e (0, 0) (heap_alloc_new _ _)]; rfl)
/-- A node's five cells at a place. -/
theorem node_at {w : World} {b o : Nat} {h : Hn} (hr : w.rangeAt b o h.cells) : w.cell? ⟨b, o, none⟩ = some (.int .i64 h.k) ∧ w.cell? ⟨b, o + 1, none⟩ = some (.string h.tx) ∧ w.cell? ⟨b, o + 2, none⟩ = some (.int .u64 h.n) ∧ w.cell? ⟨b, o + 3, none⟩ = some (.int .i64 h.at_) ∧ w.cell? ⟨b, o + 4, none⟩ = some (.slice h.la h.ll h.lc) :=
  ⟨hr 0 _ rfl, hr 1 _ rfl, hr 2 _ rfl, hr 3 _ rfl, hr 4 _ rfl⟩
theorem infoN : (Try.prog.info? 25).map (fun i => (i.zero, i.size, i.bytes)) = some (some (.agg #[.int .i64 0, .string ⟨#[]⟩, .int .u64 0, .int .i64 0, .slice none 0 0]), 5, 64) := by kernel_rfl
/-- Some kids, in a row of the call's own; none of them lies in the row. -/
def KidsIn (w : World) (B : Nat) (r : Nat) (l : List Nd) (n : Nat) (v : Value) (K : Nat → Hn) : Prop :=
  w.ownsRow B 25 5 v n (flat (fun i => (K i).cells) n) ∧ ∀ i X, i < n → l[i]? = some X → Lies w ⟨True, fun b => B ≤ b ∧ some b ≠ v.ownBlock⟩ r X (K i)
theorem kidsIn_nil (w : World) (B r : Nat) (l : List Nd) (K : Nat → Hn) : KidsIn w B r l 0 (.slice none 0 0) K :=
  ⟨by simpa [flat] using World.ownsRow_nil _ _ _ _, fun i X hi => absurd hi (by omega)⟩
theorem KidsIn.turn {N : Nat → Prop} {w w' : World} {B r : Nat} {l : List Nd} {n : Nat} {v : Value} {K : Nat → Hn} (h : KidsIn w B r l n v K) (hk : Fr N w w') (hs : w.heap.size ≤ w'.heap.size) (hN : ∀ b, N b → b < B) : KidsIn w' B r l n v K := by
  refine ⟨?_, fun i X hi hX => (h.2 i X hi hX).turn hk hs (fun b _ hS hb => by have := hN b hb; have := hS.1; omega)⟩
  obtain ⟨hl, hv | ⟨g, cap, cur, rfl, hB, hg, rest⟩⟩ := h.1
  · exact ⟨hl, .inl hv⟩
  · exact ⟨hl, .inr ⟨g, cap, cur, rfl, hB, (hk g (Array.getElem?_eq_some_iff.1 hg).1 (fun hb => by have := hN g hb; omega)).trans hg, rest⟩⟩
theorem KidsIn.keep {w w' : World} {B r : Nat} {l : List Nd} {n : Nat} {v : Value} {K : Nat → Hn} (h : KidsIn w B r l n v K) (hk : Kp w w') : KidsIn w' B r l n v K :=
  h.turn (N := fun _ => False) hk.fr hk.sz (fun _ h => h.elim)
def put (K : Nat → Hn) (n : Nat) (h : Hn) (i : Nat) : Hn := if i = n then h else K i
theorem put_same (K : Nat → Hn) (n : Nat) (h : Hn) : put K n h n = h := if_pos rfl
theorem put_other (K : Nat → Hn) {n i : Nat} (h : Hn) (hi : i ≠ n) : put K n h i = K i := if_neg hi
/-- A round: the next kid is made, and appended. -/
theorem KidsIn.next {w w1 w2 w3 : World} {B r : Nat} {l : List Nd} {n : Nat} {v v' : Value} {K : Nat → Hn} {X : Nd} {h : Hn} (hB : B ≤ w.heap.size)
    (hI : KidsIn w B r l n v K) (hX : l[n]? = some X) (hk1 : Kp w w1) (hli : Lies w1 (From w.heap.size) r X h) (hk2 : Kp w1 w2)
    (hown : w3.ownsRow B 25 5 v' (n + 1) (flat (fun i => (K i).cells) n ++ h.cells)) (hg : w2.grownBy w3 v.ownBlock) (hat : v'.ownBlock = v.ownBlock ∨ v'.ownBlock = some w2.heap.size) :
    KidsIn w3 B r l (n + 1) v' (put K n h) := by
  have hlt := hI.1.lt
  have main : ∀ {Y : Nd} {hd : Hn} {S : Sel}, Lies w2 S r Y hd → (∀ b, S.S b → B ≤ b ∧ some b ≠ v.ownBlock) → S.fresh → Lies w3 ⟨True, fun b => B ≤ b ∧ some b ≠ v'.ownBlock⟩ r Y hd := by
    intro Y hd S hY hS hf
    have h0 : Lies w2 ⟨S.fresh, fun b => S.S b ∧ b < w2.heap.size⟩ r Y hd := hY.below (Nat.le_refl _)
    have h1 : Lies w3 ⟨S.fresh, fun b => S.S b ∧ b < w2.heap.size⟩ r Y hd := h0.turn (grown_fr hg) hg.size (fun b hb (hSb : S.S b ∧ b < w2.heap.size) e => (hS b hSb.1).2 e.symm)
    refine h1.weak (show Sel.le ⟨True, fun b => B ≤ b ∧ some b ≠ v'.ownBlock⟩ ⟨S.fresh, fun b => S.S b ∧ b < w2.heap.size⟩ from ⟨fun _ => hf, fun b hb => ⟨(hS b hb.1).1, ?_⟩⟩)
    rcases hat with hat | hat
    · rw [hat]; exact (hS b hb.1).2
    · rw [hat]; intro e; cases e; have := hb.2; omega
  refine ⟨?_, fun i Y hi hY => ?_⟩
  · rw [flat, put_same, flat_congr (C' := fun i => (K i).cells) (fun i hi => by rw [put_other K h (by omega)])]
    exact hown
  · by_cases hin : i = n
    · subst hin
      rw [put_same]
      obtain rfl := Option.some.inj (hY.symm.trans hX)
      refine main (S := From w.heap.size) (hli.keep hk2) (fun b hb => ?_) trivial
      have hb' : w.heap.size ≤ b := hb
      refine ⟨by omega, fun e => ?_⟩
      have := (hlt b e.symm).2
      omega
    · rw [put_other K h hin]
      exact main ((hI.2 i Y (by omega) hY).keep (hk1.trans hk2)) (fun b hb => hb) trivial
/-- At the end the row is a table. -/
theorem KidsIn.all {w : World} {B r : Nat} {l : List Nd} {n : Nat} {v : Value} {K : Nat → Hn} (h : KidsIn w B r l n v K) (hn : n = l.length) :
    ∃ ad c, v = .slice ad n c ∧ n ≤ c ∧ tab w (From B) 25 ad n c 5 (fun i => (K i).cells) ∧ ∀ i X, l[i]? = some X → Lies w (From B) r X (K i) := by
  obtain ⟨ad, c, rfl, hle, ht, _⟩ := tab_of_owns h.1 (fun _ => rfl)
  exact ⟨ad, c, rfl, hle, ht, fun i X hX => (h.2 i X (by have := (List.getElem?_eq_some_iff.1 hX).1; omega) hX).weak (show Sel.le (From B) ⟨True, fun b => B ≤ b ∧ some b ≠ (Value.slice ad n c).ownBlock⟩ from ⟨fun h => h, fun b hb => hb.1⟩)⟩
section
variable {P : Program} {w : World} {ops : Array Oper} {rest : List Oper} {a : Act} {Q : Exit → Act → World → Prop}
/-- A node is read out of memory. -/
theorem wpList_load_nd {d : Tmp} {op : Op} {ty' : TypeId} {pos : String} {af : Array Edge} (ty : TypeId) (x : Operand) (hop : op = Op.load ty x)
    (fs : Array Field) (hu : P.underlying ty = some (.struct fs)) (w0 : World) (b o b' o' : Nat) (hx : a.eval x = .pointer (some ⟨b, o, none⟩)) (hb : b = b') (ho : o = o') (h : Hn) (hc : w0.rangeAt b' o' h.cells) (hk : Kp w0 w)
    (hi : (P.info? ty).map (·.size) = some 5)
    (hK : wpList P ops Q rest (a.put (some d) (.agg #[.int .i64 h.k, .string h.tx, .int .u64 h.n, .int .i64 h.at_, .slice h.la h.ll h.lc])) w) :
    wpList P ops Q (⟨some d, op, ty', pos, af, none⟩ :: rest) a w :=
  wpList_load_range ty x hop fs hu w0 b o b' o' hx hb ho h.cells hc hk hi hK
end
theorem Kp.frz {a w : World} (h : Kp a w) {p : Addr} (hb : p.block < a.heap.size) : w.frozen? p = a.frozen? p := World.frozen?_of_block (h.blk hb)
theorem grown_frz {w w' : World} {row : Option Nat} {b j : Nat} (hg : w.grownBy w' row) (hb : b < w.heap.size) (hne : some b ≠ row) : w'.frozen? ⟨b, j, none⟩ = w.frozen? ⟨b, j, none⟩ := World.frozen?_of_block (hg.block b hb hne)
theorem row_cell {w : World} {g : Nat} {cs : Array Value} {t : TypeId} {fr : Nat × Nat} (hg : w.heap[g]? = some (.cells cs t fr)) (j : Nat) : w.cell? ⟨g, j, none⟩ = cs[j]? := cell_of_row w g j cs t fr hg
theorem Fr.set (w : World) (a : Addr) (v : Value) : Fr (fun k => k = a.block) w (w.setCell a v) := fun k hk hn => Below.heap_setCell _ _ _ _ hn
theorem Fr.trans {N : Nat → Prop} {a b c : World} (h : Fr N a b) (hs : a.heap.size ≤ b.heap.size) (k : Fr N b c) : Fr N a c := fun i hi hn => (k i (Nat.lt_of_lt_of_le hi hs) hn).trans (h i hi hn)
theorem Fr.mono {N N' : Nat → Prop} {a b : World} (h : Fr N a b) (hN : ∀ k, N k → N' k) : Fr N' a b := fun i hi hn => h i hi (fun x => hn (hN i x))
theorem Fr.setCell {N : Nat → Prop} {w0 w : World} (h : Fr N w0 w) (hs : w0.heap.size ≤ w.heap.size) {a : Addr} (ha : N a.block) (v : Value) : Fr N w0 (w.setCell a v) := h.trans hs ((Fr.set w a v).mono (fun k hk => by rw [hk]; exact ha))
theorem Fr.keep {N : Nat → Prop} {w0 w w' : World} (h : Fr N w0 w) (hs : w0.heap.size ≤ w.heap.size) (hk : Kp w w') : Fr N w0 w' := h.trans hs (hk.fr.mono (fun _ h => h.elim))
theorem Fr.refl (N : Nat → Prop) (w : World) : Fr N w w := fun _ _ _ => rfl
theorem From_le {a b : Nat} (h : a ≤ b) : (From a).le (From b) := ⟨fun h => h, fun x hx => Nat.le_trans h hx⟩
theorem heap_at {w : World} {o : Obj} {n : Nat} (h : n = w.heap.size) : (w.alloc o).heap[n]? = some o := by subst h; exact heap_alloc_new w o
end Go.Proofs.Ytgamenimbkafjaa
