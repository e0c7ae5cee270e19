/- What was there stays as it was; tables of elements in memory. No condition; no program is walked here. -/
import Derived.WalkKit
import Derived.Lib.Hide
import Derived.Deep.MidRow
import Derived.Deep.QuietTactic
import Derived.Laws.AppendOwnNone
namespace Go.Proofs.Ytkkcoaecidjecaa
open Go.RowKit
set_option linter.unusedVariables false

/-- Of what was there nothing has turned; new blocks may lie behind it. -/
def Kp (w w' : World) : Prop := Below w.heap.size w w'
theorem Kp.refl (w : World) : Kp w w := Below.refl _ _
theorem Kp.trans {a b c : World} (h : Kp a b) (k : Kp b c) : Kp a c := Below.trans h (Below.mono k h.size)
theorem Kp.back {a b c : World} (k : Kp b c) (h : Kp a b) : Kp a c := h.trans k
theorem Kp.alloc {a w : World} (h : Kp a w) (o : Obj) : Kp a (w.alloc o) := Below.alloc h h.size o
theorem Kp.setCell {a w : World} (h : Kp a w) {p : Addr} (hp : a.heap.size ≤ p.block) (v : Value) : Kp a (w.setCell p v) := Below.setCell h hp v
theorem Kp.drew {a w : World} (h : Kp a w) : Kp a w.drew := Below.drew h
theorem Kp.drewN {a w : World} (h : Kp a w) (n : Nat) : Kp a (w.drewN n) := ⟨h.os, h.tape, h.output, h.size, h.block⟩
theorem Kp.grown {a w w' : World} {row : Option Nat} (h : Kp a w) (hg : w.grownBy w' row) (hr : ∀ k, row = some k → a.heap.size ≤ k) : Kp a w' := Below.grown h hg h.size hr
theorem Kp.sz {a w : World} (h : Kp a w) : a.heap.size ≤ w.heap.size := h.size
theorem Kp.blk {a w : World} (h : Kp a w) {b : Nat} (hb : b < a.heap.size) : w.heap[b]? = a.heap[b]? := h.block b hb

theorem lt_of_cell {w : World} {a : Addr} {v : Value} (h : w.cell? a = some v) : a.block < w.heap.size := block_lt_of_cell h
theorem Kp.cellv {a w : World} (h : Kp a w) {p : Addr} {v : Value} (hc : a.cell? p = some v) : w.cell? p = some v := by
  rw [← hc]; exact World.cell?_of_block (h.blk (lt_of_cell hc))
theorem Kp.range {a w : World} (h : Kp a w) {b o : Nat} {cs : List Value} (hc : a.rangeAt b o cs) : w.rangeAt b o cs := fun j v hv => h.cellv (hc j v hv)

/-- What is asked of the blocks that a type lies in: whether each table is a block of its own, and which blocks they may be. -/
structure Sel where
  fresh : Prop
  S : Nat → Prop
/-- Nothing is asked. -/
def A0 : Sel := ⟨False, fun _ => True⟩
/-- Blocks of their own, from n on. -/
def From (n : Nat) : Sel := ⟨True, fun b => n ≤ b⟩
/-- B asks no more than B'. -/
def Sel.le (B B' : Sel) : Prop := (B.fresh → B'.fresh) ∧ ∀ b, B'.S b → B.S b
theorem A0_le (B : Sel) : A0.le B := ⟨fun h => h.elim, fun _ _ => trivial⟩
/-- But for the blocks of N nothing of what was there has turned. -/
def Fr (N : Nat → Prop) (w w' : World) : Prop := ∀ k, k < w.heap.size → ¬ N k → w'.heap[k]? = w.heap[k]?
/-- A table: the address a of n elements (room for c) of m cells each, the i-th of which holds C i. -/
def tab (w : World) (B : Sel) (e : TypeId) (a : Option Addr) (n c m : Nat) (C : Nat → List Value) : Prop :=
  (a = none → n = 0 ∧ c = 0) ∧ (0 < n → ∃ b o, a = some ⟨b, o, none⟩ ∧ B.S b ∧ b < w.heap.size ∧ (B.fresh → o = 0 ∧ ∃ cur, w.heap[b]? = some (.cells cur e (0, 0))) ∧ ∀ i, i < n → w.rangeAt b (o + i * m) (C i))
theorem Fr.range {N : Nat → Prop} {w w' : World} (hk : Fr N w w') {b o : Nat} {cs : List Value} (hb : ¬ N b) (hc : w.rangeAt b o cs) : w'.rangeAt b o cs := fun j v hv => by
  have := hc j v hv
  rw [← this]
  exact World.cell?_of_block (hk _ (lt_of_cell this) hb)
theorem tab.turn {N : Nat → Prop} {w w' : World} {B : Sel} {e : TypeId} {a : Option Addr} {n c m : Nat} {C : Nat → List Value} (h : tab w B e a n c m C) (hk : Fr N w w') (hs : w.heap.size ≤ w'.heap.size) (hN : ∀ b, b < w.heap.size → B.S b → ¬ N b) : tab w' B e a n c m C := ⟨h.1, fun hn => by
  obtain ⟨b, o, ha, hB, hl, hf, hr⟩ := h.2 hn
  refine ⟨b, o, ha, hB, by omega, fun h0 => ?_, fun i hi => hk.range (hN b hl hB) (hr i hi)⟩
  obtain ⟨h1, cur, hc⟩ := hf h0
  exact ⟨h1, cur, (hk b hl (hN b hl hB)).trans hc⟩⟩
theorem Kp.fr {w w' : World} (h : Kp w w') : Fr (fun _ => False) w w' := fun k hk _ => h.blk hk
theorem tab.keep {w w' : World} {B : Sel} {e : TypeId} {a : Option Addr} {n c m : Nat} {C : Nat → List Value} (h : tab w B e a n c m C) (hk : Kp w w') : tab w' B e a n c m C := h.turn hk.fr hk.sz (fun _ _ _ h => h)
theorem tab.congr {w : World} {B : Sel} {e : TypeId} {a : Option Addr} {n c m : Nat} {C C' : Nat → List Value} (h : tab w B e a n c m C) (hC : ∀ i, i < n → C i = C' i) : tab w B e a n c m C' := ⟨h.1, fun hn => by
  obtain ⟨b, o, ha, hB, hl, hf, hr⟩ := h.2 hn
  exact ⟨b, o, ha, hB, hl, hf, fun i hi => hC i hi ▸ hr i hi⟩⟩
theorem tab.weak {w : World} {B B' : Sel} {e : TypeId} {a : Option Addr} {n c m : Nat} {C : Nat → List Value} (h : tab w B e a n c m C) (hB : B'.le B) : tab w B' e a n c m C := ⟨h.1, fun hn => by
  obtain ⟨b, o, ha, h1, hl, hf, hr⟩ := h.2 hn
  exact ⟨b, o, ha, hB.2 b h1, hl, fun h0 => hf (hB.1 h0), hr⟩⟩
theorem tab.below {w : World} {B : Sel} {e : TypeId} {a : Option Addr} {n c m : Nat} {C : Nat → List Value} {x : Nat} (hx : w.heap.size ≤ x) (h : tab w B e a n c m C) : tab w ⟨B.fresh, fun b => B.S b ∧ b < x⟩ e a n c m C := ⟨h.1, fun hn => by
  obtain ⟨b, o, ha, h1, hl, hf, hr⟩ := h.2 hn
  exact ⟨b, o, ha, ⟨h1, by omega⟩, hl, hf, hr⟩⟩
theorem tab_nil (w : World) (B : Sel) (e : TypeId) (m : Nat) (C : Nat → List Value) : tab w B e none 0 0 m C := ⟨fun _ => ⟨rfl, rfl⟩, fun h => absurd h (by omega)⟩
/-- Where the i-th element lies. -/
theorem tab.at {w : World} {B : Sel} {e : TypeId} {a : Option Addr} {n c m : Nat} {C : Nat → List Value} (h : tab w B e a n c m C) (hn : 0 < n) : ∃ b o, a = some ⟨b, o, none⟩ ∧ ∀ i, i < n → w.rangeAt b (o + i * m) (C i) := by
  obtain ⟨b, o, ha, _, _, _, hr⟩ := h.2 hn
  exact ⟨b, o, ha, hr⟩

/-- The first n elements' cells in one row. -/
def flat (C : Nat → List Value) : Nat → List Value
  | 0 => []
  | n + 1 => flat C n ++ C n
theorem flat_len {C : Nat → List Value} {m : Nat} (hC : ∀ i, (C i).length = m) : ∀ n, (flat C n).length = n * m
  | 0 => by simp [flat]
  | n + 1 => by rw [flat, List.length_append, flat_len hC n, hC, Nat.add_mul, Nat.one_mul]
theorem flat_at {C : Nat → List Value} {m : Nat} (hC : ∀ i, (C i).length = m) : ∀ {n i j : Nat} {v : Value}, i < n → (C i)[j]? = some v → (flat C n)[i * m + j]? = some v
  | 0, _, _, _, h, _ => absurd h (by omega)
  | n + 1, i, j, v, h, hv => by
    have hj : j < m := by have := (List.getElem?_eq_some_iff.1 hv).1; rw [hC] at this; exact this
    by_cases hi : i < n
    · have hlt : i * m + j < n * m := by
        have := Nat.mul_le_mul_right m (show i + 1 ≤ n from hi)
        rw [Nat.add_mul] at this; omega
      rw [flat, List.getElem?_append_left (by rw [flat_len hC]; exact hlt)]
      exact flat_at hC hi hv
    · obtain rfl : i = n := by omega
      rw [flat, List.getElem?_append_right (by rw [flat_len hC]; omega), flat_len hC, show i * m + j - i * m = j from by omega]
      exact hv
theorem flat_congr {C C' : Nat → List Value} : ∀ {n : Nat}, (∀ i, i < n → C i = C' i) → flat C n = flat C' n
  | 0, _ => rfl
  | n + 1, h => by rw [flat, flat, flat_congr (fun i hi => h i (by omega)), h n (by omega)]
theorem flat_add {C : Nat → List Value} : ∀ (n m : Nat), flat C (n + m) = flat C n ++ flat (fun i => C (n + i)) m
  | n, 0 => by simp [flat]
  | n, m + 1 => by rw [← Nat.add_assoc, flat, flat_add n m, flat, List.append_assoc]
theorem flat_mem {C : Nat → List Value} {p : Value → Prop} (hC : ∀ i, ∀ u ∈ C i, p u) : ∀ (n : Nat), ∀ u ∈ flat C n, p u
  | 0, u, h => by simp [flat] at h
  | n + 1, u, h => by
    rw [flat, List.mem_append] at h
    rcases h with h | h
    · exact flat_mem hC n u h
    · exact hC n u h
theorem rangeAt_flat {w : World} {b o m : Nat} {C : Nat → List Value} (hC : ∀ i, (C i).length = m) : ∀ {n : Nat}, (∀ i, i < n → w.rangeAt b (o + i * m) (C i)) → w.rangeAt b o (flat C n)
  | 0, _ => fun j v h => by simp [flat] at h
  | n + 1, h => fun j v hv => by
    rw [flat, List.getElem?_append] at hv
    split at hv
    · exact rangeAt_flat hC (fun i hi => h i (by omega)) j v hv
    · rename_i hlt
      rw [flat_len hC] at hv hlt
      have := h n (by omega) (j - n * m) v hv
      rwa [show o + n * m + (j - n * m) = o + j from by omega] at this

/-- What the call has built reads as a table. -/
theorem tab_of_owns {w : World} {B : Nat} {e : TypeId} {v : Value} {n m : Nat} {C : Nat → List Value} (h : w.ownsRow B e m v n (flat C n)) (hC : ∀ i, (C i).length = m) :
    ∃ ad c, v = .slice ad n c ∧ n ≤ c ∧ tab w (From B) e ad n c m C ∧ (0 < n → ∃ g, v.ownBlock = some g ∧ ∃ o, ad = some ⟨g, o, none⟩) := by
  obtain ⟨hl, h | ⟨g, cap, cur, rfl, hB, hg, hc, hm, hs, ht⟩⟩ := h
  · obtain ⟨rfl, rfl⟩ := h
    exact ⟨none, 0, rfl, Nat.le_refl _, tab_nil _ _ _ _ _, fun h => absurd h (by omega)⟩
  · refine ⟨_, _, rfl, hc, (⟨fun h => (by cases h), fun hn => ⟨g, 0, rfl, hB, (Array.getElem?_eq_some_iff.1 hg).1, fun _ => ⟨rfl, cur, hg⟩, fun i hi j v hv => ?_⟩⟩ : tab w (From B) e _ n cap m C), fun _ => ⟨g, rfl, 0, rfl⟩⟩
    have := flat_at hC hi hv
    rw [← ht, List.getElem?_take] at this
    split at this
    · rw [cell_of_row w g _ cur e (0, 0) hg, Nat.zero_add]
      simpa using this
    · cases this

/-- The bounds that every slice of so many bytes an element meets. -/
def fits (n c bytes : Nat) : Prop := n ≤ c ∧ c * bytes ≤ 140737488351232

/-! ### laws at the operation -/
section
variable {P : Program} {w : World} {ops : Array Oper} {rest : List Oper} {a : Act} {Q : Exit → Act → World → Prop}
/-- An index into a table. -/
theorem wpList_index_tab {d : Tmp} {op : Op} {ty : TypeId} {pos : String} {af : Array Edge} (t : TypeId) (x i : Operand) (hop : op = Op.indexAddr t x i)
    (e : TypeId) (ht : P.underlying t = some (.slice e)) (m : Nat) (hm : (P.info? e).map (·.size) = some m)
    (ad : Option Addr) (n c b o : Nat) (hx : a.eval x = .slice ad n c) (had : ad = some ⟨b, o, none⟩) (j : Nat) (hi : a.eval i = .int .i64 j) (hj : j < n)
    (hK : wpList P ops Q rest (a.put (some d) (.pointer (some ⟨b, o + j * m, none⟩))) w) :
    wpList P ops Q (⟨some d, op, ty, pos, af, none⟩ :: rest) a w := by
  subst hop
  subst had
  refine wpList_plain rfl fun K' hK' => ?_
  obtain ⟨ii, hii, hs⟩ := Option.map_eq_some_iff.1 hm
  have hlt : (j : Int) < (n : Int) := by omega
  have hrun : (Instr.indexAt t (.slice (some ⟨b, o, none⟩) n c) (.int .i64 (j : Int))).run P w = .ok (.pointer (some ⟨b, o + j * m, none⟩)) w := by
    have he : P.elem t = e := by simp [Program.elem, ht]
    rw [run_indexAt_slice w t _ n c .i64 j (by rw [he]; exact ht), if_pos ⟨by omega, hlt⟩, he]
    simp [sizeOf, typeInfo, hii, hs, Result.andThen, Addr.add_mid]
  unfold Oper.wp
  simp [execOp, hx, hi, hrun, Result.andThen]
  exact hK' _ _ hK
/-- A type is read out of memory. -/
theorem wpList_load_range {d : Tmp} {op : Op} {ty' : TypeId} {pos : String} {af : Array Edge} (ty : TypeId) (x : Operand) (hop : op = Op.load ty x)
    (fs : Array Field) (hu : P.underlying ty = some (.struct fs)) (w0 : World) (b o b' o' : Nat) (hx : a.eval x = .pointer (some ⟨b, o, none⟩)) (hb : b = b') (ho : o = o') (cs : List Value) (hc : w0.rangeAt b' o' cs) (hk : Kp w0 w)
    (hi : (P.info? ty).map (·.size) = some cs.length)
    (hK : wpList P ops Q rest (a.put (some d) (.agg cs.toArray)) w) :
    wpList P ops Q (⟨some d, op, ty', pos, af, none⟩ :: rest) a w := by
  subst hop
  subst hb
  subst ho
  exact wpList_load_mid rfl ty x rfl b o hx cs (.struct fs) (hk.range hc) hu rfl hi hK
/-- A whole table is appended to a row of the call's own. -/
theorem wpList_append_tab {d : Tmp} {op : Op} {ty' : TypeId} {pos : String} {af : Array Edge} (s x : Operand) (t : TypeId)
    (hop : op = .call { callee := .builtin .append, args := #[s, x], argTypes := #[t, t] })
    (base : Nat) (e : TypeId) (i : TypeInfo) (z : Value) (size bytes : Nat) (ht : P.underlying t = some (.slice e)) (hi : P.info? e = some i) (hz : i.zero = some z)
    (hsize : i.size = size) (hby : i.bytes = bytes) (hzs : z.cells.size = size) (hsz : 0 < size)
    (v : Value) (n : Nat) (xs : List Value) (hs : a.eval s = v) (hown : w.ownsRow base e size v n xs)
    (w0 : World) (B : Sel) (ad : Option Addr) (m c : Nat) (C : Nat → List Value) (hx : a.eval x = .slice ad m c) (htab : tab w0 B e ad m c size C) (hk : Kp w0 w) (hC : ∀ i, (C i).length = size) (h1 : ∀ i, ∀ u ∈ C i, u.oneCell' = true)
    (h63 : n + m ≤ maxLen) (hbytes : (n + m) * bytes ≤ 140737488355328) (hbase : base ≤ w.heap.size)
    (h : ∀ v' w', w'.ownsRow base e size v' (n + m) (xs ++ flat C m) → w.grownBy w' v.ownBlock → wpList P ops Q rest (a.put (some d) v') w') : wpList P ops Q (⟨some d, op, ty', pos, af, none⟩ :: rest) a w := by
  subst hop
  cases ad with
  | none =>
    obtain ⟨rfl, rfl⟩ := htab.1 rfl
    exact wpList_append_own_none rfl s x t rfl base e i size ht hi v n xs hs hown hx (h v w (by simpa [flat] using hown) (World.grownBy.refl w _))
  | some ad =>
    refine wpList_append_own w rfl s x t rfl base e i z size bytes ht hi hz hsize hby hzs hsz v n xs hs hown ad m c (flat C m) hx (flat_len hC m) ?_ (flat_mem h1 m) h63 hbytes hbase (fun v' w' a b _ => h v' w' a b)
    intro j u hu
    by_cases hm : 0 < m
    · obtain ⟨b, o, hb, hr⟩ := (htab.keep hk).at hm
      obtain rfl := Option.some.inj hb
      rw [Addr.add_mid]
      exact rangeAt_flat hC hr j u hu
    · obtain rfl : m = 0 := by omega
      simp [flat] at hu
/-- One element is appended: it lies in a new block. -/
theorem wpList_append_one {d : Tmp} {op : Op} {ty' : TypeId} {pos : String} {af : Array Edge} (s x : Operand) (t : TypeId)
    (hop : op = .call { callee := .builtin .append, args := #[s, x], argTypes := #[t, t] })
    (base : Nat) (e : TypeId) (i : TypeInfo) (z : Value) (size bytes : Nat) (ht : P.underlying t = some (.slice e)) (hi : P.info? e = some i) (hz : i.zero = some z)
    (hsize : i.size = size) (hby : i.bytes = bytes) (hzs : z.cells.size = size) (hsz : 0 < size)
    (v : Value) (n : Nat) (xs : List Value) (hs : a.eval s = v) (w1 : World) (hown : w1.ownsRow base e size v n xs)
    (cs : List Value) (e' : TypeId) (g c : Nat) (hx : a.eval x = .slice (some ⟨g, 0, none⟩) 1 c) (hg : g = w1.heap.size) (hw : w = w1.alloc (.cells cs.toArray e')) (hC : cs.length = size) (h1 : ∀ u ∈ cs, u.oneCell' = true)
    (h63 : n + 1 ≤ maxLen) (hbytes : (n + 1) * bytes ≤ 140737488355328) (hbase : base ≤ w1.heap.size)
    (h : ∀ v' w', w'.ownsRow base e size v' (n + 1) (xs ++ cs) → w.grownBy w' v.ownBlock → wpList P ops Q rest (a.put (some d) v') w') : wpList P ops Q (⟨some d, op, ty', pos, af, none⟩ :: rest) a w := by
  subst hop
  subst hw
  subst hg
  refine wpList_append_own (w1.alloc (.cells cs.toArray e')) rfl s x t rfl base e i z size bytes ht hi hz hsize hby hzs hsz v n xs hs (hown.alloc _) ⟨w1.heap.size, 0, none⟩ 1 c cs hx (by omega) ?_ h1 h63 hbytes (by simp; omega) (fun v' w' a b _ => h v' w' a b)
  intro j u hu
  rw [Addr.add_mid, Nat.zero_add, cell_of_row _ w1.heap.size j cs.toArray e' (0, 0) (heap_alloc_new _ _)]
  simpa using hu
end
/-- The row of the call's own is a new block: what was there stays. -/
theorem own_new {w : World} {B : Nat} {e : TypeId} {m n : Nat} {v : Value} {xs : List Value} (h : w.ownsRow B e m v n xs) : ∀ k, v.ownBlock = some k → B ≤ k := fun k hk => (h.lt k hk).1
/-- But for block b nothing of what was there has turned. -/
def Ke (b : Nat) (w w' : World) : Prop := w'.os = w.os ∧ w'.tape = w.tape ∧ w'.output = w.output ∧ w.heap.size ≤ w'.heap.size ∧ ∀ k, k < w.heap.size → k ≠ b → w'.heap[k]? = w.heap[k]?
theorem Ke.refl (b : Nat) (w : World) : Ke b w w := ⟨rfl, rfl, rfl, Nat.le_refl _, fun _ _ _ => rfl⟩
theorem Ke.kp {b : Nat} {w w' w'' : World} (h : Ke b w w') (k : Kp w' w'') : Ke b w w'' :=
  ⟨k.os.trans h.1, k.tape.trans h.2.1, k.output.trans h.2.2.1, Nat.le_trans h.2.2.2.1 k.size, fun i hi hb => (k.blk (Nat.lt_of_lt_of_le hi h.2.2.2.1)).trans (h.2.2.2.2 i hi hb)⟩
theorem Ke.alloc {b : Nat} {w w' : World} (h : Ke b w w') (o : Obj) : Ke b w (w'.alloc o) := h.kp ((Kp.refl _).alloc o)
theorem Ke.setCell {b : Nat} {w w' : World} (h : Ke b w w') {p : Addr} (hp : p.block = b) (v : Value) : Ke b w (w'.setCell p v) :=
  ⟨h.1, h.2.1, h.2.2.1, by rw [World.size_setCell]; exact h.2.2.2.1, fun i hi hb => (Below.heap_setCell _ _ _ _ (by rw [hp]; exact hb)).trans (h.2.2.2.2 i hi hb)⟩
theorem Ke.old {b : Nat} {w0 w w' : World} (h : Ke b w w') (k : Kp w0 w) (hb : w0.heap.size ≤ b) : Kp w0 w' :=
  ⟨h.1.trans k.os, h.2.1.trans k.tape, h.2.2.1.trans k.output, Nat.le_trans k.size h.2.2.2.1, fun i hi => (h.2.2.2.2 i (Nat.lt_of_lt_of_le hi k.size) (by omega)).trans (k.blk hi)⟩
theorem Ke.range {b : Nat} {w w' : World} (h : Ke b w w') {b' o : Nat} {cs : List Value} (hb : b' ≠ b) (hc : w.rangeAt b' o cs) : w'.rangeAt b' o cs := fun j v hv => by
  have := hc j v hv
  rw [← this]
  exact World.cell?_of_block (h.2.2.2.2 _ (lt_of_cell this) hb)
theorem Ke.fr {b : Nat} {w w' : World} (h : Ke b w w') : Fr (fun k => k = b) w w' := fun k hk hn => h.2.2.2.2 k hk hn
theorem tab.ke {b : Nat} {w w' : World} {B : Sel} {e : TypeId} {a : Option Addr} {n c m : Nat} {C : Nat → List Value} (h : tab w B e a n c m C) (hB : ∀ b', B.S b' → b' ≠ b) (hk : Ke b w w') : tab w' B e a n c m C :=
  h.turn hk.fr hk.2.2.2.1 (fun b' _ hS e => hB b' hS e)
theorem grown_fr {w w' : World} {row : Option Nat} (hg : w.grownBy w' row) : Fr (fun k => row = some k) w w' := fun k hk hn => hg.block k hk (fun e => hn e.symm)
/-- A box of two reads as it was filled, and may be written. -/
theorem box2 {w W : World} {x y : Value} {e : TypeId} (hk : Kp (w.alloc (.cells #[x, y] e)) W) :
    W.cell? ⟨w.heap.size, 0, none⟩ = some x ∧ W.cell? ⟨w.heap.size, 1, none⟩ = some y ∧ (∀ j, W.frozen? ⟨w.heap.size, j, none⟩ = false) ∧ w.heap.size + 1 ≤ W.heap.size := by
  have hsz := hk.sz
  simp at hsz
  have hb := (hk.blk (b := w.heap.size) (by simp)).trans (heap_alloc_new _ _)
  exact ⟨hk.cellv (by rw [cell_of_row _ w.heap.size _ _ e (0, 0) (heap_alloc_new _ _)]; rfl), hk.cellv (by rw [cell_of_row _ w.heap.size _ _ e (0, 0) (heap_alloc_new _ _)]; rfl), fun j => frozen_of_row _ _ _ _ e hb, hsz⟩
theorem Kp.own {w W w' w0 : World} {o : Obj} {e : TypeId} {m n : Nat} {v : Value} {xs : List Value} (h : Kp (w.alloc o) W) (ho : w0.ownsRow (w.heap.size + 1) e m v n xs) (hg : W.grownBy w' v.ownBlock) : Kp (w.alloc o) w' :=
  h.grown hg (fun k hk => by have := own_new ho k hk; simp; omega)
theorem rangeAt_tail {w : World} {b o : Nat} {v : Value} {cs : List Value} (h : w.rangeAt b o (v :: cs)) : w.rangeAt b (o + 1) cs := fun j u hu => by
  have := h (j + 1) u (by simpa using hu)
  rwa [show o + (j + 1) = o + 1 + j from by omega] at this
theorem rangeAt_head {w : World} {b o : Nat} {v : Value} {cs : List Value} (h : w.rangeAt b o (v :: cs)) : w.cell? ⟨b, o, none⟩ = some v := by
  simpa using h 0 v rfl
end Go.Proofs.Ytkkcoaecidjecaa
