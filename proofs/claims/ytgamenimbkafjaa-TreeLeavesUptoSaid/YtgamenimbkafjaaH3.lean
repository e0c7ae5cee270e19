/- Names of package tree: the names that stand in a node, each once. Condition: the node lies in memory, and has not more nodes than a row may hold. -/
import Derived.Test.YtgamenimbkafjaaI2
import Derived.Test.YtgamenimbkafjaaH1
import Derived.Test.YtgamenimbkafjaaC1
import Derived.Carry
import Derived.Maps.OwnIn
namespace Go.Proofs.Ytgamenimbkafjaa
open Go.RowKit Go.Shelf
open Go.Maps (Keyed)
open Go.WideMaps
set_option linter.unusedVariables false
set_option linter.unusedSimpArgs false
attribute [local go_sem] Oper.semAt_some

/-- The names so far, and one node more. -/
noncomputable def nameStep (l : List ByteArray) (y : Int × Nd) : List ByteArray := @ite _ ((y.2.k = 30 ∨ y.2.k = 10) ∧ y.2.tx ∉ l) (Classical.propDecidable _) (l ++ [y.2.tx]) l
noncomputable def namesL (L : List (Int × Nd)) : List ByteArray := L.foldl nameStep []
theorem namesL_snoc (L : List (Int × Nd)) (y : Int × Nd) : namesL (L ++ [y]) = nameStep (namesL L) y := by unfold namesL; rw [List.foldl_append]; rfl
theorem nameStep_yes {l : List ByteArray} {y : Int × Nd} (h : (y.2.k = 30 ∨ y.2.k = 10) ∧ y.2.tx ∉ l) : nameStep l y = l ++ [y.2.tx] := by unfold nameStep; exact @if_pos _ (Classical.propDecidable _) h _ _ _
theorem nameStep_no {l : List ByteArray} {y : Int × Nd} (h : ¬ ((y.2.k = 30 ∨ y.2.k = 10) ∧ y.2.tx ∉ l)) : nameStep l y = l := by unfold nameStep; exact @if_neg _ (Classical.propDecidable _) h _ _ _
theorem namesL_len : ∀ (L : List (Int × Nd)), (namesL L).length ≤ L.length := by
  intro L
  suffices h : ∀ (L : List (Int × Nd)) (a : List ByteArray), (L.foldl nameStep a).length ≤ a.length + L.length by have := h L []; simpa [namesL] using this
  intro L
  induction L with
  | nil => intro a; simp
  | cons y L ih =>
    intro a
    have h1 := ih (nameStep a y)
    have h2 : (nameStep a y).length ≤ a.length + 1 := by
      by_cases hc : (y.2.k = 30 ∨ y.2.k = 10) ∧ y.2.tx ∉ a
      · rw [nameStep_yes hc]; simp
      · rw [nameStep_no hc]; omega
    rw [List.foldl_cons, List.length_cons]
    omega
/-- What the map holds: a count for each name so far. -/
def CntOf (f : ByteArray → Option Value) (l : List ByteArray) (n : Nat) : Prop := ∀ s, (s ∉ l → f s = none) ∧ (s ∈ l → ∃ c : Nat, 1 ≤ c ∧ c ≤ n ∧ f s = some (.int .i64 c))
theorem own_grown {A B : World} {row : Option Nat} {base : Nat} {e : TypeId} {m n : Nat} {v : Value} {xs : List Value} (h : A.ownsRow base e m v n xs) (hg : A.grownBy B row) (hr : ∀ r, row = some r → ∃ o : Obj, A.heap[r]? = some o ∧ o.isCells = false) : B.ownsRow base e m v n xs := by
  refine ⟨h.1, ?_⟩
  rcases h.2 with hv | ⟨g, cap, cur, hv, hg0, hgg, rest⟩
  · exact .inl hv
  · refine .inr ⟨g, cap, cur, hv, hg0, (hg.block g (Array.getElem?_eq_some_iff.1 hgg).1 (fun e => ?_)).trans hgg, rest⟩
    obtain ⟨o, ho, hc⟩ := hr g e.symm
    rw [hgg] at ho
    cases ho
    cases hc
theorem lies_hd {w : World} {B : Sel} {r : Nat} {T : Nd} {h : Hn} (hl : Lies w B r T h) : T.k = h.k ∧ T.tx = h.tx ∧ h.tx.size ≤ 140737488351232 := by
  cases r with
  | zero => exact hl.elim
  | succ r => obtain ⟨K, t, _⟩ := hl; exact ⟨t.ek, t.et, t.rt⟩
/-- A body that writes what it owns. -/
theorem Cef.mk' {D : Dyn} {W W' : World} (hs : W.heap.size ≤ W'.heap.size) (hblk : ∀ b, b < W.heap.size → ¬ D.At W b → W'.heap[b]? = W.heap[b]?)
    (hQ : D.n0 ≤ W.heap.size → ∀ q, D.Q q → ∀ v, W'.cell? q = some v → ∀ g, v.ownBlock = some g → (D.At W g ∨ W.heap.size ≤ g) ∧ g < W'.heap.size) : Cef D W W' :=
  ⟨hs, fun _ p v hp hc => (cell_blk (hblk p.block (lt_of_cell hc) hp)).trans hc,
   fun hn b hb => by
     rcases hb with hb | ⟨q, v, hq, hv, ho⟩
     · exact .inl (.inl hb)
     · exact (hQ hn q hq v hv b ho).1,
   fun hn _ b hb => by
     rcases hb with hb | ⟨q, v, hq, hv, ho⟩
     · exact Nat.lt_of_lt_of_le (D.hC b hb) (Nat.le_trans hn hs)
     · exact (hQ hn q hq v hv b ho).2⟩
theorem KeepsFrom.of_two {B : Nat} {W W' : World} {a b : Option Nat} (h : Two W W' a b) (ha : ∀ g, a = some g → ∃ o, W.heap[g]? = some o ∧ o.isCells = true) (hb : ∀ g, b = some g → ∃ o, W.heap[g]? = some o ∧ o.isCells = true) : KeepsFrom B W W' :=
  ⟨h.sz, fun k o _ hk ho => (h.blk k (Array.getElem?_eq_some_iff.1 hk).1 (fun e => by
      obtain ⟨o', h1, h2⟩ := ha k e.symm
      rw [hk] at h1; cases h1; rw [ho] at h2; cases h2) (fun e => by
      obtain ⟨o', h1, h2⟩ := hb k e.symm
      rw [hk] at h1; cases h1; rw [ho] at h2; cases h2)).trans hk⟩
theorem own_cells {w : World} {B : Nat} {e : TypeId} {m n : Nat} {v : Value} {xs : List Value} (h : w.ownsRow B e m v n xs) : ∀ g, v.ownBlock = some g → ∃ o, w.heap[g]? = some o ∧ o.isCells = true := by
  intro g hg
  rcases h.2 with ⟨hv, _⟩ | ⟨g', cap, cur, hv, _, hgg, _⟩
  · rw [hv] at hg; cases hg
  · rw [hv] at hg; cases hg; exact ⟨_, hgg, rfl⟩
section
variable {F : Fence} {nF : Nat} {P : Program} {w : World} {ops : Array Oper} {rest : List Oper} {a : Act} {Q : Exit → Act → World → Prop}
/-- One element is appended within a fence, out of a new block. -/
theorem wpListIn_append_oneH {d : Tmp} {op : Op} {ty' : TypeId} {pos : String} {af : Array Edge} (s x : Operand) (t : TypeId)
    (hop : op = .call { callee := .builtin .append, args := #[s, x], argTypes := #[t, t] })
    (base : Nat) (e : TypeId) (i : TypeInfo) (z : Value) (size bytes : Nat) (ht : P.underlying t = some (.slice e)) (hi : P.info? e = some i) (hz : i.zero = some z)
    (hsize : i.size = size) (hby : i.bytes = bytes) (hzs : z.cells.size = size) (hsz : 0 < size)
    (v : Value) (n : Nat) (xs : List Value) (hs : a.eval s = v) (w1 : World) (hown : w1.ownsRow base e size v n xs)
    (cs : List Value) (e' : TypeId) (g c : Nat) (hx : a.eval x = .slice (some ⟨g, 0, none⟩) 1 c) (hg : g = w1.heap.size) (hw : w = w1.alloc (.cells cs.toArray e')) (hC : cs.length = size) (h1 : ∀ u ∈ cs, u.oneCell' = true)
    (h63 : n + 1 ≤ maxLen) (hbytes : (n + 1) * bytes ≤ 140737488355328) (hbase : base ≤ w1.heap.size)
    (h : ∀ g' cap w', w'.ownsRow base e size (.slice (some ⟨g', 0, none⟩) (n + 1) cap) (n + 1) (xs ++ cs) → Two w1 w' v.ownBlock none → New w1 v.ownBlock (some g') → wpListIn F nF P ops Q rest (a.put (some d) (.slice (some ⟨g', 0, none⟩) (n + 1) cap)) w') : wpListIn F nF P ops Q (⟨some d, op, ty', pos, af, none⟩ :: rest) a w := by
  subst hop
  subst hw
  subst hg
  refine wpListIn_append_own_at (w1.alloc (.cells cs.toArray e')) rfl s x t rfl base e i z size bytes ht hi hz hsize hby hzs hsz v n xs hs (hown.alloc _) ⟨w1.heap.size, 0, none⟩ 1 c cs hx (by omega) ?_ h1 h63 hbytes (by simp; omega) (fun v' w' ho hg' hnil hat => ?_)
  · intro j u hu
    rw [Addr.add_mid, Nat.zero_add, cell_of_row _ w1.heap.size j cs.toArray e' (0, 0) (heap_alloc_new _ _)]
    simpa using hu
  · rcases ho.2 with ⟨_, h0⟩ | ⟨g', cap, cur, rfl, hh⟩
    · omega
    · refine h g' cap w' ho ?_ ?_
      · have hk : Kp w1 (w1.alloc (.cells cs.toArray e')) := (Kp.refl w1).alloc _
        exact (hk.two v.ownBlock none).trans (.inl rfl) (.inl rfl) (grown_two hg' none)
      · rcases hat with hat | hat
        · exact .inl hat
        · refine .inr ⟨g', rfl, ?_⟩
          have : g' = (w1.alloc (.cells cs.toArray e')).heap.size := by simpa [Value.ownBlock] using hat
          rw [this]; simp
theorem wpListIn_map_set {d : Option Tmp} {op : Op} {ty : TypeId} {pos : String} {af : Array Edge} (m x v : Operand) (t k e : TypeId) (hop : op = Op.mapUpdate t m x v) (hk : P.underlying k = some .string) (ht : P.underlying t = some (.map k e))
    (b n : Nat) (f : ByteArray → Option Value) (hm : a.eval m = .map (some b)) (h : MapIs w P k b n f) (hn : n < maxLen) (s : ByteArray) (hx : a.eval x = .string s) (hs : s.size ≤ maxLen) (u : Value) (hv : a.eval v = u)
    (hK : ∀ w', MapIs w' P k b (n + 1) (fput f s u) → w.grownBy w' (some b) → wpListIn F nF P ops Q rest (a.put d undef) w') : wpListIn F nF P ops Q (⟨d, op, ty, pos, af, none⟩ :: rest) a w := by
  subst hop
  obtain ⟨D, h1, h2⟩ := h
  have key : keyOf P k (.string s) = some (kl s) := keyOf_string_mk hk hs
  refine wpListIn_mapUpdate_own _ rfl m x v t rfl k e (Maps.string_keyed hk) ht hR b n D hm h1 hn (.string s) u (kl s) hx hv key (.held u) [] rfl fun w' g1 g2 => hK w' ⟨_, g1, fun y z => ?_⟩ g2
  by_cases hy : y = s
  · subst hy
    rw [fput_same, Maps.atKey_put_same h1.isMap (show WideAt.IsKeyLit (kl y) from trivial)]
    rfl
  · rw [fput_other f u hy, Maps.atKey_put_other (fun e => hy (kl_inj e)), h2]
end
theorem CntOf.put {f : ByteArray → Option Value} {l : List ByteArray} {n : Nat} {s : ByteArray} (h : CntOf f l n) {c : Nat} (h1 : 1 ≤ c) (h2 : c ≤ n + 1) (l' : List ByteArray) (hl : ∀ y, y ∈ l' ↔ (y ∈ l ∨ y = s)) : CntOf (fput f s (.int .i64 c)) l' (n + 1) := fun y => by
  by_cases hy : y = s
  · subst hy
    exact ⟨fun hn => absurd ((hl y).2 (.inr rfl)) hn, fun _ => ⟨c, h1, h2, fput_same _ _ _⟩⟩
  · rw [fput_other f _ hy]
    refine ⟨fun hn => (h y).1 (fun hy' => hn ((hl y).2 (.inl hy'))), fun hy' => ?_⟩
    obtain ⟨c', a, b, e⟩ := (h y).2 (((hl y).1 hy').resolve_right hy)
    exact ⟨c', a, by omega, e⟩
theorem CntOf.more {f : ByteArray → Option Value} {l : List ByteArray} {n n' : Nat} (h : CntOf f l n) (hn : n ≤ n') : CntOf f l n' := fun y => ⟨(h y).1, fun hy => by obtain ⟨c, a, b, e⟩ := (h y).2 hy; exact ⟨c, a, by omega, e⟩⟩
theorem Dyn.back {D : Dyn} {A B : World} {row : Option Nat} (hg : A.grownBy B row) (hr : ∀ r, row = some r → D.n0 ≤ r) (hn : D.n0 ≤ A.heap.size) {x : Nat} (hx : D.At B x) : D.At A x := by
  rcases hx with hb | ⟨q, v, hq, hv, ho⟩
  · exact .inl hb
  · refine .inr ⟨q, v, hq, (cell_blk ?_).symm.trans hv, ho⟩
    exact hg.block _ (Nat.lt_of_lt_of_le (D.hQ q hq) hn) (fun e => by have := D.hQ q hq; have := hr _ e.symm; omega)
theorem Cef.grown {D : Dyn} {A B : World} {row : Option Nat} (hg : A.grownBy B row) (hr : ∀ r, row = some r → D.n0 ≤ r ∧ ∃ o : Obj, A.heap[r]? = some o ∧ o.isCells = false) : Cef D A B := by
  have back : D.n0 ≤ A.heap.size → ∀ x, D.At B x → D.At A x := fun hn x hx => Dyn.back hg (fun r e => (hr r e).1) hn hx
  exact ⟨hg.size, fun _ p v _ hp => cell_kept hp hg (fun r e => (hr r e).2), fun hn x hx => .inl (back hn x hx), fun hn hw x hx => Nat.lt_of_lt_of_le (hw x (back hn x hx)) hg.size⟩
/-- What Names owns while it walks. -/
def namesD (w : World) : Dyn := ⟨fun b => b = w.heap.size + 1 ∨ b = w.heap.size + 1 + 1, fun q => q = ⟨w.heap.size + 1, 0, none⟩, w.heap.size + 1 + 1 + 1 + 1, fun b hb => by omega, fun q hq => by subst hq; show w.heap.size + 1 < _; omega⟩
structure NamesI (w W0 : World) (pre : List (Int × Nd)) (W : World) : Prop where
  row : ∃ v, W.heap[w.heap.size + 1]? = some (.cells #[v] 41 (0, 0)) ∧ W.ownsRow W0.heap.size 9 1 v (namesL pre).length ((namesL pre).map .string)
  map : ∃ f, MapIs W Try.prog 9 (w.heap.size + 1 + 1) pre.length f ∧ CntOf f (namesL pre) pre.length
  box : W.cell? ⟨w.heap.size + 1 + 1 + 1, 0, none⟩ = some (.map (some (w.heap.size + 1 + 1)))
  kp : Kp w W
  cef : Cef (namesD w) W0 W
theorem NamesI.grown {w W0 A B : World} {pre : List (Int × Nd)} {row : Option Nat} (h : NamesI w W0 pre A) (h0 : w.heap.size + 1 + 1 + 1 + 1 ≤ W0.heap.size) (hg : A.grownBy B row) (hr : ∀ r, row = some r → W0.heap.size ≤ r ∧ ∃ o : Obj, A.heap[r]? = some o ∧ o.isCells = false) : NamesI w W0 pre B where
  row := by
    obtain ⟨v, h1, h2⟩ := h.row
    exact ⟨v, own_row h1 hg hr, own_grown h2 hg (fun r e => (hr r e).2)⟩
  map := by
    obtain ⟨f, h1, h2⟩ := h.map
    exact ⟨f, h1.grown hg (fun e => by have := (hr _ e.symm).1; omega), h2⟩
  box := cell_kept h.box hg (fun r e => (hr r e).2)
  kp := h.kp.grown hg (fun k e => by have := (hr k e).1; omega)
  cef := h.cef.trans (Cef.grown hg (fun r e => ⟨by show w.heap.size + 1 + 1 + 1 + 1 ≤ r; have := (hr r e).1; omega, (hr r e).2⟩))
theorem NamesI.skip {w W0 W : World} {pre : List (Int × Nd)} {y : Int × Nd} (h : NamesI w W0 pre W) (hy : nameStep (namesL pre) y = namesL pre) : NamesI w W0 (pre ++ [y]) W where
  row := by rw [namesL_snoc, hy]; exact h.row
  map := by
    rw [namesL_snoc, hy, List.length_append]
    obtain ⟨f, h1, h2⟩ := h.map
    exact ⟨f, h1.mono (by omega), h2.more (by omega)⟩
  box := h.box
  kp := h.kp
  cef := h.cef
theorem MapIs.obj {w : World} {P : Program} {k : TypeId} {b n : Nat} {f : ByteArray → Option Value} (h : MapIs w P k b n f) : ∃ o, w.heap[b]? = some o ∧ o.isCells = false := by
  obtain ⟨D, h1, _⟩ := h
  obtain ⟨es, clock, hb, r⟩ := h1
  exact ⟨_, hb, rfl⟩
/-- The map is written. -/
theorem names_map {w W0 W W5 : World} {pre : List (Int × Nd)} {y : Int × Nd} {v : Value} {f : ByteArray → Option Value} {s : ByteArray} {c : Nat} {l0 : List ByteArray} (h0 : w.heap.size + 1 + 1 + 1 + 1 ≤ W0.heap.size)
    (hnb : W.heap[w.heap.size + 1]? = some (.cells #[v] 41 (0, 0))) (hown : W.ownsRow W0.heap.size 9 1 v (namesL (pre ++ [y])).length ((namesL (pre ++ [y])).map .string))
    (hmap : MapIs W Try.prog 9 (w.heap.size + 1 + 1) pre.length f) (hcnt : CntOf f l0 pre.length) (hbox : W.cell? ⟨w.heap.size + 1 + 1 + 1, 0, none⟩ = some (.map (some (w.heap.size + 1 + 1)))) (hkp : Kp w W) (hcef : Cef (namesD w) W0 W)
    (m5 : MapIs W5 Try.prog 9 (w.heap.size + 1 + 1) (pre.length + 1) (fput f s (.int .i64 c))) (g5 : W.grownBy W5 (some (w.heap.size + 1 + 1))) (h1 : 1 ≤ c) (h2 : c ≤ pre.length + 1) (hl : ∀ z, z ∈ namesL (pre ++ [y]) ↔ (z ∈ l0 ∨ z = s)) :
    KeepsFrom W0.heap.size W W5 ∧ Cef (namesD w) W W5 ∧ NamesI w W0 (pre ++ [y]) W5 := by
  have hsz := hcef.size
  obtain ⟨o, ho, hoc⟩ := hmap.obj
  have hnb5 := (g5.block (w.heap.size + 1) (Array.getElem?_eq_some_iff.1 hnb).1 (by simp)).trans hnb
  have hown5 := own_grown hown g5 (fun r e => by cases e; exact ⟨o, ho, hoc⟩)
  have hc5 : Cef (namesD w) W W5 := Cef.mk' g5.size (fun b hb hnb => g5.block b hb (fun e => hnb (.inl (.inr (by cases e; rfl))))) (fun hn q hq u hu g hg => by
    have hq' : q = ⟨w.heap.size + 1, 0, none⟩ := hq
    subst hq'
    have e5 := row_cell hnb5 0
    have e0 := row_cell hnb 0
    simp only [List.getElem?_toArray, List.getElem?_cons_zero] at e5 e0
    rw [e5] at hu
    cases hu
    exact ⟨.inl (.inr ⟨_, _, rfl, e0, hg⟩), Nat.lt_of_lt_of_le (hown.lt g hg).2 g5.size⟩)
  refine ⟨KeepsFrom.of_grownBy g5 (fun j e => by cases e; omega), hc5, ⟨v, hnb5, hown5⟩, ⟨_, by rw [List.length_append]; exact m5, ?_⟩, ?_, ?_, hcef.trans hc5⟩
  · rw [List.length_append]
    exact hcnt.put h1 h2 _ hl
  · exact (cell_blk (g5.block _ (lt_of_cell hbox) (fun e => by have h : w.heap.size + 1 + 1 + 1 = w.heap.size + 1 + 1 := Option.some.inj e; omega))).trans hbox
  · exact hkp.grown g5 (fun k e => by cases e; omega)
/-- The row is written. -/
structure NamesW (w W0 W W3 : World) (n : Nat) (f : ByteArray → Option Value) (v' : Value) (l : List ByteArray) : Prop where
  nb : W3.heap[w.heap.size + 1]? = some (.cells #[v'] 41 (0, 0))
  own : W3.ownsRow W0.heap.size 9 1 v' l.length (l.map .string)
  map : MapIs W3 Try.prog 9 (w.heap.size + 1 + 1) n f
  box : W3.cell? ⟨w.heap.size + 1 + 1 + 1, 0, none⟩ = some (.map (some (w.heap.size + 1 + 1)))
  kp : Kp w W3
  cef : Cef (namesD w) W W3
  keeps : KeepsFrom W0.heap.size W W3
  other : ∀ p v, ¬ (namesD w).At W p.block → W.cell? p = some v → W3.cell? p = some v
theorem names_row {w W0 W W2 : World} {n : Nat} {v v' : Value} {f : ByteArray → Option Value} {l : List ByteArray} {s : ByteArray} (h0 : w.heap.size + 1 + 1 + 1 + 1 ≤ W0.heap.size) (hsz : W0.heap.size ≤ W.heap.size)
    (hnb : W.heap[w.heap.size + 1]? = some (.cells #[v] 41 (0, 0))) (hown : W.ownsRow W0.heap.size 9 1 v l.length (l.map .string))
    (hmap : MapIs W Try.prog 9 (w.heap.size + 1 + 1) n f) (hbox : W.cell? ⟨w.heap.size + 1 + 1 + 1, 0, none⟩ = some (.map (some (w.heap.size + 1 + 1)))) (hkp : Kp w W)
    (o1 : W2.ownsRow W0.heap.size 9 1 v' (l.length + 1) (l.map .string ++ [.string s])) (t1 : Two W W2 v.ownBlock none) (n1 : New W v.ownBlock v'.ownBlock) :
    NamesW w W0 W (W2.setCell ⟨w.heap.size + 1, 0, none⟩ v') n f v' (l ++ [s]) := by
  have hlt := hown.lt
  have hn1 : some (w.heap.size + 1) ≠ v.ownBlock := fun e => by have := (hlt _ e.symm).1; omega
  have hn2 : some (w.heap.size + 1 + 1) ≠ v.ownBlock := fun e => by have := (hlt _ e.symm).1; omega
  have hn3 : some (w.heap.size + 1 + 1 + 1) ≠ v.ownBlock := fun e => by have := (hlt _ e.symm).1; omega
  have nb2 : W2.heap[w.heap.size + 1]? = some (.cells #[v] 41 (0, 0)) := (t1.blk _ (Array.getElem?_eq_some_iff.1 hnb).1 hn1 (by simp)).trans hnb
  have nb3 := row_set (v' := v') nb2
  have hso : ∀ b, b ≠ w.heap.size + 1 → (W2.setCell ⟨w.heap.size + 1, 0, none⟩ v').heap[b]? = W2.heap[b]? := fun b hb => Below.heap_setCell _ _ _ _ hb
  have hblk : ∀ b, b < W.heap.size → b ≠ w.heap.size + 1 → some b ≠ v.ownBlock → (W2.setCell ⟨w.heap.size + 1, 0, none⟩ v').heap[b]? = W.heap[b]? := fun b h1 h2 h3 => (hso b h2).trans (t1.blk b h1 h3 (by simp))
  have hg' : ∀ g, v'.ownBlock = some g → g ≠ w.heap.size + 1 ∧ g < W2.heap.size := fun g hg => by have := o1.lt g hg; exact ⟨by omega, this.2⟩
  have own3 : (W2.setCell ⟨w.heap.size + 1, 0, none⟩ v').ownsRow W0.heap.size 9 1 v' (l.length + 1) (l.map .string ++ [.string s]) := by
    refine ⟨o1.1, ?_⟩
    rcases o1.2 with hv | ⟨g, cap, cur, hv, hg0, hgg, rest⟩
    · exact .inl hv
    · exact .inr ⟨g, cap, cur, hv, hg0, (hso g (by omega)).trans hgg, rest⟩
  have hs3 : W.heap.size ≤ (W2.setCell ⟨w.heap.size + 1, 0, none⟩ v').heap.size := by simpa using t1.sz
  have hnA : ∀ b, ¬ (namesD w).At W b → b ≠ w.heap.size + 1 ∧ some b ≠ v.ownBlock := fun b hb => ⟨fun e => hb (.inl (.inl e)), fun e => hb (.inr ⟨⟨w.heap.size + 1, 0, none⟩, v, rfl, by have := row_cell hnb 0; simpa using this, e.symm⟩)⟩
  refine ⟨nb3, by simpa using own3, ?_, ?_, ?_, ?_, ?_, ?_⟩
  · obtain ⟨D, h1, h2⟩ := hmap
    refine ⟨D, ?_, h2⟩
    have hlt := h1.lt
    obtain ⟨es, clock, hb, r⟩ := h1
    exact ⟨es, clock, (hblk _ hlt (by omega) hn2).trans hb, r⟩
  · exact (cell_blk (hblk _ (lt_of_cell hbox) (by show w.heap.size + 1 + 1 + 1 ≠ w.heap.size + 1; omega) hn3)).trans hbox
  · exact (Two.kp t1 hkp (fun g e => by have := (hlt g e).1; omega) (fun g e => by cases e)).setCell (by show w.heap.size ≤ w.heap.size + 1; omega) _
  · refine Cef.mk' hs3 (fun b hb hn => hblk b hb (hnA b hn).1 (hnA b hn).2) (fun hn q hq u hu g hg => ?_)
    have hq' : q = ⟨w.heap.size + 1, 0, none⟩ := hq
    subst hq'
    have e3 := row_cell nb3 0
    have e0 := row_cell hnb 0
    simp only [List.getElem?_toArray, List.getElem?_cons_zero] at e3 e0
    rw [e3] at hu
    cases hu
    refine ⟨?_, by simpa using (hg' g hg).2⟩
    rcases n1 with n1 | ⟨g2, n1, n2⟩
    · exact .inl (.inr ⟨_, _, rfl, e0, by rw [← n1]; exact hg⟩)
    · rw [n1] at hg; cases hg; exact .inr n2
  · exact (KeepsFrom.of_two t1 (own_cells hown) (fun g e => by cases e)).trans ((KeepsOthers.setCell W2 _ _).from _)
  · exact fun p u hp hc => (cell_blk (hblk p.block (lt_of_cell hc) (hnA _ hp).1 (hnA _ hp).2)).trans hc
set_option maxRecDepth 100000 in
set_option maxHeartbeats 8000000 in
theorem c_Names (n : Nat) (hn : 3 ≤ n) (R : Nat) (T : Nd) (h : Hn) (w : World) (hl : Lies w A0 R T h) (hN : (flatN R 0 T).length ≤ 1099511627776) :
    CallsIn Fence.wide n Try.prog 25 #[h.val] w fun e w' => ∃ v, e = .returned v ∧ w'.ownsRow w.heap.size 9 1 v (namesL (flatN R 0 T)).length ((namesL (flatN R 0 T)).map .string) ∧ Kp w w' := by
  obtain ⟨i2, hs, hx0, hx1, hx2⟩ := info_parts infoS
  have hn1 : 1 ≤ n := by omega
  obtain ⟨k, tx, nn, at_, la, ll, lc⟩ := h
  have HL := Lib.hid hl
  clear hl
  have hro : Fence.wide.round = none := rfl
  have hmm := @run_makeMap Try.prog
  refine callsIn_of_wp_marks Try.func25 rfl trivial ?_ hro
  simp only [Try.ntmps25, List.size_toArray, List.length_cons, List.length_nil, Nat.reduceAdd, Nat.reduceSub, Array.replicate_succ, Array.replicate_zero, List.push_toArray, List.append_toArray, List.nil_append, List.cons_append]
  gi_wp2_with (first | ((try refine ⟨trivial, ?_⟩); gi_at_call 35; refine (each_in Fence.wide (n - 1) trivial hro ⟨k, tx, nn, at_, la, ll, lc⟩ _).mono ?_; rintro e w' ⟨rfl, rfl⟩))
  obtain ⟨W0, hW0⟩ : ∃ W0, (((((w.alloc (.cells #[.int .i64 k, .string tx, .int .u64 nn, .int .i64 at_, .slice la ll lc] 25)).alloc (.cells #[.slice none 0 0] 41)).alloc (.map #[] 0)).alloc (.cells #[.map (some (w.heap.size + 1 + 1))] 51)).alloc (.cells #[.int .i64 k, .string tx, .int .u64 nn, .int .i64 at_, .slice la ll lc] 25)) = W0 := ⟨_, rfl⟩
  have hB0 : Kp w W0 := by rw [← hW0]; exact (((((Kp.refl w).alloc _).alloc _).alloc _).alloc _).alloc _
  have hsz : W0.heap.size = w.heap.size + 1 + 1 + 1 + 1 + 1 := by rw [← hW0]; simp
  have hI0 : NamesI w W0 [] W0 := by
    refine ⟨⟨.slice none 0 0, ?_, World.ownsRow_nil _ _ _ _⟩, ⟨fun _ => none, ?_, fun s => ⟨fun _ => rfl, fun hs => by cases hs⟩⟩, ?_, hB0, Cef.refl _ _⟩
    · rw [← hW0]; exact ((((Kp.refl _).alloc _).alloc _).alloc _).blk (by simp) |>.trans (heap_at (w := w.alloc (.cells #[.int .i64 k, .string tx, .int .u64 nn, .int .i64 at_, .slice la ll lc] 25)) (by simp))
    · rw [← hW0]
      refine MapIs.alloc (MapIs.alloc ?_ _) _
      have := mapIs_made ((w.alloc (.cells #[.int .i64 k, .string tx, .int .u64 nn, .int .i64 at_, .slice la ll lc] 25)).alloc (.cells #[.slice none 0 0] 41)) Try.prog 9
      rw [World.size_alloc, World.size_alloc] at this
      exact this
    · rw [← hW0]; simp [go_sem]
  have hrN : W0.rangeAt (w.heap.size + 1 + 1 + 1 + 1) 0 (⟨k, tx, nn, at_, la, ll, lc⟩ : Hn).cells := by
    rw [← hW0]
    intro j v hv
    rw [Nat.zero_add, cell_of_row _ (w.heap.size + 1 + 1 + 1 + 1) j _ _ _ (heap_at (by simp))]
    simpa using hv
  rw [hW0]
  clear hW0
  have hn0 : (namesD w).n0 ≤ W0.heap.size := by show w.heap.size + 1 + 1 + 1 + 1 ≤ _; omega
  have hwf : (namesD w).WF W0 := fun b hb => by
    rcases hb with hb | ⟨q, v, hq, hv, ho⟩
    · have : b = w.heap.size + 1 ∨ b = w.heap.size + 1 + 1 := hb
      omega
    · obtain ⟨v', h1, h2⟩ := hI0.row
      have hq' : q = ⟨w.heap.size + 1, 0, none⟩ := hq
      subst hq'
      have e := row_cell h1 0
      simp only [List.getElem?_toArray, List.getElem?_cons_zero] at e
      rw [e] at hv
      cases hv
      exact (h2.lt b ho).2
  have hl0 : Lies W0 (Out ((namesD w).At W0)) R T ⟨k, tx, nn, at_, la, ll, lc⟩ := out_of HL.out hB0 (fun b hb => by
    rcases hb with hb | ⟨q, v, hq, hv, ho⟩
    · have : b = w.heap.size + 1 ∨ b = w.heap.size + 1 + 1 := hb
      omega
    · obtain ⟨v', h1, h2⟩ := hI0.row
      have hq' : q = ⟨w.heap.size + 1, 0, none⟩ := hq
      subst hq'
      have e := row_cell h1 0
      simp only [List.getElem?_toArray, List.getElem?_cons_zero] at e
      rw [e] at hv
      cases hv
      have := (h2.lt b ho).1
      omega)
  have HSZ := Lib.hid hsz
  have HW0 := Lib.hid hn0
  clear hsz
  refine wpIn_rangeFunc_ownH hro hn1 (gf := 43) (lb := #[.pointer (some ⟨w.heap.size + 1 + 1 + 1 + 1, 0, none⟩)]) rfl trivial (enters_of Try.func43 (by kernel_rfl) rfl)
    (each_stopsD Fence.wide rfl (n - 1) trivial trivial hro R (w.heap.size + 1 + 1 + 1 + 1) W0 W0 (namesD w) hn0 (fun _ => True) T ⟨k, tx, nn, at_, la, ll, lc⟩ hl0 (fun _ _ => trivial) (Cef.refl _ _) hwf hrN) (fun h k => h.trans k) (cefK_b hn0) (Below.refl _ _) (fun _ => rfl)
    (fun pre W => NamesI w W0 (pre.map Item.pr) W)
    (fun c pre W => False)
    (fun pre A B' row hs hg hr => hs.grown hn0 hg hr)
    (fun c pre A B' row hs hg hr => hs)
    hI0
    (fun x a' W => ∃ q, a' = ⟨#[(⟨k, tx, nn, at_, la, ll, lc⟩ : Hn).val, .pointer (some ⟨w.heap.size, 0, none⟩), .slice none 0 0, .pointer (some ⟨w.heap.size + 1, 0, none⟩), .pointer (some ⟨w.heap.size + 1 + 1 + 1, 0, none⟩), undef, .pointer (some ⟨q, 0, none⟩), .map (some (w.heap.size + 1 + 1)), .agg #[.int .i64 k, .string tx, .int .u64 nn, .int .i64 at_, .slice la ll lc], .func (.func 43) #[] #[.pointer (some ⟨w.heap.size + 1 + 1 + 1 + 1, 0, none⟩)], .int .i64 x.1.1, x.1.2.2.val, undef, undef, undef, undef, undef, undef, undef, undef, undef, undef, undef, undef, undef, undef, undef, undef, undef, undef, undef, undef, undef, undef, undef, undef], []⟩ ∧ W0.heap.size ≤ q ∧ W.rangeAt q 0 x.1.2.2.cells ∧ ¬ (namesD w).At W q)
    ?ax ?assign ?body ?done ?stop
  case ax =>
    rintro x a' s A B row ⟨q, h1, h2, h3, h4⟩ hg hr
    exact ⟨q, h1, h2, fun j v hv => cell_kept (h3 j v hv) hg (fun r e => (hr r e).2), fun hx => h4 (Dyn.back hg (fun r e => Nat.le_trans HW0.out (hr r e).1) (Nat.le_trans HW0.out (Nat.le_of_lt (Nat.lt_of_le_of_lt h2 (lt_of_cell (node_at h3).1)))) hx)⟩
  case assign =>
    rintro l pre x W K hI hK
    gi_wp2
    refine hK _ _ (KeepsFrom.of_grownBy (World.grownBy_alloc W _ none) (by simp)) (((Kp.refl W).alloc _).cef) (hI.grown HW0.out (World.grownBy_alloc W _ none) (fun r e => by cases e)) ⟨W.heap.size, ?_, hI.cef.size, fun j v hv => ?_, fun hx => ?_⟩
    · rfl
    · rw [Nat.zero_add, cell_of_row _ _ _ _ _ _ (heap_alloc_new _ _)]; simpa using hv
    · have := hI.cef.wf HW0.out hwf _ (Kp.at ((Kp.refl W).alloc _) (Nat.le_trans HW0.out hI.cef.size) hx)
      omega
  case body =>
    rintro l pre x a' W hlw ⟨rl, hrl⟩ hI ⟨q, rfl, hq, hqr, hqn⟩ hlen
    obtain ⟨⟨v, hnb, hown⟩, ⟨f, hmap, hcnt⟩, hbox, hkp, hcef⟩ := hI
    obtain ⟨x0, x1, x2, x3, x4⟩ := node_at hqr
    obtain ⟨ek, et, ex⟩ := lies_hd x.2.1
    have hpr : (pre ++ [x]).map Item.pr = pre.map Item.pr ++ [(x.1.1, x.1.2.1)] := by simp [Item.pr]
    have hzz : ∀ w, (zeroValue 3).run Try.prog w = .ok (.int .i64 0) w := fun _ => rfl
    have hml : x.1.2.2.tx.size ≤ maxLen := by unfold maxLen; omega
    have HPR := Lib.hid hpr
    have HEK := Lib.hid ek
    have HET := Lib.hid et
    have HI : Hid (NamesI w W0 (pre.map Item.pr) W) := Lib.hid ⟨⟨v, hnb, hown⟩, ⟨f, hmap, hcnt⟩, hbox, hkp, hcef⟩
    clear hpr ek et
    have hW0W := hcef.size
    have hplen : (pre.map Item.pr).length + 1 ≤ 1099511627776 := by rw [List.length_map]; omega
    have HPL := Lib.hid hplen
    have hnl : (namesL (pre.map Item.pr)).length + 1 ≤ 1099511627776 := by have := namesL_len (pre.map Item.pr); omega
    clear hplen
    by_cases hnm : x.1.2.2.k = 30 ∨ x.1.2.2.k = 10
    · have hnmb : ((x.1.2.2.k != 30) = false) ∨ ((x.1.2.2.k != 30) = true ∧ (x.1.2.2.k != 10) = false) := by
        rcases hnm with h | h
        · exact .inl (by simp [h])
        · exact .inr ⟨by simp [h], by simp [h]⟩
      have HNM := Lib.hid hnm
      have hbyes := mapIs_look hmap Try.underlying9 Try.underlying51 (hzz W) hml
      have HML := Lib.hid hml
      have HMAP := Lib.hid hmap
      have HCNT := Lib.hid hcnt
      have HOWN := Lib.hid hown
      have HNB := Lib.hid hnb
      have HBX := Lib.hid hbox
      have HKP := Lib.hid hkp
      have HCEF := Lib.hid hcef
      have r0 := row_cell hnb 0
      simp only [List.getElem?_toArray, List.getElem?_cons_zero] at r0
      clear hnm hml hmap hcnt hown hnb hkp hcef
      by_cases hin : x.1.2.2.tx ∈ namesL (pre.map Item.pr)
      · obtain ⟨c, hc1, hc2, hf⟩ := (HCNT.out x.1.2.2.tx).2 hin
        rw [hf] at hbyes
        have hlk := hbyes.2
        simp only [Option.getD_some] at hlk
        clear hbyes
        have hst : namesL ((pre ++ [x]).map Item.pr) = namesL (pre.map Item.pr) := by rw [HPR.out, namesL_snoc, nameStep_no (fun h => h.2 (by rw [HET.out]; exact hin))]
        have hcb : (c : Int) + 1 ≤ 1099511627777 := by have := HPL.out; omega
        have hcz : (0 : Int) ≤ c := by omega
        have f1 : ((c : Int) == 0) = false := beq_eq_false_iff_ne.2 (by omega)
        have f2 : decide ((c : Int) = 0) = false := decide_eq_false (by omega)
        have HST := Lib.hid hst
        have HIN := Lib.hid hin
        have HF := Lib.hid hf
        clear hst hin hf
        have fin : ∀ (W5 : World), MapIs W5 Try.prog 9 (w.heap.size + 1 + 1) ((pre.map Item.pr).length + 1) (fput f x.1.2.2.tx (.int .i64 ((c + 1 : Nat) : Int))) → W.grownBy W5 (some (w.heap.size + 1 + 1)) → KeepsFrom W0.heap.size W W5 ∧ Cef (namesD w) W W5 ∧ NamesI w W0 ((pre ++ [x]).map Item.pr) W5 := fun W5 m5 g5 => by
          have hst := HST.out
          rw [HPR.out] at hst ⊢
          exact names_map HW0.out HNB.out (by rw [hst]; exact HOWN.out) HMAP.out HCNT.out HBX.out HKP.out HCEF.out m5 g5 (by omega) (by omega) (fun z => by rw [hst]; exact ⟨.inl, fun h => h.elim id (fun e => by rw [e]; exact HIN.out)⟩)
        have FIN := Lib.hid fin
        clear fin
        rcases hnmb with e5 | ⟨e5, e6⟩
        all_goals
          gi_wp2_with (first | ((with_reducible show wpListIn _ _ _ _ _ (⟨_, Op.mapUpdate _ _ _ _, _, _, _, _⟩ :: _) _ _); refine wpListIn_map_set _ _ _ 51 9 3 rfl Try.underlying9 Try.underlying51 (w.heap.size + 1 + 1) (pre.map Item.pr).length f (by rfl) HMAP.out (by unfold maxLen; have := HPL.out; omega) x.1.2.2.tx (by rfl) HML.out (.int .i64 ((c + 1 : Nat) : Int)) (by first | rfl | (simp; done)) ?_; intro W5 m5 g5))
          exact FIN.out W5 m5 g5
      · have hf := (HCNT.out x.1.2.2.tx).1 hin
        rw [hf] at hbyes
        have hlk := hbyes.2
        simp only [Option.getD_none] at hlk
        clear hbyes
        have LK := Lib.hid (fun (W3 : World) (hm : MapIs W3 Try.prog 9 (w.heap.size + 1 + 1) (pre.map Item.pr).length f) => (show (Instr.lookup 51 (.map (some (w.heap.size + 1 + 1))) (.string x.1.2.2.tx) false).run Try.prog W3 = .ok (.int .i64 0) W3 from by
          have h := (mapIs_look hm Try.underlying9 Try.underlying51 (hzz W3) HML.out).2
          rw [hf] at h
          simpa only [Option.getD_none] using h))
        have hst : namesL ((pre ++ [x]).map Item.pr) = namesL (pre.map Item.pr) ++ [x.1.2.2.tx] := by rw [HPR.out, namesL_snoc, nameStep_yes ⟨by rw [HEK.out]; exact HNM.out, by rw [HET.out]; exact hin⟩, HET.out]
        have NB2 := Lib.hid (fun (W2 : World) (t1 : Two W W2 v.ownBlock none) => (show W2.heap[w.heap.size + 1]? = some (.cells #[v] 41 (0, 0)) from (t1.blk _ (Array.getElem?_eq_some_iff.1 HNB.out).1 (fun e => by have := (HOWN.out.lt _ e.symm).1; have := HW0.out; have h : (namesD w).n0 = w.heap.size + 1 + 1 + 1 + 1 := rfl; omega) (by simp)).trans HNB.out))
        have NWF := Lib.hid (fun (W2 : World) (g1 c1 : Nat) (o1 : W2.ownsRow W0.heap.size 9 1 (.slice (some ⟨g1, 0, none⟩) ((namesL (pre.map Item.pr)).length + 1) c1) ((namesL (pre.map Item.pr)).length + 1) ((namesL (pre.map Item.pr)).map .string ++ [.string x.1.2.2.tx])) (t1 : Two W W2 v.ownBlock none) (n1 : New W v.ownBlock (some g1)) =>
          names_row (v' := .slice (some ⟨g1, 0, none⟩) ((namesL (pre.map Item.pr)).length + 1) c1) HW0.out hW0W HNB.out HOWN.out HMAP.out HBX.out HKP.out o1 t1 n1)
        have HST := Lib.hid hst
        have HQN := Lib.hid hqn
        have fin : ∀ (W3 W5 : World) (v' : Value), NamesW w W0 W W3 (pre.map Item.pr).length f v' (namesL (pre.map Item.pr) ++ [x.1.2.2.tx]) → MapIs W5 Try.prog 9 (w.heap.size + 1 + 1) ((pre.map Item.pr).length + 1) (fput f x.1.2.2.tx (.int .i64 ((1 : Nat) : Int))) → W3.grownBy W5 (some (w.heap.size + 1 + 1)) → KeepsFrom W0.heap.size W W5 ∧ Cef (namesD w) W W5 ∧ NamesI w W0 ((pre ++ [x]).map Item.pr) W5 := fun W3 W5 v' NW m5 g5 => by
          have hst := HST.out
          rw [HPR.out] at hst ⊢
          have h := names_map HW0.out NW.nb (by rw [hst]; exact NW.own) NW.map HCNT.out NW.box NW.kp (HCEF.out.trans NW.cef) m5 g5 (by omega) (by omega) (fun z => by rw [hst]; simp)
          exact ⟨NW.keeps.trans h.1, NW.cef.trans h.2.1, h.2.2⟩
        have FIN := Lib.hid fin
        clear fin hst hin hf hqn
        rcases hnmb with e5 | ⟨e5, e6⟩
        all_goals
          gi_wp2_with (first | ((with_reducible show wpListIn _ _ _ _ _ (⟨_, Op.mapUpdate _ _ _ _, _, _, _, _⟩ :: _) _ _); refine wpListIn_map_set _ _ _ 51 9 3 rfl Try.underlying9 Try.underlying51 (w.heap.size + 1 + 1) (pre.map Item.pr).length f (by rfl) KNW.out.map (by unfold maxLen; have := HPL.out; omega) x.1.2.2.tx (by rfl) HML.out (.int .i64 ((1 : Nat) : Int)) (by first | rfl | (simp; done)) ?_; intro W5 m5 g5) | ((with_reducible show wpListIn _ _ _ _ _ (⟨some 29, _, _, _, _, _⟩ :: _) _ _); refine wpListIn_append_oneH (d := 29) _ _ 41 rfl W0.heap.size 9 i2 _ 1 16 Try.underlying41 hs hx0 hx1 hx2 rfl (by decide) v (namesL (pre.map Item.pr)).length _ (by rfl) W HOWN.out [.string x.1.2.2.tx] _ _ _ (by rfl) (by first | rfl | simp) (by rfl) (by rfl) (by intro u hu; simp at hu; subst hu; rfl) (by unfold maxLen; omega) (by omega) (by omega) ?_; intro g1 c1 W2 o1 t1 n1; have nb2 := NB2.out W2 t1; have z0 := row_cell nb2 0; have zf := frozen_of_row _ _ 0 _ _ nb2; simp only [List.getElem?_toArray, List.getElem?_cons_zero] at z0; have NW := NWF.out W2 g1 c1 o1 t1 n1; have y1 := NW.other ⟨q, 1, none⟩ _ HQN.out x1; have yb := NW.box; have yl := LK.out _ NW.map; have KNW := Lib.hid NW; clear NW nb2))
          exact FIN.out _ W5 _ KNW.out m5 g5
    · have e1 : decide (x.1.2.2.k = 30) = false := decide_eq_false (fun e => hnm (.inl e))
      have e2 : decide (x.1.2.2.k = 10) = false := decide_eq_false (fun e => hnm (.inr e))
      have e3 : (x.1.2.2.k == 30) = false := beq_eq_false_iff_ne.2 (fun e => hnm (.inl e))
      have e4 : (x.1.2.2.k == 10) = false := beq_eq_false_iff_ne.2 (fun e => hnm (.inr e))
      have e5 : (x.1.2.2.k != 30) = true := by simp [e3, bne]
      have e6 : (x.1.2.2.k != 10) = true := by simp [e4, bne]
      have HNM := Lib.hid hnm
      clear hnm hnb hown hmap hcnt hkp hcef
      gi_wp2
      exact ⟨KeepsFrom.refl _ _, Cef.refl _ _, by show NamesI w W0 ((pre ++ [x]).map Item.pr) W; rw [HPR.out]; exact HI.out.skip (nameStep_no (fun h => HNM.out (by rw [← HEK.out]; exact h.1)))⟩
  case done =>
    rintro D ys W hD hys hI hK
    obtain ⟨⟨v, hnb, hown⟩, ⟨f, hmap, hcnt⟩, hbox, hkp, hcef⟩ := hI
    rw [hys] at hown
    have r0 := row_cell hnb 0
    simp at r0
    gi_wp2
    refine ⟨by simp, .inl ⟨_, _, rfl, run_takeDeferred hK, ?_⟩⟩
    have hr : ∀ r, some D = some r → W0.heap.size ≤ r ∧ ∃ o : Obj, W.heap[r]? = some o ∧ o.isCells = false := fun r e => by cases e; exact ⟨hD, _, hK, rfl⟩
    exact ⟨_, results_tmp rfl _ _ _, v, rfl, (own_grown hown (grownBy_putObj' W D (.deferred none)) (fun r e => (hr r e).2)) |> fun h => own_mono h hB0.sz, Below.trans hkp (belowK_b (w := w) (Nat.le_refl _) W D _ _ (Nat.le_trans hB0.sz hD) hK rfl rfl)⟩
  case stop =>
    rintro D c pre W _ _ h _
    exact h.elim
end Go.Proofs.Ytgamenimbkafjaa
