/- Rows that are copied, and things that are put behind a row. No condition; no program is walked here. -/
import Derived.Test.YtkkcoaecidjecaaW0
import Derived.Test.YtkkcoaecidjecaaW4
namespace Go.Proofs.Ytkkcoaecidjecaa
open Go.RowKit
set_option linter.unusedVariables false
set_option linter.unusedSimpArgs false
/-- Things that do not lead into memory. -/
def Flat {α : Type} (L : Ly α) : Prop := ∀ w B w' B' x cs, L w B x cs → L w' B' x cs
theorem flatI : Flat LI := fun _ _ _ _ _ _ h => h
theorem flatC : Flat LC := fun _ _ _ _ _ _ h => h
theorem flatB : Flat LB := fun _ _ _ _ _ _ h => h
theorem rl_of_owns {α : Type} {e : TypeId} {m by_ : Nat} {L : Ly α} (hf : Flat L) {w w0 : World} {S : Sel} {B : Nat} {v : Value} {l : List α} {C : Nat → List Value} (h : w.ownsRow B e m v l.length (flat C l.length)) (hb : l.length * by_ ≤ 140737488351232) (h1 : ∀ i, (C i).length = m ∧ ∀ u ∈ C i, u.oneCell' = true) (hx : ∀ i x, l[i]? = some x → L w0 S x (C i)) : RL e m by_ L w (From B) l v := by
  obtain ⟨ad, c, rfl, hle, ht, _⟩ := tab_of_owns h (fun i => (h1 i).1)
  exact ⟨ad, c, C, rfl, hle, hb, h1, ht, fun i x hi => hf _ _ _ _ _ _ (hx i x hi)⟩
section
variable {w : World} {ops : Array Oper} {rest : List Oper} {a : Act} {Q : Exit → Act → World → Prop}
/-- 'append([]T{}, l...)'. -/
theorem wpList_append_copy {α : Type} {L : Ly α} (hf : Flat L) {d : Tmp} {op : Op} {ty' : TypeId} {pos : String} {af : Array Edge} (s x : Operand) (t : TypeId)
    (hop : op = .call { callee := .builtin .append, args := #[s, x], argTypes := #[t, t] })
    (e : TypeId) (i : TypeInfo) (z : Value) (size bytes : Nat) (ht : Try.prog.underlying t = some (.slice e)) (hi : Try.prog.info? e = some i) (hz : i.zero = some z)
    (hsize : i.size = size) (hby : i.bytes = bytes) (hzs : z.cells.size = size) (hsz : 0 < size) (hb0 : 0 < bytes)
    (g c0 : Nat) (cur : Array Value) (hs : a.eval s = .slice (some ⟨g, 0, none⟩) 0 0) (hg : w.heap[g]? = some (.cells cur e (0, 0))) (hcur : cur.size = 0)
    (B : Nat) (hB : B ≤ g) (w0 : World) (S : Sel) (l : List α) (v : Value) (hx : a.eval x = v) (hl : RL e size bytes L w0 S l v) (hk : Kp w0 w)
    (h : ∀ a' c' w', RL e size bytes L w' (From B) l (.slice a' l.length c') → w.grownBy w' (some g) → wpList Try.prog ops Q rest (a.put (some d) (.slice a' l.length c')) w') : wpList Try.prog ops Q (⟨some d, op, ty', pos, af, none⟩ :: rest) a w := by
  obtain ⟨ad, c, C, rfl, hlc, hby2, hC, htab, hxx⟩ := hl
  have hgl := row_lt hg
  have hcap : l.length * 1 ≤ l.length * bytes := Nat.mul_le_mul_left _ hb0
  refine wpList_append_tab s x t hop B e i z size bytes ht hi hz hsize hby hzs hsz (.slice (some ⟨g, 0, none⟩) 0 0) 0 [] hs ⟨by simp, .inr ⟨g, 0, cur, rfl, hB, hg, Nat.le_refl _, by unfold maxLen; omega, by omega, by simp⟩⟩ w0 S ad l.length c C hx htab hk (fun i => (hC i).1) (fun i => (hC i).2) (by unfold maxLen; omega) (by simp; omega) (by omega) (fun v' w' ho hgr => ?_)
  rw [Nat.zero_add, List.nil_append] at ho
  have hrl := rl_of_owns hf ho hby2 hC hxx
  have hrl2 := hrl
  obtain ⟨a', c', _, rfl, _⟩ := hrl2
  exact h a' c' w' hrl hgr
/-- 'l = append(l, x)', where x is laid just now. -/
theorem wpList_append_gr {α : Type} {L : Ly α} {m : Nat} (gd : Good m L) {d : Tmp} {op : Op} {ty' : TypeId} {pos : String} {af : Array Edge} (s x : Operand) (t : TypeId)
    (hop : op = .call { callee := .builtin .append, args := #[s, x], argTypes := #[t, t] })
    (e : TypeId) (i : TypeInfo) (z : Value) (bytes : Nat) (ht : Try.prog.underlying t = some (.slice e)) (hi : Try.prog.info? e = some i) (hz : i.zero = some z)
    (hsize : i.size = m) (hby : i.bytes = bytes) (hzs : z.cells.size = m) (hsz : 0 < m)
    (v : Value) (l : List α) (B : Nat) (hs : a.eval s = v) (w1 : World) (hgr : GR e m L w1 B l v) (hB : B ≤ w1.heap.size)
    (y : α) (cs : List Value) (S : Nat → Prop) (g c : Nat) (hx : a.eval x = .slice (some ⟨g, 0, none⟩) 1 c) (hg : g = w1.heap.size) (hw : w = w1.alloc (.cells cs.toArray e)) (hy : L w1 ⟨True, S⟩ y cs) (hS : ∀ b, S b → B ≤ b ∧ some b ≠ v.ownBlock)
    (h63 : l.length + 1 ≤ maxLen) (hbytes : (l.length + 1) * bytes ≤ 140737488355328)
    (h : ∀ g' cap w', GR e m L w' B (l ++ [y]) (.slice (some ⟨g', 0, none⟩) (l.length + 1) cap) → w.grownBy w' v.ownBlock → (v.ownBlock = some g' ∨ g' = w1.heap.size + 1) → g' < w'.heap.size → B ≤ g' → wpList Try.prog ops Q rest (a.put (some d) (.slice (some ⟨g', 0, none⟩) (l.length + 1) cap)) w') : wpList Try.prog ops Q (⟨some d, op, ty', pos, af, none⟩ :: rest) a w := by
  subst hop
  subst hw
  subst hg
  have hk := (Kp.refl w1).alloc (.cells cs.toArray e)
  have hgr2 := hgr.keep gd hk
  obtain ⟨C, h1, hown, h3⟩ := hgr2
  have hy2 := gd.keep hy hk
  obtain ⟨hl2, ho2⟩ := gd.len hy
  refine wpList_append_lies (w1.alloc (.cells cs.toArray e)) rfl s x t rfl B e i z m bytes ht hi hz hsize hby hzs hsz v l.length _ hs hown ⟨w1.heap.size, 0, none⟩ 1 c cs hx (by omega) ?_ ho2 (by omega) h63 hbytes (by simp; omega) (w1.heap.size + 1) (by simp) (fun g' cap w' a1 a2 a3 a4 => h g' cap w' ?_ a2 a3 a4 ?_)
  · intro j u hu
    rw [Addr.add_mid, Nat.zero_add, cell_of_row _ w1.heap.size j cs.toArray e (0, 0) (heap_alloc_new _ _)]
    simpa using hu
  · exact GR.next gd h1 h3 hy2 hS a1 a2 (by
      rcases a3 with a3 | a3
      · exact .inl a3.symm
      · right; rw [a3]; simp [Value.ownBlock])
  · exact (a1.lt g' rfl).1
end
end Go.Proofs.Ytkkcoaecidjecaa
