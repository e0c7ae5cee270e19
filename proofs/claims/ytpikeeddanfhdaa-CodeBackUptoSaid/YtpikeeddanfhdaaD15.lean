/- What the walks over bytes need: bytes that are copied, cut off, and grown by one; and what a module in memory is. Condition: none. -/
import Derived.Test.YtpikeeddanfhdaaD14
import Derived.Test.YtpikeeddanfhdaaO1
import Derived.Test.YtpikeeddanfhdaaC0
import Derived.Test.YtpikeeddanfhdaaS3
import Derived.Test.YtpikeeddanfhdaaCodeBytes0
namespace Go.Proofs.Ytpikeeddanfhdaa
open Go.RowKit
set_option linter.unusedVariables false
set_option linter.unusedSimpArgs false
theorem okM_of {w : World} {B : Sel} {m : Mo} {cs : List Value} (h : LM w B m cs) : okM m := by
  obtain ⟨_, _, _, _, ⟨_, _, C, _, _, _, _, _, hx⟩⟩ := h
  intro f hf i hi
  obtain ⟨k, hk⟩ := List.mem_iff_getElem?.1 hf
  obtain ⟨_, _, _, _, _, _, ⟨_, _, D, _, _, _, _, _, hy⟩, _⟩ := hx k f hk
  obtain ⟨j, hj⟩ := List.mem_iff_getElem?.1 hi
  obtain ⟨_, _, _, _, _, _, h1, h2⟩ := hy j i hj
  exact ⟨h1, h2⟩
theorem bl_take {w : World} {B : Sel} {l : List UInt8} {ad : Addr} {c k : Nat} (h : BL w B l (.slice (some ad) l.length c)) (hk : k ≤ l.length) : BL w B (l.take k) (.slice (some ad) (l.take k).length c) := by
  obtain ⟨a', c', C, he, hlc, hby, hC, ht, hx⟩ := h
  simp only [Value.slice.injEq, true_and] at he
  obtain ⟨rfl, rfl⟩ := he
  have hl : (l.take k).length = k := by rw [List.length_take]; omega
  refine ⟨_, _, C, rfl, by omega, by omega, hC, ⟨fun h => (by cases h), fun h0 => ?_⟩, fun i x hi => ?_⟩
  · obtain ⟨b, o, h1, h2, h3, h4, h5⟩ := ht.2 (by omega)
    exact ⟨b, o, h1, h2, h3, h4, fun i hi => h5 i (by omega)⟩
  · rw [List.getElem?_take] at hi
    split at hi
    · exact hx i x hi
    · cases hi
section
variable {w : World} {ops : Array Oper} {rest : List Oper} {a : Act} {Q : Exit → Act → World → Prop}
/-- 'append([]byte{}, l...)': what comes may grow. -/
theorem wpList_append_copyG {α : Type} {L : Ly α} (hf : Flat L) {d : Tmp} {op : Op} {ty' : TypeId} {pos : String} {af : Array Edge} (s x : Operand) (t : TypeId)
    (hop : op = .call { callee := .builtin .append, args := #[s, x], argTypes := #[t, t] })
    (e : TypeId) (i : TypeInfo) (z : Value) (size bytes : Nat) (ht : Try.prog.underlying t = some (.slice e)) (hi : Try.prog.info? e = some i) (hz : i.zero = some z)
    (hsize : i.size = size) (hby : i.bytes = bytes) (hzs : z.cells.size = size) (hsz : 0 < size) (hb0 : 0 < bytes)
    (W0 : World) (g : Nat) (hs : a.eval s = .slice (some ⟨g, 0, none⟩) 0 0) (hw : w = W0.alloc (.cells #[] e)) (hgw : g = W0.heap.size)
    (w0 : World) (S : Sel) (l : List α) (v : Value) (hx : a.eval x = v) (hl : RL e size bytes L w0 S l v) (hk : Kp w0 w)
    (h : ∀ a' c' w', GR e size L w' W0.heap.size l (.slice a' l.length c') → Kp W0 w' → wpList Try.prog ops Q rest (a.put (some d) (.slice a' l.length c')) w') : wpList Try.prog ops Q (⟨some d, op, ty', pos, af, none⟩ :: rest) a w := by
  subst hw
  subst hgw
  obtain ⟨ad, c, C, rfl, hlc, hby2, hC, htab, hxx⟩ := hl
  have hcap : l.length * 1 ≤ l.length * bytes := Nat.mul_le_mul_left _ hb0
  have hcur : (#[] : Array Value).size = 0 := rfl
  refine wpList_append_tab s x t hop W0.heap.size e i z size bytes ht hi hz hsize hby hzs hsz (.slice (some ⟨W0.heap.size, 0, none⟩) 0 0) 0 [] hs ⟨by simp, .inr ⟨W0.heap.size, 0, #[], rfl, Nat.le_refl _, heap_alloc_new _ _, Nat.le_refl _, by unfold maxLen; omega, by omega, by simp⟩⟩ w0 S ad l.length c C hx htab hk (fun i => (hC i).1) (fun i => (hC i).2) (by unfold maxLen; omega) (by simp; omega) (by simp) (fun v' w' ho hgr => ?_)
  rw [Nat.zero_add, List.nil_append] at ho
  have hG : GR e size L w' W0.heap.size l v' := ⟨C, hC, ho, fun i x hi => hf _ _ _ _ _ _ (hxx i x hi)⟩
  obtain ⟨a', c', rfl⟩ := hG.form
  exact h a' c' w' hG (((Kp.refl W0).alloc _).grown hgr (fun k hk => by simp only [Value.ownBlock, Option.some.injEq] at hk; omega))
end
end Go.Proofs.Ytpikeeddanfhdaa
