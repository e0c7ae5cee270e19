/- Walk of package tree: an iterator that gives copies of a node's nodes with their depths. Condition: the node lies in memory. -/
import Derived.Test.YtgamenimbkafjaaI2
import Derived.Test.YtgamenimbkafjaaWa
import Derived.Test.YtgamenimbkafjaaWb
namespace Go.Proofs.Ytgamenimbkafjaa
open Go.RowKit Go.Shelf
set_option linter.unusedVariables false
set_option linter.unusedSimpArgs false
attribute [local go_sem] Oper.semAt_some

/-- Walk answers an iterator over a copy. -/
theorem c_Walk (R : Nat) (T : Nd) (h : Hn) (w : World) (hl : Lies w A0 R T h) : Calls Try.prog 27 #[h.val] w fun e w' =>
    ∃ (h' : Hn) (kb : Nat), e = .returned (.func (.func 37) #[] #[.pointer (some ⟨kb, 0, none⟩)]) ∧ w'.rangeAt kb 0 h'.cells ∧ w.heap.size ≤ kb ∧ Lies w' (Since w.heap.size) R T h' ∧ Kp w w' := by
  have CF := Lib.hid (fun W (hk : Kp w W) => c_clone R T h W (hl.keep hk))
  clear hl
  obtain ⟨k, tx, nn, at_, la, ll, lc⟩ := h
  go_enter Try.func27, Try.ntmps27
  go_wp2_with (first | (go_at_call 36; (with_reducible refine (CF.out _ ((Kp.refl w).alloc _)).mono ?_); rintro e w1 ⟨⟨k', tx', n', at', la', ll', lc'⟩, rfl, hli, hk1⟩))
  trace_state
  go_ret
  refine ⟨⟨k', tx', n', at', la', ll', lc'⟩, w1.heap.size, rfl, ?_, ?_, ?_, ?_⟩
  · intro j v hv
    rw [Nat.zero_add, cell_of_row _ w1.heap.size j _ _ _ (heap_alloc_new _ _)]
    simpa using hv
  · have := hk1.sz; simp at this; omega
  · exact (hli.weak (since_le (by simp))).keep ((Kp.refl _).alloc _)
  · exact (Kp.back hk1 ((Kp.refl w).alloc _)).alloc _
/-- What is given: a depth, a node, and the header of its copy. -/
abbrev CEl := Int × Nd × Hn
def CEl.pr (x : CEl) : Int × Nd := (x.1, x.2.1)
abbrev CEl.enc (x : CEl) : Array Value := #[.int .i64 x.1, x.2.2.val]
/-- The copy lies in the world of the call, outside of what the body owns. -/
def GEl (D : Dyn) (R : Nat) (x : CEl) (W : World) : Prop := Lies W (Out (D.At W)) R x.2.1 x.2.2
theorem Lies.cefAt {D : Dyn} {w w' : World} (hn : D.n0 ≤ w.heap.size) (hk : Cef D w w') : ∀ {r : Nat} {T : Nd} {h : Hn}, Lies w (Out (D.At w)) r T h → Lies w' (Out (D.At w')) r T h
  | 0, _, _, h => h
  | r + 1, _, _, ⟨K, t, hh⟩ => ⟨K, { t with tl := ⟨t.tl.1, fun hp => by
      obtain ⟨b, o, ha, hB, hl, _, hr⟩ := t.tl.2 hp
      exact ⟨b, o, ha, hk.notAt hn hl hB, Nat.lt_of_lt_of_le hl hk.size, fun h => h.elim, fun i hi => hk.range hn hB (hr i hi)⟩⟩ }, fun i X hX => Lies.cefAt hn hk (hh i X hX)⟩
theorem own_abide {β : Type} {B : Nat} {J : β → World → Prop} (hJ : OwnFrom B J) {s : β} {a b : World} (h : J s a) (k : Kp a b) : J s b :=
  hJ s a b none h ⟨k.os, k.tape, k.output, k.size, fun i hi _ => k.block i hi⟩ (fun r e => by cases e)
theorem keeps_kp {B : Nat} {a b : World} (k : Kp a b) : KeepsFrom B a b := KeepsFrom.of_grownBy (row := none) ⟨k.os, k.tape, k.output, k.size, fun i hi _ => k.blk hi⟩ (by simp)
theorem cef_grown {D : Dyn} {A B : World} {row : Option Nat} (hg : A.grownBy B row) (hr : ∀ r, row = some r → D.n0 ≤ r ∧ ∃ o : Obj, A.heap[r]? = some o ∧ o.isCells = false) : Cef D A B := by
  have back : D.n0 ≤ A.heap.size → ∀ x, D.At B x → D.At A x := fun hn x hx => by
    rcases hx with hb | ⟨q, v, hq, hv, ho⟩
    · exact .inl hb
    · refine .inr ⟨q, v, hq, (cell_blk ?_).symm.trans hv, ho⟩
      exact hg.block _ (Nat.lt_of_lt_of_le (D.hQ q hq) hn) (fun e => by have := D.hQ q hq; have := (hr _ e.symm).1; omega)
  exact ⟨hg.size, fun _ p v _ hp => cell_kept hp hg (fun r e => (hr r e).2), fun hn x hx => .inl (back hn x hx), fun hn hw x hx => Nat.lt_of_lt_of_le (hw x (back hn x hx)) hg.size⟩
end Go.Proofs.Ytgamenimbkafjaa
