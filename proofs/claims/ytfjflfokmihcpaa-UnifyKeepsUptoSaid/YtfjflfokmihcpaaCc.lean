/- spoil of the law: it writes over rows of the blocks that the type lies in, and over nothing else. Condition: the type lies in fresh blocks. -/
import Derived.Test.YtfjflfokmihcpaaCb
import Derived.Test.YtfjflfokmihcpaaFg2
import Derived.IntWalk
namespace Go.Proofs.Ytfjflfokmihcpaa
open Go.RowKit
set_option linter.unusedVariables false
set_option linter.unusedSimpArgs false
set_option linter.unusedSimpArgs false
theorem Sp.row {P : Nat → Prop} {w w' : World} (h : Sp P w w') {b : Nat} {cs : Array Value} {t : TypeId} (hn : ¬ P b) (hc : w.heap[b]? = some (.cells cs t (0, 0))) : w'.heap[b]? = some (.cells cs t (0, 0)) :=
  (h.same b (Array.getElem?_eq_some_iff.1 hc).1 hn).trans hc
theorem six {w : World} {g : Nat} {x0 x1 x2 x3 x4 x5 : Value} {t : TypeId} {fr : Nat × Nat} (hg : w.heap[g]? = some (.cells #[x0, x1, x2, x3, x4, x5] t fr)) :
    w.cell? ⟨g, 0, none⟩ = some x0 ∧ w.cell? ⟨g, 1, none⟩ = some x1 ∧ w.cell? ⟨g, 2, none⟩ = some x2 ∧ w.cell? ⟨g, 3, none⟩ = some x3 ∧ w.cell? ⟨g, 4, none⟩ = some x4 ∧ w.cell? ⟨g, 5, none⟩ = some x5 :=
  ⟨row_cell hg 0, row_cell hg 1, row_cell hg 2, row_cell hg 3, row_cell hg 4, row_cell hg 5⟩
theorem cell_at {w : World} {b : Nat} {cur : Array Value} {e : TypeId} {o : Nat} {cs : List Value} (hc : w.heap[b]? = some (.cells cur e (0, 0))) (hr : rowIs cur o cs) (j : Nat) (v : Value) (hv : cs[j]? = some v) : w.cell? ⟨b, o + j, none⟩ = some v := by
  rw [cell_of_row w b (o + j) cur e (0, 0) hc]; exact hr j v hv
theorem cell_in {w : World} {b : Nat} {cur : Array Value} {e : TypeId} {k : Nat} (hc : w.heap[b]? = some (.cells cur e (0, 0))) (hk : k < cur.size) : ∃ v, w.cell? ⟨b, k, none⟩ = some v := by
  rw [cell_of_row w b k cur e (0, 0) hc]; exact ⟨_, Array.getElem?_eq_getElem hk⟩
theorem unfrozen {w : World} {b : Nat} {cur : Array Value} {e : TypeId} (hc : w.heap[b]? = some (.cells cur e (0, 0))) (k : Nat) : w.frozen? ⟨b, k, none⟩ = false := frozen_of_row _ _ _ _ e hc
/-- A header of nothing but a kind. -/
def hdK (k : Int) : Hd := ⟨k, ⟨#[]⟩, 0, none, 0, 0, none, 0, 0, none, 0, 0⟩
/-- Each block of what lies there is there. -/
def Sel.cap (B : Sel) (n : Nat) : Sel := ⟨B.fresh, fun b => B.S b ∧ b < n⟩
theorem tab.cap {w : World} {B : Sel} {e : TypeId} {a : Option Addr} {n c m : Nat} {C : Nat → List Value} (h : tab w B e a n c m C) : tab w (B.cap w.heap.size) e a n c m C := ⟨h.1, fun hn => by
  obtain ⟨b, o, ha, hB, hl, hf, hr⟩ := h.2 hn
  exact ⟨b, o, ha, ⟨hB, hl⟩, hl, hf, hr⟩⟩
theorem Lies.cap {w : World} {B : Sel} : ∀ {r : Nat} {T : Ty} {h : Hd}, Lies w B r T h → Lies w (B.cap w.heap.size) r T h
  | 0, _, _, h => h
  | r + 1, _, _, ⟨K, t, hh⟩ => ⟨K, { t with tf := t.tf.cap, tl := t.tl.cap, tr := t.tr.cap }, fun i X hX => Lies.cap (hh i X hX)⟩
end Go.Proofs.Ytfjflfokmihcpaa
