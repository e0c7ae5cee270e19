/- Rows of things in memory; rows that grow. No condition; no program is walked here. -/
import Derived.Test.YtkaeigklhdpifaaT0
import Derived.Test.YtkaeigklhdpifaaChecked
import Derived.Deep.RegionHeld3
import Derived.Deep.AppendLies
import Derived.Maps.AppendAt
import Derived.BigQuiet
import Derived.Lib.Hide
import Derived.Deep.RegionLaw
import Derived.Laws.Rows
import Derived.Laws.Tables
namespace Go.Proofs.Ytkaeigklhdpifaa
open Go.RowKit
set_option linter.unusedVariables false
set_option linter.unusedSimpArgs false

def i64 (x : Int) : Prop := -9223372036854775808 ≤ x ∧ x ≤ 9223372036854775807
abbrev Ly (α : Type) := World → Sel → α → List Value → Prop
/-- What lies so stays so where nothing of its blocks turns, and where less is asked of its blocks. -/
structure Good {α : Type} (m : Nat) (L : Ly α) : Prop where
  len : ∀ {w B x cs}, L w B x cs → cs.length = m ∧ ∀ u ∈ cs, u.oneCell' = true
  turn : ∀ {N : Nat → Prop} {w w' : World} {B : Sel} {x : α} {cs : List Value}, L w B x cs → Fr N w w' → w.heap.size ≤ w'.heap.size → (∀ b, b < w.heap.size → B.S b → ¬ N b) → L w' B x cs
  weak : ∀ {w : World} {B B' : Sel} {x : α} {cs : List Value}, L w B x cs → B'.le B → L w B' x cs
  below : ∀ {w : World} {B : Sel} {x : α} {cs : List Value} {n : Nat}, L w B x cs → w.heap.size ≤ n → L w ⟨B.fresh, fun b => B.S b ∧ b < n⟩ x cs
theorem Good.keep {α : Type} {m : Nat} {L : Ly α} (g : Good m L) {w w' : World} {B : Sel} {x : α} {cs : List Value} (h : L w B x cs) (hk : Kp w w') : L w' B x cs := g.turn h hk.fr hk.sz (fun _ _ _ h => h)
/-- A row of things: the value v is a slice of them. -/
def RL {α : Type} (e : TypeId) (m by_ : Nat) (L : Ly α) (w : World) (B : Sel) (l : List α) (v : Value) : Prop :=
  ∃ (a : Option Addr) (c : Nat) (C : Nat → List Value), v = .slice a l.length c ∧ l.length ≤ c ∧ l.length * by_ ≤ 140737488351232 ∧ (∀ i, (C i).length = m ∧ ∀ u ∈ C i, u.oneCell' = true) ∧ tab w B e a l.length c m C ∧ ∀ i x, l[i]? = some x → L w B x (C i)
theorem RL.turn {α : Type} {e : TypeId} {m by_ : Nat} {L : Ly α} (g : Good m L) {N : Nat → Prop} {w w' : World} {B : Sel} {l : List α} {v : Value} (h : RL e m by_ L w B l v) (hk : Fr N w w') (hs : w.heap.size ≤ w'.heap.size) (hN : ∀ b, b < w.heap.size → B.S b → ¬ N b) : RL e m by_ L w' B l v := by
  obtain ⟨a, c, C, hv, h1, h2, h3, h4, h5⟩ := h
  exact ⟨a, c, C, hv, h1, h2, h3, h4.turn hk hs hN, fun i x hx => g.turn (h5 i x hx) hk hs hN⟩
theorem RL.weak {α : Type} {e : TypeId} {m by_ : Nat} {L : Ly α} (g : Good m L) {w : World} {B B' : Sel} {l : List α} {v : Value} (h : RL e m by_ L w B l v) (hB : B'.le B) : RL e m by_ L w B' l v := by
  obtain ⟨a, c, C, hv, h1, h2, h3, h4, h5⟩ := h
  exact ⟨a, c, C, hv, h1, h2, h3, h4.weak hB, fun i x hx => g.weak (h5 i x hx) hB⟩
theorem RL.below {α : Type} {e : TypeId} {m by_ : Nat} {L : Ly α} (g : Good m L) {w : World} {B : Sel} {l : List α} {v : Value} {n : Nat} (h : RL e m by_ L w B l v) (hn : w.heap.size ≤ n) : RL e m by_ L w ⟨B.fresh, fun b => B.S b ∧ b < n⟩ l v := by
  obtain ⟨a, c, C, hv, h1, h2, h3, h4, h5⟩ := h
  exact ⟨a, c, C, hv, h1, h2, h3, tab.below hn h4, fun i x hx => g.below (h5 i x hx) hn⟩
theorem RL.keep {α : Type} {e : TypeId} {m by_ : Nat} {L : Ly α} (g : Good m L) {w w' : World} {B : Sel} {l : List α} {v : Value} (h : RL e m by_ L w B l v) (hk : Kp w w') : RL e m by_ L w' B l v := h.turn g hk.fr hk.sz (fun _ _ _ h => h)
theorem RL.one {α : Type} {e : TypeId} {m by_ : Nat} {L : Ly α} {w : World} {B : Sel} {l : List α} {v : Value} (h : RL e m by_ L w B l v) : v.oneCell' = true := by
  obtain ⟨a, c, C, rfl, _⟩ := h
  rfl
/-! ### the things -/
def LI : Ly Int := fun _ _ x cs => cs = [.int .i64 x] ∧ i64 x
theorem goodI : Good 1 LI := by
  refine ⟨fun {w B x cs} h => ?_, fun h _ _ _ => h, fun h _ => h, fun h _ => h⟩
  obtain ⟨rfl, _⟩ := h
  exact ⟨rfl, by intro u hu; simp at hu; subst hu; rfl⟩
abbrev IL := RL 3 1 8 LI
def LBo : Ly Bool := fun _ _ x cs => cs = [.bool x]
theorem goodBo : Good 1 LBo := by
  refine ⟨fun {w B x cs} h => ?_, fun h _ _ _ => h, fun h _ => h, fun h _ => h⟩
  obtain rfl := h
  exact ⟨rfl, by intro u hu; simp at hu; subst hu; rfl⟩
abbrev BoL := RL 4 1 1 LBo
/-! ### rows that grow -/
/-- A row of the call's own, from block B on, of things none of which lies in the row. -/
def GR {α : Type} (e : TypeId) (m : Nat) (L : Ly α) (w : World) (B : Nat) (l : List α) (v : Value) : Prop :=
  ∃ C : Nat → List Value, (∀ i, (C i).length = m ∧ ∀ u ∈ C i, u.oneCell' = true) ∧ w.ownsRow B e m v l.length (flat C l.length) ∧ ∀ i x, l[i]? = some x → L w ⟨True, fun b => B ≤ b ∧ some b ≠ v.ownBlock⟩ x (C i)
theorem GR.lt {α : Type} {e : TypeId} {m : Nat} {L : Ly α} {w : World} {B : Nat} {l : List α} {v : Value} (h : GR e m L w B l v) : ∀ k, v.ownBlock = some k → B ≤ k ∧ k < w.heap.size := by
  obtain ⟨C, _, h, _⟩ := h
  exact h.lt
theorem gr_nil {α : Type} {e : TypeId} {m : Nat} {L : Ly α} {w : World} {B : Nat} : GR e m L w B [] (.slice none 0 0) :=
  ⟨fun _ => List.replicate m (.int .i64 0), fun i => ⟨by simp, fun u hu => by rw [List.eq_of_mem_replicate hu]; rfl⟩, by simpa [flat] using World.ownsRow_nil _ _ _ _, fun i x hi => by simp at hi⟩
theorem GR.turn {α : Type} {e : TypeId} {m : Nat} {L : Ly α} (g : Good m L) {N : Nat → Prop} {w w' : World} {B : Nat} {l : List α} {v : Value} (h : GR e m L w B l v) (hk : Fr N w w') (hs : w.heap.size ≤ w'.heap.size) (hN : ∀ b, b < w.heap.size → B ≤ b → ¬ N b) : GR e m L w' B l v := by
  obtain ⟨C, h1, h2, h3⟩ := h
  refine ⟨C, h1, ?_, fun i x hx => g.turn (h3 i x hx) hk hs (fun b hb hS => hN b hb hS.1)⟩
  obtain ⟨hl, hv | ⟨gb, cap, cur, rfl, hB, hg, rest⟩⟩ := h2
  · exact ⟨hl, .inl hv⟩
  · exact ⟨hl, .inr ⟨gb, cap, cur, rfl, hB, (hk gb (Array.getElem?_eq_some_iff.1 hg).1 (hN gb (Array.getElem?_eq_some_iff.1 hg).1 hB)).trans hg, rest⟩⟩
theorem GR.keep {α : Type} {e : TypeId} {m : Nat} {L : Ly α} (g : Good m L) {w w' : World} {B : Nat} {l : List α} {v : Value} (h : GR e m L w B l v) (hk : Kp w w') : GR e m L w' B l v := h.turn g hk.fr hk.sz (fun _ _ _ h => h)
def putC (C : Nat → List Value) (n : Nat) (cs : List Value) (i : Nat) : List Value := if i = n then cs else C i
/-- One more. -/
theorem GR.next {α : Type} {e : TypeId} {m : Nat} {L : Ly α} (g : Good m L) {w w' : World} {B : Nat} {l : List α} {v v' : Value} {x : α} {cs : List Value} {C : Nat → List Value} {S : Nat → Prop}
    (h1 : ∀ i, (C i).length = m ∧ ∀ u ∈ C i, u.oneCell' = true) (h3 : ∀ i x, l[i]? = some x → L w ⟨True, fun b => B ≤ b ∧ some b ≠ v.ownBlock⟩ x (C i))
    (hx : L w ⟨True, S⟩ x cs) (hS : ∀ b, S b → B ≤ b ∧ some b ≠ v.ownBlock) (hown : w'.ownsRow B e m v' (l.length + 1) (flat C l.length ++ cs)) (hg : w.grownBy w' v.ownBlock) (hat : v'.ownBlock = v.ownBlock ∨ v'.ownBlock = some w.heap.size) : GR e m L w' B (l ++ [x]) v' := by
  have main : ∀ {y : α} {ds : List Value}, L w ⟨True, fun b => B ≤ b ∧ some b ≠ v.ownBlock⟩ y ds → L w' ⟨True, fun b => B ≤ b ∧ some b ≠ v'.ownBlock⟩ y ds := by
    intro y ds hy
    have h0 := g.below hy (Nat.le_refl _)
    have h1 := g.turn h0 (grown_fr hg) hg.size (fun b hb (hSb : (B ≤ b ∧ some b ≠ v.ownBlock) ∧ b < w.heap.size) e => hSb.1.2 e.symm)
    refine g.weak h1 (show Sel.le ⟨True, fun b => B ≤ b ∧ some b ≠ v'.ownBlock⟩ ⟨True, fun b => (B ≤ b ∧ some b ≠ v.ownBlock) ∧ b < w.heap.size⟩ from ⟨fun _ => trivial, fun b hb => ⟨hb.1.1, ?_⟩⟩)
    rcases hat with hat | hat
    · rw [hat]; exact hb.1.2
    · rw [hat]; intro e; cases e; have := hb.2; omega
  refine ⟨putC C l.length cs, fun i => ?_, ?_, fun i y hy => ?_⟩
  · unfold putC; split
    · exact g.len hx
    · exact h1 i
  · rw [List.length_append, List.length_singleton, flat, flat_congr (C' := C) (fun i hi => by unfold putC; rw [if_neg (by omega)])]
    unfold putC; rw [if_pos rfl]
    exact hown
  · unfold putC
    by_cases hi : i < l.length
    · rw [List.getElem?_append_left hi] at hy
      rw [if_neg (by omega)]
      exact main (h3 i y hy)
    · have hi' : i = l.length := by
        have := (List.getElem?_eq_some_iff.1 hy).1
        simp at this; omega
      subst hi'
      simp at hy
      subst hy
      rw [if_pos rfl]
      exact main (g.weak hx (show Sel.le ⟨True, fun b => B ≤ b ∧ some b ≠ v.ownBlock⟩ ⟨True, S⟩ from ⟨fun h => h, hS⟩))
/-- What has grown is a row. -/
theorem GR.all {α : Type} {e : TypeId} {m by_ : Nat} {L : Ly α} (g : Good m L) {w : World} {B : Nat} {l : List α} {v : Value} (h : GR e m L w B l v) (hb : l.length * by_ ≤ 140737488351232) : RL e m by_ L w (From B) l v := by
  obtain ⟨C, h1, h2, h3⟩ := h
  obtain ⟨ad, c, rfl, hle, ht, _⟩ := tab_of_owns h2 (fun i => (h1 i).1)
  exact ⟨ad, c, C, rfl, hle, hb, h1, ht, fun i x hx => g.weak (h3 i x hx) (show Sel.le (From B) ⟨True, fun b => B ≤ b ∧ some b ≠ (Value.slice ad l.length c).ownBlock⟩ from ⟨fun h => h, fun b hb => hb.1⟩)⟩
theorem GR.weak {α : Type} {e : TypeId} {m : Nat} {L : Ly α} (g : Good m L) {w : World} {B B' : Nat} {l : List α} {v : Value} (h : GR e m L w B l v) (hB : B' ≤ B) : GR e m L w B' l v := by
  obtain ⟨C, h1, h2, h3⟩ := h
  refine ⟨C, h1, ?_, fun i x hx => g.weak (h3 i x hx) (show Sel.le _ _ from ⟨fun h => h, fun b hb => ⟨Nat.le_trans hB hb.1, hb.2⟩⟩)⟩
  obtain ⟨hl, hv | ⟨gb, cap, cur, rfl, hb, rest⟩⟩ := h2
  · exact ⟨hl, .inl hv⟩
  · exact ⟨hl, .inr ⟨gb, cap, cur, rfl, Nat.le_trans hB hb, rest⟩⟩
theorem From_le {a b : Nat} (h : a ≤ b) : (From a).le (From b) := ⟨fun h => h, fun x hx => Nat.le_trans h hx⟩
theorem row_cell {w : World} {g : Nat} {cs : Array Value} {t : TypeId} {fr : Nat × Nat} (hg : w.heap[g]? = some (.cells cs t fr)) (j : Nat) : w.cell? ⟨g, j, none⟩ = cs[j]? := cell_of_row w g j cs t fr hg
theorem heap_at {w : World} {o : Obj} {n : Nat} (h : n = w.heap.size) : (w.alloc o).heap[n]? = some o := by subst h; exact heap_alloc_new w o
theorem Fr.set (w : World) (a : Addr) (v : Value) : Fr (fun k => k = a.block) w (w.setCell a v) := fun k hk hn => Below.heap_setCell _ _ _ _ hn
theorem row_lt {w : World} {b : Nat} {o : Obj} (h : w.heap[b]? = some o) : b < w.heap.size := (Array.getElem?_eq_some_iff.1 h).1
theorem row_keep {w w' : World} (hk : Kp w w') {b : Nat} {o : Obj} (h : w.heap[b]? = some o) : w'.heap[b]? = some o := (hk.blk (row_lt h)).trans h
theorem infoI : (Try.prog.info? 3).map (fun i => (i.zero, i.size, i.bytes)) = some (some (.int .i64 0), 1, 8) := by kernel_rfl
theorem infoBo : (Try.prog.info? 4).map (fun i => (i.zero, i.size, i.bytes)) = some (some (.bool false), 1, 1) := by kernel_rfl
theorem infoU : (Try.prog.info? 31).map (fun i => (i.zero, i.size, i.bytes)) = some (some (.int .u64 0), 1, 8) := by kernel_rfl
theorem infoC : (Try.prog.info? 75).map (fun i => (i.zero, i.size, i.bytes)) = some (some (.agg #[.int .u64 0, .bool false]), 2, 16) := by kernel_rfl
theorem infoO : (Try.prog.info? 50).map (fun i => (i.zero, i.size, i.bytes)) = some (some (.agg #[.int .i64 0, .slice none 0 0, .slice none 0 0]), 3, 56) := by kernel_rfl
theorem infoA : (Try.prog.info? 35).map (fun i => (i.zero, i.size, i.bytes)) = some (some (.agg #[.int .i64 0, .int .i64 0, .int .i64 0, .int .u64 0, .slice none 0 0, .slice none 0 0]), 6, 80) := by kernel_rfl
theorem row2 {w : World} {b : Nat} {x y : Value} {t : TypeId} {fr : Nat × Nat} (h : w.heap[b]? = some (.cells #[x, y] t fr)) : w.cell? ⟨b, 0, none⟩ = some x ∧ w.cell? ⟨b, 1, none⟩ = some y := ⟨row_cell h 0, row_cell h 1⟩
theorem row3 {w : World} {b : Nat} {x y z : Value} {t : TypeId} {fr : Nat × Nat} (h : w.heap[b]? = some (.cells #[x, y, z] t fr)) : w.cell? ⟨b, 0, none⟩ = some x ∧ w.cell? ⟨b, 1, none⟩ = some y ∧ w.cell? ⟨b, 2, none⟩ = some z := ⟨row_cell h 0, row_cell h 1, row_cell h 2⟩
theorem row4 {w : World} {b : Nat} {x y z u : Value} {t : TypeId} {fr : Nat × Nat} (h : w.heap[b]? = some (.cells #[x, y, z, u] t fr)) : w.cell? ⟨b, 0, none⟩ = some x ∧ w.cell? ⟨b, 1, none⟩ = some y ∧ w.cell? ⟨b, 2, none⟩ = some z ∧ w.cell? ⟨b, 3, none⟩ = some u := ⟨row_cell h 0, row_cell h 1, row_cell h 2, row_cell h 3⟩
theorem row5 {w : World} {b : Nat} {x y z u v : Value} {t : TypeId} {fr : Nat × Nat} (h : w.heap[b]? = some (.cells #[x, y, z, u, v] t fr)) : w.cell? ⟨b, 0, none⟩ = some x ∧ w.cell? ⟨b, 1, none⟩ = some y ∧ w.cell? ⟨b, 2, none⟩ = some z ∧ w.cell? ⟨b, 3, none⟩ = some u ∧ w.cell? ⟨b, 4, none⟩ = some v := ⟨row_cell h 0, row_cell h 1, row_cell h 2, row_cell h 3, row_cell h 4⟩
/-- A store of all cells of a block that was made just now. -/
theorem wpList_store_new {P : Program} {ops : Array Oper} {rest : List Oper} {o : Oper} {a : Act} {w : World} {Q : Exit → Act → World → Prop} (hgd : o.guard = none) (ty : TypeId) (x y : Operand) (ho : o.op = .store ty x y)
    (w1 : World) (g : Nat) (cells : Array Value) (hx : a.eval x = .pointer (some ⟨g, 0, none⟩)) (hy : a.eval y = .agg cells) (hgs : g = w1.heap.size)
    (t : TypeId) (old : Array Value) (hw : w = w1.alloc (.cells old t)) (hi : (P.info? ty).map (·.size) = some cells.size)
    (hold : old.size = cells.size) (h1 : cells.all (·.oneCell') = true)
    (h : ∀ w', w'.heap[g]? = some (.cells cells t (0, 0)) → Kp w1 w' → w1.heap.size < w'.heap.size → wpList P ops Q rest (a.put o.dst undef) w') : wpList P ops Q (o :: rest) a w := by
  subst hw
  subst hgs
  have hg := heap_alloc_new w1 (.cells old t)
  refine wpList_store_row hgd ty x y ho w1.heap.size cells hx hy t old hg hi hold h1 (h _ (setRow_heap _ _ old cells t (0, 0) hg) ⟨rfl, rfl, rfl, by simp, fun k hk => ?_⟩ (by simp))
  exact (setRow_other _ _ k cells (by omega)).trans (((Kp.refl w1).alloc _).blk hk)
theorem end_none {fn : Func} {R : Ending → World → Prop} {a : Act} {w : World} (hfn : fn.results = #[]) (hd : a.defers = []) (hR : R (.returned (.tuple #[])) w) : bodyPost Try.prog fn R .normal a w :=
  ⟨hd, .tuple #[], by simp [results, hfn, go_sem], hR⟩
theorem end_ret {fn : Func} {R : Ending → World → Prop} {a : Act} {w : World} (hfn : fn.results = #[]) (hd : a.defers = []) (hR : R (.returned (.tuple #[])) w) : bodyPost Try.prog fn R .ret a w :=
  ⟨hd, .tuple #[], by simp [results, hfn, go_sem], hR⟩
theorem info_parts {t : TypeId} {z : Value} {s b : Nat} (h : (Try.prog.info? t).map (fun i => (i.zero, i.size, i.bytes)) = some (some z, s, b)) : ∃ i, Try.prog.info? t = some i ∧ i.zero = some z ∧ i.size = s ∧ i.bytes = b := by
  obtain ⟨i, hi, he⟩ := Option.map_eq_some_iff.1 h
  simp only [Prod.mk.injEq] at he
  exact ⟨i, hi, he.1, he.2.1, he.2.2⟩
theorem i64_len {α : Type} {l : List α} (h : l.length ≤ 1099511627776) : i64 (l.length : Int) := by unfold i64; omega
theorem i64_lenB {α : Type} {l : List α} {b : Nat} (hb : 1 ≤ b) (h : l.length * b ≤ 140737488351232) : i64 (l.length : Int) := by
  have : l.length * 1 ≤ l.length * b := Nat.mul_le_mul_left _ hb
  unfold i64; omega
section
variable {P : Program} {ops : Array Oper} {Q : Exit → Act → World → Prop}
theorem step_go {o : Oper} {a : Act} {w : World} {K : Act → World → Prop} {E : Prop} (hgd : o.guard = none) (h : o.wp P a w K Q) : if Region.wanted o (yielded ops a.tmps) = true then Oper.wp P o a w K Q else E := by
  have hw : Region.wanted o (yielded ops a.tmps) = true := by simp [Region.wanted, hgd]
  rw [if_pos hw]
  exact h
theorem step_call {o : Oper} {a : Act} {w : World} {K : Act → World → Prop} {f : FuncId} {fn : Func} {args : Array Operand} {tys : Array TypeId} (ho : o.op = .call { callee := .value (.func f), args := args, argTypes := tys })
    (hf : P.funcs[f]? = some fn) (hname : (fn.name == "runtime.NumGoroutine") = false) (hb : fn.body.isNone = false) {vals : Array Value} (hv : args.map a.eval = vals)
    (h : Calls P f vals w fun e w' => ∃ v, e = .returned v ∧ K (a.put o.dst v) w') : o.wp P a w K Q := by
  have h1 : ¬ fn.name = "runtime.NumGoroutine" := by simpa using hname
  have h2 : ¬ fn.body = none := by cases hx : fn.body <;> simp_all
  have hrun : (execOp a.eval o).run P w = .ok (.enter f (args.map a.eval)) w := by
    unfold execOp
    simp [ho, resolve, Deferred.ofValue, invoke, callFunc, hf, h1, h2, Act.eval]
  unfold Oper.wp
  rw [hrun, Oper.upon_enter, hv]
  exact h.mono (fun e w' ⟨v, h1, h2⟩ => by subst h1; exact h2)
end
end Go.Proofs.Ytkaeigklhdpifaa
