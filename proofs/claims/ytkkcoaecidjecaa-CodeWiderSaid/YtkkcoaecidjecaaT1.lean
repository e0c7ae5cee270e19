/- How modules lie in memory, row by row; rows that grow. No condition; no program is walked here. -/
import Derived.Test.YtkkcoaecidjecaaT0
import Derived.Test.YtkkcoaecidjecaaM0
import Derived.Test.YtkkcoaecidjecaaChecked
import Derived.Deep.RegionHeld3
import Derived.Deep.AppendLies
import Derived.Maps.AppendAt
import Derived.BigQuiet
namespace Go.Proofs.Ytkkcoaecidjecaa
open Go.RowKit
set_option linter.unusedVariables false
set_option linter.unusedSimpArgs false

def i64 (x : Int) : Prop := -9223372036854775808 ≤ x ∧ x ≤ 9223372036854775807
abbrev Ly (α : Type) := World → Sel → α → List Value → Prop
/-- What lies so stays so where nothing of its blocks turns, and where less is asked of its blocks. -/
structure Good {α : Type} (m : Nat) (L : Ly α) : Prop where
  len : ∀ {w B x cs}, L w B x cs → cs.length = m ∧ ∀ u ∈ cs, u.oneCell' = true
  turn : ∀ {N : Nat → Prop} {w w' : World} {B : Sel} {x : α} {cs : List Value}, L w B x cs → Fr N w w' → w.heap.size ≤ w'.heap.size → (∀ b, b < w.heap.size → B.S b → ¬ N b) → L w' B x cs
  weak : ∀ {w : World} {B B' : Sel} {x : α} {cs : List Value}, L w B x cs → B'.le B → L w B' x cs
  below : ∀ {w : World} {B : Sel} {x : α} {cs : List Value} {n : Nat}, L w B x cs → w.heap.size ≤ n → L w ⟨B.fresh, fun b => B.S b ∧ b < n⟩ x cs
theorem Good.keep {α : Type} {m : Nat} {L : Ly α} (g : Good m L) {w w' : World} {B : Sel} {x : α} {cs : List Value} (h : L w B x cs) (hk : Kp w w') : L w' B x cs := g.turn h hk.fr hk.sz (fun _ _ _ h => h)
/-- A row of things: the value v is a slice of them. -/
def RL {α : Type} (e : TypeId) (m by_ : Nat) (L : Ly α) (w : World) (B : Sel) (l : List α) (v : Value) : Prop :=
  ∃ (a : Option Addr) (c : Nat) (C : Nat → List Value), v = .slice a l.length c ∧ l.length ≤ c ∧ l.length * by_ ≤ 140737488351232 ∧ (∀ i, (C i).length = m ∧ ∀ u ∈ C i, u.oneCell' = true) ∧ tab w B e a l.length c m C ∧ ∀ i x, l[i]? = some x → L w B x (C i)
theorem RL.turn {α : Type} {e : TypeId} {m by_ : Nat} {L : Ly α} (g : Good m L) {N : Nat → Prop} {w w' : World} {B : Sel} {l : List α} {v : Value} (h : RL e m by_ L w B l v) (hk : Fr N w w') (hs : w.heap.size ≤ w'.heap.size) (hN : ∀ b, b < w.heap.size → B.S b → ¬ N b) : RL e m by_ L w' B l v := by
  obtain ⟨a, c, C, hv, h1, h2, h3, h4, h5⟩ := h
  exact ⟨a, c, C, hv, h1, h2, h3, h4.turn hk hs hN, fun i x hx => g.turn (h5 i x hx) hk hs hN⟩
theorem RL.weak {α : Type} {e : TypeId} {m by_ : Nat} {L : Ly α} (g : Good m L) {w : World} {B B' : Sel} {l : List α} {v : Value} (h : RL e m by_ L w B l v) (hB : B'.le B) : RL e m by_ L w B' l v := by
  obtain ⟨a, c, C, hv, h1, h2, h3, h4, h5⟩ := h
  exact ⟨a, c, C, hv, h1, h2, h3, h4.weak hB, fun i x hx => g.weak (h5 i x hx) hB⟩
theorem RL.below {α : Type} {e : TypeId} {m by_ : Nat} {L : Ly α} (g : Good m L) {w : World} {B : Sel} {l : List α} {v : Value} {n : Nat} (h : RL e m by_ L w B l v) (hn : w.heap.size ≤ n) : RL e m by_ L w ⟨B.fresh, fun b => B.S b ∧ b < n⟩ l v := by
  obtain ⟨a, c, C, hv, h1, h2, h3, h4, h5⟩ := h
  exact ⟨a, c, C, hv, h1, h2, h3, tab.below hn h4, fun i x hx => g.below (h5 i x hx) hn⟩
theorem RL.keep {α : Type} {e : TypeId} {m by_ : Nat} {L : Ly α} (g : Good m L) {w w' : World} {B : Sel} {l : List α} {v : Value} (h : RL e m by_ L w B l v) (hk : Kp w w') : RL e m by_ L w' B l v := h.turn g hk.fr hk.sz (fun _ _ _ h => h)
theorem RL.one {α : Type} {e : TypeId} {m by_ : Nat} {L : Ly α} {w : World} {B : Sel} {l : List α} {v : Value} (h : RL e m by_ L w B l v) : v.oneCell' = true := by
  obtain ⟨a, c, C, rfl, _⟩ := h
  rfl
/-! ### the things -/
def LI : Ly Int := fun _ _ x cs => cs = [.int .i64 x] ∧ i64 x
theorem goodI : Good 1 LI := by
  refine ⟨fun {w B x cs} h => ?_, fun h _ _ _ => h, fun h _ => h, fun h _ => h⟩
  obtain ⟨rfl, _⟩ := h
  exact ⟨rfl, by intro u hu; simp at hu; subst hu; rfl⟩
abbrev IL := RL 3 1 8 LI
def LC : Ly Cs := fun _ _ x cs => cs = [.bool x.s, .int .i64 x.c, .int .i64 x.v, .int .i64 x.t] ∧ i64 x.c ∧ i64 x.v ∧ i64 x.t
theorem goodC : Good 4 LC := by
  refine ⟨fun {w B x cs} h => ?_, fun h _ _ _ => h, fun h _ => h, fun h _ => h⟩
  obtain ⟨rfl, _⟩ := h
  exact ⟨rfl, by intro u hu; simp at hu; rcases hu with rfl | rfl | rfl | rfl <;> rfl⟩
abbrev CL := RL 60 4 32 LC
def LN : Ly Ins := fun w B x cs => ∃ v, cs = [.int .i64 x.o, .int .i64 x.a, .int .i64 x.b, .int .u64 x.n, v] ∧ CL w B x.cs v ∧ i64 x.o ∧ i64 x.a ∧ i64 x.b ∧ 0 ≤ x.n ∧ x.n ≤ 18446744073709551615
theorem goodN : Good 5 LN := by
  refine ⟨fun {w B x cs} h => ?_, fun h a b c => ?_, fun h a => ?_, fun h a => ?_⟩ <;> obtain ⟨v, rfl, h1, h2⟩ := h
  · exact ⟨rfl, by intro u hu; simp at hu; rcases hu with rfl | rfl | rfl | rfl | rfl <;> first | rfl | exact h1.one⟩
  · exact ⟨v, rfl, h1.turn goodC a b c, h2⟩
  · exact ⟨v, rfl, h1.weak goodC a, h2⟩
  · exact ⟨v, rfl, h1.below goodC a, h2⟩
abbrev NL := RL 58 5 56 LN
def LS : Ly Sh := fun w B x cs => ∃ v, cs = [.int .i64 x.k, v, .int .i64 x.r] ∧ IL w B x.l v ∧ i64 x.k ∧ i64 x.r
theorem goodS : Good 3 LS := by
  refine ⟨fun {w B x cs} h => ?_, fun h a b c => ?_, fun h a => ?_, fun h a => ?_⟩ <;> obtain ⟨v, rfl, h1, h2⟩ := h
  · exact ⟨rfl, by intro u hu; simp at hu; rcases hu with rfl | rfl | rfl <;> first | rfl | exact h1.one⟩
  · exact ⟨v, rfl, h1.turn goodI a b c, h2⟩
  · exact ⟨v, rfl, h1.weak goodI a, h2⟩
  · exact ⟨v, rfl, h1.below goodI a, h2⟩
abbrev SL := RL 45 3 40 LS
def LF : Ly Fu := fun w B x cs => ∃ v1 v2 v3, cs = [.int .i64 x.p, v1, v2, .int .i64 x.r, v3] ∧ IL w B x.lo v1 ∧ IL w B x.ca v2 ∧ NL w B x.co v3 ∧ i64 x.p ∧ i64 x.r
theorem goodF : Good 5 LF := by
  refine ⟨fun {w B x cs} h => ?_, fun h a b c => ?_, fun h a => ?_, fun h a => ?_⟩ <;> obtain ⟨v1, v2, v3, rfl, h1, h2, h3, h4⟩ := h
  · exact ⟨rfl, by intro u hu; simp at hu; rcases hu with rfl | rfl | rfl | rfl | rfl <;> first | rfl | exact h1.one | exact h2.one | exact h3.one⟩
  · exact ⟨v1, v2, v3, rfl, h1.turn goodI a b c, h2.turn goodI a b c, h3.turn goodN a b c, h4⟩
  · exact ⟨v1, v2, v3, rfl, h1.weak goodI a, h2.weak goodI a, h3.weak goodN a, h4⟩
  · exact ⟨v1, v2, v3, rfl, h1.below goodI a, h2.below goodI a, h3.below goodN a, h4⟩
abbrev FL := RL 51 5 88 LF
/-- A module: its two slices. -/
def LM : Ly Mo := fun w B x cs => ∃ v1 v2, cs = [v1, v2] ∧ SL w B x.ty v1 ∧ FL w B x.fu v2
theorem goodM : Good 2 LM := by
  refine ⟨fun {w B x cs} h => ?_, fun h a b c => ?_, fun h a => ?_, fun h a => ?_⟩ <;> obtain ⟨v1, v2, rfl, h1, h2⟩ := h
  · exact ⟨rfl, by intro u hu; simp at hu; rcases hu with rfl | rfl <;> first | exact h1.one | exact h2.one⟩
  · exact ⟨v1, v2, rfl, h1.turn goodS a b c, h2.turn goodF a b c⟩
  · exact ⟨v1, v2, rfl, h1.weak goodS a, h2.weak goodF a⟩
  · exact ⟨v1, v2, rfl, h1.below goodS a, h2.below goodF a⟩
/-! ### rows that grow -/
/-- A row of the call's own, from block B on, of things none of which lies in the row. -/
def GR {α : Type} (e : TypeId) (m : Nat) (L : Ly α) (w : World) (B : Nat) (l : List α) (v : Value) : Prop :=
  ∃ C : Nat → List Value, (∀ i, (C i).length = m ∧ ∀ u ∈ C i, u.oneCell' = true) ∧ w.ownsRow B e m v l.length (flat C l.length) ∧ ∀ i x, l[i]? = some x → L w ⟨True, fun b => B ≤ b ∧ some b ≠ v.ownBlock⟩ x (C i)
theorem GR.lt {α : Type} {e : TypeId} {m : Nat} {L : Ly α} {w : World} {B : Nat} {l : List α} {v : Value} (h : GR e m L w B l v) : ∀ k, v.ownBlock = some k → B ≤ k ∧ k < w.heap.size := by
  obtain ⟨C, _, h, _⟩ := h
  exact h.lt
theorem gr_nil {α : Type} {e : TypeId} {m : Nat} {L : Ly α} {w : World} {B : Nat} : GR e m L w B [] (.slice none 0 0) :=
  ⟨fun _ => List.replicate m (.int .i64 0), fun i => ⟨by simp, fun u hu => by rw [List.eq_of_mem_replicate hu]; rfl⟩, by simpa [flat] using World.ownsRow_nil _ _ _ _, fun i x hi => by simp at hi⟩
theorem GR.turn {α : Type} {e : TypeId} {m : Nat} {L : Ly α} (g : Good m L) {N : Nat → Prop} {w w' : World} {B : Nat} {l : List α} {v : Value} (h : GR e m L w B l v) (hk : Fr N w w') (hs : w.heap.size ≤ w'.heap.size) (hN : ∀ b, b < w.heap.size → B ≤ b → ¬ N b) : GR e m L w' B l v := by
  obtain ⟨C, h1, h2, h3⟩ := h
  refine ⟨C, h1, ?_, fun i x hx => g.turn (h3 i x hx) hk hs (fun b hb hS => hN b hb hS.1)⟩
  obtain ⟨hl, hv | ⟨gb, cap, cur, rfl, hB, hg, rest⟩⟩ := h2
  · exact ⟨hl, .inl hv⟩
  · exact ⟨hl, .inr ⟨gb, cap, cur, rfl, hB, (hk gb (Array.getElem?_eq_some_iff.1 hg).1 (hN gb (Array.getElem?_eq_some_iff.1 hg).1 hB)).trans hg, rest⟩⟩
theorem GR.keep {α : Type} {e : TypeId} {m : Nat} {L : Ly α} (g : Good m L) {w w' : World} {B : Nat} {l : List α} {v : Value} (h : GR e m L w B l v) (hk : Kp w w') : GR e m L w' B l v := h.turn g hk.fr hk.sz (fun _ _ _ h => h)
def putC (C : Nat → List Value) (n : Nat) (cs : List Value) (i : Nat) : List Value := if i = n then cs else C i
/-- One more. -/
theorem GR.next {α : Type} {e : TypeId} {m : Nat} {L : Ly α} (g : Good m L) {w w' : World} {B : Nat} {l : List α} {v v' : Value} {x : α} {cs : List Value} {C : Nat → List Value} {S : Nat → Prop}
    (h1 : ∀ i, (C i).length = m ∧ ∀ u ∈ C i, u.oneCell' = true) (h3 : ∀ i x, l[i]? = some x → L w ⟨True, fun b => B ≤ b ∧ some b ≠ v.ownBlock⟩ x (C i))
    (hx : L w ⟨True, S⟩ x cs) (hS : ∀ b, S b → B ≤ b ∧ some b ≠ v.ownBlock) (hown : w'.ownsRow B e m v' (l.length + 1) (flat C l.length ++ cs)) (hg : w.grownBy w' v.ownBlock) (hat : v'.ownBlock = v.ownBlock ∨ v'.ownBlock = some w.heap.size) : GR e m L w' B (l ++ [x]) v' := by
  have main : ∀ {y : α} {ds : List Value}, L w ⟨True, fun b => B ≤ b ∧ some b ≠ v.ownBlock⟩ y ds → L w' ⟨True, fun b => B ≤ b ∧ some b ≠ v'.ownBlock⟩ y ds := by
    intro y ds hy
    have h0 := g.below hy (Nat.le_refl _)
    have h1 := g.turn h0 (grown_fr hg) hg.size (fun b hb (hSb : (B ≤ b ∧ some b ≠ v.ownBlock) ∧ b < w.heap.size) e => hSb.1.2 e.symm)
    refine g.weak h1 (show Sel.le ⟨True, fun b => B ≤ b ∧ some b ≠ v'.ownBlock⟩ ⟨True, fun b => (B ≤ b ∧ some b ≠ v.ownBlock) ∧ b < w.heap.size⟩ from ⟨fun _ => trivial, fun b hb => ⟨hb.1.1, ?_⟩⟩)
    rcases hat with hat | hat
    · rw [hat]; exact hb.1.2
    · rw [hat]; intro e; cases e; have := hb.2; omega
  refine ⟨putC C l.length cs, fun i => ?_, ?_, fun i y hy => ?_⟩
  · unfold putC; split
    · exact g.len hx
    · exact h1 i
  · rw [List.length_append, List.length_singleton, flat, flat_congr (C' := C) (fun i hi => by unfold putC; rw [if_neg (by omega)])]
    unfold putC; rw [if_pos rfl]
    exact hown
  · unfold putC
    by_cases hi : i < l.length
    · rw [List.getElem?_append_left hi] at hy
      rw [if_neg (by omega)]
      exact main (h3 i y hy)
    · have hi' : i = l.length := by
        have := (List.getElem?_eq_some_iff.1 hy).1
        simp at this; omega
      subst hi'
      simp at hy
      subst hy
      rw [if_pos rfl]
      exact main (g.weak hx (show Sel.le ⟨True, fun b => B ≤ b ∧ some b ≠ v.ownBlock⟩ ⟨True, S⟩ from ⟨fun h => h, hS⟩))
/-- What has grown is a row. -/
theorem GR.all {α : Type} {e : TypeId} {m by_ : Nat} {L : Ly α} (g : Good m L) {w : World} {B : Nat} {l : List α} {v : Value} (h : GR e m L w B l v) (hb : l.length * by_ ≤ 140737488351232) : RL e m by_ L w (From B) l v := by
  obtain ⟨C, h1, h2, h3⟩ := h
  obtain ⟨ad, c, rfl, hle, ht, _⟩ := tab_of_owns h2 (fun i => (h1 i).1)
  exact ⟨ad, c, C, rfl, hle, hb, h1, ht, fun i x hx => g.weak (h3 i x hx) (show Sel.le (From B) ⟨True, fun b => B ≤ b ∧ some b ≠ (Value.slice ad l.length c).ownBlock⟩ from ⟨fun h => h, fun b hb => hb.1⟩)⟩
theorem GR.weak {α : Type} {e : TypeId} {m : Nat} {L : Ly α} (g : Good m L) {w : World} {B B' : Nat} {l : List α} {v : Value} (h : GR e m L w B l v) (hB : B' ≤ B) : GR e m L w B' l v := by
  obtain ⟨C, h1, h2, h3⟩ := h
  refine ⟨C, h1, ?_, fun i x hx => g.weak (h3 i x hx) (show Sel.le _ _ from ⟨fun h => h, fun b hb => ⟨Nat.le_trans hB hb.1, hb.2⟩⟩)⟩
  obtain ⟨hl, hv | ⟨gb, cap, cur, rfl, hb, rest⟩⟩ := h2
  · exact ⟨hl, .inl hv⟩
  · exact ⟨hl, .inr ⟨gb, cap, cur, rfl, Nat.le_trans hB hb, rest⟩⟩
theorem From_le {a b : Nat} (h : a ≤ b) : (From a).le (From b) := ⟨fun h => h, fun x hx => Nat.le_trans h hx⟩
theorem row_cell {w : World} {g : Nat} {cs : Array Value} {t : TypeId} {fr : Nat × Nat} (hg : w.heap[g]? = some (.cells cs t fr)) (j : Nat) : w.cell? ⟨g, j, none⟩ = cs[j]? := cell_of_row w g j cs t fr hg
theorem heap_at {w : World} {o : Obj} {n : Nat} (h : n = w.heap.size) : (w.alloc o).heap[n]? = some o := by subst h; exact heap_alloc_new w o
theorem Fr.set (w : World) (a : Addr) (v : Value) : Fr (fun k => k = a.block) w (w.setCell a v) := fun k hk hn => Below.heap_setCell _ _ _ _ hn
theorem row_lt {w : World} {b : Nat} {o : Obj} (h : w.heap[b]? = some o) : b < w.heap.size := (Array.getElem?_eq_some_iff.1 h).1
theorem row_keep {w w' : World} (hk : Kp w w') {b : Nat} {o : Obj} (h : w.heap[b]? = some o) : w'.heap[b]? = some o := (hk.blk (row_lt h)).trans h
theorem infoI : (Try.prog.info? 3).map (fun i => (i.zero, i.size, i.bytes)) = some (some (.int .i64 0), 1, 8) := by kernel_rfl
theorem infoU : (Try.prog.info? 5).map (fun i => (i.zero, i.size, i.bytes)) = some (some (.int .u8 0), 1, 1) := by kernel_rfl
theorem infoC : (Try.prog.info? 60).map (fun i => (i.zero, i.size, i.bytes)) = some (some (.agg #[.bool false, .int .i64 0, .int .i64 0, .int .i64 0]), 4, 32) := by kernel_rfl
theorem infoN : (Try.prog.info? 58).map (fun i => (i.zero, i.size, i.bytes)) = some (some (.agg #[.int .i64 0, .int .i64 0, .int .i64 0, .int .u64 0, .slice none 0 0]), 5, 56) := by kernel_rfl
theorem infoS : (Try.prog.info? 45).map (fun i => (i.zero, i.size, i.bytes)) = some (some (.agg #[.int .i64 0, .slice none 0 0, .int .i64 0]), 3, 40) := by kernel_rfl
theorem infoF : (Try.prog.info? 51).map (fun i => (i.zero, i.size, i.bytes)) = some (some (.agg #[.int .i64 0, .slice none 0 0, .slice none 0 0, .int .i64 0, .slice none 0 0]), 5, 88) := by kernel_rfl
end Go.Proofs.Ytkkcoaecidjecaa
