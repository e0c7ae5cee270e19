/- The map of what names stand for, in memory; what may turn while types are matched. No program is walked here. -/
import Derived.Test.YtfjflfokmihcpaaUa
import Derived.Test.YtfjflfokmihcpaaMe
import Derived.Test.YtfjflfokmihcpaaRb
namespace Go.Proofs.Ytfjflfokmihcpaa
open Go.RowKit
set_option linter.unusedVariables false
set_option linter.unusedSimpArgs false
/-- But for the block bm nothing of what was there has turned. -/
structure Mk (bm : Nat) (w w' : World) : Prop where
  os : w'.os = w.os
  tape : w'.tape = w.tape
  output : w'.output = w.output
  sz : w.heap.size ≤ w'.heap.size
  same : ∀ k, k < w.heap.size → k ≠ bm → w'.heap[k]? = w.heap[k]?
theorem Mk.refl (bm : Nat) (w : World) : Mk bm w w := ⟨rfl, rfl, rfl, Nat.le_refl _, fun _ _ _ => rfl⟩
theorem Mk.trans {bm : Nat} {a b c : World} (h : Mk bm a b) (k : Mk bm b c) : Mk bm a c :=
  ⟨k.os.trans h.os, k.tape.trans h.tape, k.output.trans h.output, Nat.le_trans h.sz k.sz, fun x hx hn => (k.same x (Nat.lt_of_lt_of_le hx h.sz) hn).trans (h.same x hx hn)⟩
theorem Kp.mk {bm : Nat} {w w' : World} (h : Kp w w') : Mk bm w w' := ⟨h.os, h.tape, h.output, h.sz, fun k hk _ => h.blk hk⟩
theorem Mk.old {bm : Nat} {w0 w w' : World} (h : Mk bm w w') (k : Kp w0 w) (hb : w0.heap.size ≤ bm) : Kp w0 w' :=
  ⟨h.os.trans k.os, h.tape.trans k.tape, h.output.trans k.output, Nat.le_trans k.sz h.sz, fun x hx => (h.same x (Nat.lt_of_lt_of_le hx k.sz) (by omega)).trans (k.blk hx)⟩
theorem Mk.fr {bm : Nat} {w w' : World} (h : Mk bm w w') : Fr (fun k => k = bm) w w' := fun k hk hn => h.same k hk hn
theorem Mk.cellv {bm : Nat} {w w' : World} (h : Mk bm w w') {p : Addr} {v : Value} (hc : w.cell? p = some v) (hn : p.block ≠ bm) : w'.cell? p = some v := by
  rw [← hc]; exact World.cell?_of_block (h.same _ (lt_of_cell hc) hn)
theorem Mk.grown {bm : Nat} {w w' : World} (h : w.grownBy w' (some bm)) : Mk bm w w' := ⟨h.os, h.tape, h.output, h.size, fun k hk hn => h.block k hk (fun e => hn (by cases e; rfl))⟩
/-- Types that lie elsewhere. -/
def Off (bm : Nat) : Sel := ⟨False, fun k => k ≠ bm⟩
theorem Lies.mk {bm : Nat} {w w' : World} {r : Nat} {T : Ty} {h : Hd} (hl : Lies w (Off bm) r T h) (hk : Mk bm w w') : Lies w' (Off bm) r T h := Lies.turn (B := Off bm) hk.fr hk.sz (fun b _ hb he => hb he) hl
theorem tab.mk {bm : Nat} {w w' : World} {e : TypeId} {a : Option Addr} {n c m : Nat} {C : Nat → List Value} (h : tab w (Off bm) e a n c m C) (hk : Mk bm w w') : tab w' (Off bm) e a n c m C := tab.turn (B := Off bm) h hk.fr hk.sz (fun b _ hb he => hb he)
theorem LiesAll.mk {bm : Nat} {w w' : World} {r : Nat} {l : List Ty} {a : Option Addr} {c : Nat} {K : Nat → Hd} (h : LiesAll w (Off bm) r l a c K) (hk : Mk bm w w') : LiesAll w' (Off bm) r l a c K := ⟨h.1.mk hk, fun i X hX => (h.2 i X hX).mk hk⟩
theorem Lies.off {bm : Nat} {w : World} {r : Nat} {T : Ty} {h : Hd} (hl : Lies w A0 r T h) (hn : w.heap.size ≤ bm) : Lies w (Off bm) r T h :=
  Lies.weak (w := w) (show Sel.le (Off bm) ⟨A0.fresh, fun b => A0.S b ∧ b < bm⟩ from ⟨fun h => h, fun b hb => by have h2 := hb.2; show b ≠ bm; omega⟩) (hl.below hn)
theorem tab.off {bm : Nat} {w : World} {e : TypeId} {a : Option Addr} {n c m : Nat} {C : Nat → List Value} (h : tab w A0 e a n c m C) (hn : w.heap.size ≤ bm) : tab w (Off bm) e a n c m C :=
  tab.weak (B' := Off bm) (tab.below hn h) ⟨fun h => h, fun b hb => by have h2 := hb.2; show b ≠ bm; omega⟩
theorem LiesAll.off {bm : Nat} {w : World} {r : Nat} {l : List Ty} {a : Option Addr} {c : Nat} {K : Nat → Hd} (h : LiesAll w A0 r l a c K) (hn : w.heap.size ≤ bm) : LiesAll w (Off bm) r l a c K := ⟨h.1.off hn, fun i X hX => (h.2 i X hX).off hn⟩
theorem Lies.any {B : Sel} {w : World} {r : Nat} {T : Ty} {h : Hd} (hl : Lies w B r T h) : Lies w A0 r T h := hl.weak (A0_le B)
theorem tab.atS {w : World} {B : Sel} {e : TypeId} {a : Option Addr} {n c m : Nat} {C : Nat → List Value} (h : tab w B e a n c m C) (hn : 0 < n) : ∃ b o, a = some ⟨b, o, none⟩ ∧ B.S b ∧ b < w.heap.size ∧ ∀ i, i < n → w.rangeAt b (o + i * m) (C i) := by
  obtain ⟨b, o, ha, hS, hl, _, hr⟩ := h.2 hn
  exact ⟨b, o, ha, hS, hl, hr⟩
/-- What stands for a name: nothing yet, or a sound type that lies elsewhere. -/
def StE (bm : Nat) (w : World) (x : Option Ty) (hd : Hd) : Prop := (x = none ∧ hd = hd0) ∨ ∃ A R, x = some A ∧ Lies w (Off bm) R A hd ∧ (look 9 A).2.2 = true
theorem StE.mk {bm : Nat} {w w' : World} {x : Option Ty} {hd : Hd} (h : StE bm w x hd) (hk : Mk bm w w') : StE bm w' x hd := by
  rcases h with h | ⟨A, R, h1, h2, h3⟩
  · exact .inl h
  · exact .inr ⟨A, R, h1, h2.mk hk, h3⟩
/-- The map bm holds for each name what it stands for. -/
def StM (bm : Nat) (L : List ByteArray) (σ : St) (w : World) : Prop :=
  ∃ fS n, MapIs w Try.prog 9 bm n fS ∧ n ≤ L.length + kn L σ ∧ ∀ s, (s ∉ L → fS s = none) ∧ (s ∈ L → ∃ hd : Hd, fS s = some hd.val ∧ StE bm w (σ s) hd)
theorem StM.keep {bm : Nat} {L : List ByteArray} {σ : St} {w w' : World} (h : StM bm L σ w) (hk : Kp w w') : StM bm L σ w' := by
  obtain ⟨fS, n, h1, h2, h3⟩ := h
  exact ⟨fS, n, h1.keep hk, h2, fun s => ⟨(h3 s).1, fun hs => by obtain ⟨hd, e1, e2⟩ := (h3 s).2 hs; exact ⟨hd, e1, e2.mk hk.mk⟩⟩⟩
theorem StM.put {bm : Nat} {L : List ByteArray} {σ : St} {w w' : World} {fS : ByteArray → Option Value} {n : Nat} {s : ByteArray} {B : Ty} {g : Hd} {R : Nat} (h2 : n ≤ L.length + kn L σ) (h3 : ∀ s, (s ∉ L → fS s = none) ∧ (s ∈ L → ∃ hd : Hd, fS s = some hd.val ∧ StE bm w (σ s) hd))
    (hs : s ∈ L) (hn : σ s = none) (hm : MapIs w' Try.prog 9 bm (n + 1) (fput fS s g.val)) (hk : Mk bm w w') (hl : Lies w (Off bm) R B g) (ok : (look 9 B).2.2 = true) : StM bm L (sput σ s B) w' := by
  refine ⟨_, _, hm, ?_, fun y => ⟨fun hy => ?_, fun hy => ?_⟩⟩
  · have := kn_put (T := B) hn hs
    omega
  · rw [fput_other fS _ (fun e => hy (by rw [e]; exact hs))]
    exact (h3 y).1 hy
  · by_cases he : y = s
    · subst he
      refine ⟨g, fput_same _ _ _, .inr ⟨B, R, ?_, hl.mk hk, ok⟩⟩
      unfold sput
      rw [if_pos rfl]
    · obtain ⟨hd, e1, e2⟩ := (h3 y).2 hy
      refine ⟨hd, by rw [fput_other fS _ he]; exact e1, ?_⟩
      have e : sput σ s B y = σ y := by unfold sput; rw [if_neg he]
      rw [e]
      exact e2.mk hk
/-- What a match answers. -/
def MP (bm : Nat) (L : List ByteArray) (o : Option St) (w : World) (e : Ending) (w' : World) : Prop :=
  Mk bm w w' ∧ ((o = none ∧ e = .returned (.bool false)) ∨ ∃ σ', o = some σ' ∧ e = .returned (.bool true) ∧ StM bm L σ' w')
theorem MP.no {bm : Nat} {L : List ByteArray} {o : Option St} {w w' : World} {e : Ending} (h : MP bm L o w e w') (ho : o = none) : e = .returned (.bool false) ∧ Mk bm w w' := by
  obtain ⟨h1, ⟨_, h2⟩ | ⟨σ', h2, _⟩⟩ := h
  · exact ⟨h2, h1⟩
  · rw [ho] at h2; cases h2
theorem MP.yes {bm : Nat} {L : List ByteArray} {o : Option St} {w w' : World} {e : Ending} (h : MP bm L o w e w') {σ' : St} (ho : o = some σ') : e = .returned (.bool true) ∧ Mk bm w w' ∧ StM bm L σ' w' := by
  obtain ⟨h1, ⟨h2, _⟩ | ⟨σ2, h2, h3, h4⟩⟩ := h
  · rw [ho] at h2; cases h2
  · rw [ho] at h2; cases h2; exact ⟨h3, h1, h4⟩
/-- The closures of the matcher, in their boxes. -/
structure EnvM (bm bs bM bF bL : Nat) (w : World) : Prop where
  cs : w.cell? ⟨bs, 0, none⟩ = some (.map (some bm))
  cM : w.cell? ⟨bM, 0, none⟩ = some (.func (.func 51) #[] #[.pointer (some ⟨bs, 0, none⟩), .pointer (some ⟨bF, 0, none⟩), .pointer (some ⟨bL, 0, none⟩)])
  cF : w.cell? ⟨bF, 0, none⟩ = some (.func (.func 49) #[] #[.pointer (some ⟨bM, 0, none⟩)])
  cL : w.cell? ⟨bL, 0, none⟩ = some (.func (.func 50) #[] #[.pointer (some ⟨bM, 0, none⟩)])
  ns : bs ≠ bm
  nM : bM ≠ bm
  nF : bF ≠ bm
  nL : bL ≠ bm
theorem EnvM.turn {bm bs bM bF bL : Nat} {w w' : World} (h : EnvM bm bs bM bF bL w) (hk : Mk bm w w') : EnvM bm bs bM bF bL w' :=
  { h with cs := hk.cellv h.cs h.ns, cM := hk.cellv h.cM h.nM, cF := hk.cellv h.cF h.nF, cL := hk.cellv h.cL h.nL }
end Go.Proofs.Ytfjflfokmihcpaa
