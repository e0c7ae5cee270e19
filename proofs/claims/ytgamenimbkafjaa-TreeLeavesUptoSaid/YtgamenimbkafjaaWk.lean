/- A loop over an iterator that makes what it gives on the way: the body may do with that what it will. No condition. -/
import Derived.Test.YtgamenimbkafjaaWa
namespace Go.Proofs.Ytgamenimbkafjaa
open Go.RowKit
set_option linter.unusedVariables false
set_option linter.unusedSimpArgs false

variable {F : Fence} {n : Nat} {P : Program}
/-- As SeqG; but a round is told the world ahead of what was made for it, and has to keep no more than that. -/
def SeqH {α : Type} (F : Fence) (n : Nat) (P : Program) (g : Nat) (lb : Array Value) (encs : α → Array Value) (Kp : World → World → Prop) (G : α → World → World → Prop) (S Sp : List α → Prop) (N : Nat) (w : World) : Prop :=
  ∀ (l : Nat) (J Jx : List α → World → Prop) (W : World), Below w.heap.size w W → OwnFrom W.heap.size J → OwnFrom W.heap.size Jx →
    (∀ pre x W0 W1, J pre W0 → Below W0.heap.size W0 W1 → G x W0 W1 → pre.length < N → YieldAt F (n - 1) P l (encs x) W1 fun e W' =>
      (e = .returned (.bool true) ∧ J (pre ++ [x]) W' ∧ Kp W0 W' ∧ KeepsFrom W.heap.size W0 W') ∨ (e = .returned (.bool false) ∧ Jx (pre ++ [x]) W' ∧ KeepsFrom W.heap.size W0 W')) →
    J [] W →
    CallsIn F n P g (#[.func (.yield l) #[] #[]] ++ lb) W fun e W' => (∃ v, e = .returned v) ∧ ((∃ xs, S xs ∧ J xs W') ∨ (∃ pre, Sp pre ∧ Jx pre W'))
/-- What a round's body is asked. -/
def ownPostH {α : Type} (B : Nat) (Kp : World → World → Prop) (I : List α → World → Prop) (Ix : Code → List α → World → Prop) (xs : List α) (W0 W : World) : Exit → Act → World → Prop
  | .normal, _, W' => KeepsFrom B W W' ∧ Kp W0 W' ∧ I xs W'
  | .ret, _, W' => KeepsFrom B W W' ∧ Ix .ret xs W'
  | .exit id, _, W' => KeepsFrom B W W' ∧ Ix (.exit id) xs W'
  | .goto t, _, W' => KeepsFrom B W W' ∧ Ix (.goto t) xs W'
  | .panic _, _, _ => False
  | .outgrown, _, _ => False
/-- A LOOP OVER SUCH AN ITERATOR. -/
theorem range_H {α : Type} {g : Operand} {ps : Array Tmp} {assign body : Code} {Q : Exit → Act → World → Prop} {a : Act} {w : World} (hro : F.round = none) (h1 : 1 ≤ n) {gf : Nat} {lb : Array Value}
    (hg : a.eval g = .func (.func gf) #[] lb) (hF : F.fn gf) (eg : ∀ args w, (callFunc gf args).run P w = .ok (.enter gf args) w)
    {encs : α → Array Value} {Kp : World → World → Prop} {G : α → World → World → Prop} {S Sp : List α → Prop} {N : Nat} {w0 : World} (hseq : SeqH F (n - 1) P gf lb encs Kp G S Sp N w0)
    (hKt : ∀ {A B C : World}, Kp A B → Kp B C → Kp A C) (hKb : ∀ (W : World) (l : Nat) (o o' : Obj), w.heap.size ≤ l → W.heap[l]? = some o → o.isCells = false → o.isWalk = false → Kp W (W.putObj l o'))
    (hb0 : Below w0.heap.size w0 w) (hps : ∀ x, (encs x).size = ps.size) (I : List α → World → Prop) (Ix : Code → List α → World → Prop) (hI : OwnFrom w.heap.size I) (hIx : ∀ c, OwnFrom w.heap.size (Ix c)) (h0 : I [] w)
    (hround : ∀ (l : Nat) (pre : List α) (x : α) (W0 W : World), w.heap.size ≤ l → I pre W0 → Below W0.heap.size W0 W → G x W0 W → pre.length < N →
      assign.wpIn (F.inRound l) (n - 1 - 1) P (Exit.then (fun a' Wa => KeepsFrom w.heap.size W0 Wa ∧ ∀ o o', Wa.heap[l]? = some o → o.isCells = false →
        body.wpIn (F.inRound l) (n - 1 - 1) P (ownPostH w.heap.size Kp I Ix (pre ++ [x]) W0 (Wa.putObj l o')) a' (Wa.putObj l o')) (fun _ _ _ => False))
        { tmps := (ps.zip (encs x)).foldl (fun t (p, v) => t.setIfInBounds p v) a.tmps, defers := [] } W)
    (hdone : ∀ (D : Nat) (xs : List α) (W : World), w.heap.size ≤ D → S xs → I xs W → W.heap[D]? = some (.deferred (some [])) → Q .normal { a with defers := { target := .collected D, args := #[] } :: a.defers } W)
    (hstop : ∀ (D : Nat) (c : Code) (pre : List α) (W : World), w.heap.size ≤ D → Sp pre → Ix c pre W → W.heap[D]? = some (.deferred (some [])) → c.wpIn F n P Q { a with defers := { target := .collected D, args := #[] } :: a.defers } W) :
    (Code.rangeFunc g ps assign body).wpIn F n P Q a w := by
  refine range_call hro h1 hg hF eg fun G' hfn htm hpp has hbo W1 hW1 => ?_
  have hsz : W1.heap.size = w.heap.size + 2 := by rw [hW1]; simp
  have hL1 : W1.heap[w.heap.size + 1]? = some (G'.at .ready none) := by
    have := World.alloc_heap_new (w.alloc (.deferred (some []))) (G'.at .ready none)
    rw [World.size_alloc] at this
    rw [hW1]; exact this
  have hD1 : W1.heap[w.heap.size]? = some (.deferred (some [])) := by
    rw [hW1]; exact (Below.heap_alloc _ _ _ (by simp)).trans (World.alloc_heap_new w _)
  have low : ∀ {A : World} {row : Option Nat}, (∀ r, row = some r → W1.heap.size ≤ r ∧ ∃ o : Obj, A.heap[r]? = some o ∧ o.isCells = false) → (∀ r, row = some r → w.heap.size ≤ r ∧ ∃ o : Obj, A.heap[r]? = some o ∧ o.isCells = false) :=
    fun hr r e => ⟨by have := (hr r e).1; omega, (hr r e).2⟩
  refine (hseq (w.heap.size + 1)
    (fun pre W => I pre W ∧ W.heap[w.heap.size + 1]? = some (G'.at .ready none) ∧ W.heap[w.heap.size]? = some (.deferred (some [])))
    (fun pre W => ∃ c, Ix c pre W ∧ W.heap[w.heap.size + 1]? = some (G'.at .done (some c)) ∧ W.heap[w.heap.size]? = some (.deferred (some []))) W1 ?_ ?_ ?_ ?_ ?_).mono ?_
  · rw [hW1]
    exact hb0.trans ((((Below.refl _ w).alloc (Nat.le_refl _) _).alloc (by simp) _).mono hb0.size)
  · exact fun s A B row hs hg' hr => ⟨hI s A B row hs.1 hg' (low hr), keep_blk hg' hr (by omega) hs.2.1, keep_blk hg' hr (by omega) hs.2.2⟩
  · rintro s A B row ⟨c, hc, hl, hk⟩ hg' hr
    exact ⟨c, hIx c s A B row hc hg' (low hr), keep_blk hg' hr (by omega) hl, keep_blk hg' hr (by omega) hk⟩
  · rintro pre x W0 W ⟨hi, hl, hk⟩ hbb hG hlen
    refine G'.round hfn ((hbb.block _ (Array.getElem?_eq_some_iff.1 hl).1).trans hl) (by rw [hpp]; exact hps x) ?_
    rw [has, hpp, htm, hbo]
    refine wpIn_mono (hround (w.heap.size + 1) pre x W0 W (by omega) hi hbb hG hlen) ?_
    rintro e a' Wa he
    cases e with
    | normal =>
      obtain ⟨hkf, hb⟩ := he
      have hla := hkf.same _ _ (by omega) hl rfl
      have hda := hkf.same _ _ (Nat.le_refl _) hk rfl
      have hlt := (Array.getElem?_eq_some_iff.1 hla).1
      refine ⟨hla, wpIn_mono (hb _ (G'.at .busy none) hla rfl) ?_⟩
      have l1 : (Wa.putObj (w.heap.size + 1) (G'.at .busy none)).heap[w.heap.size + 1]? = some (G'.at .busy none) := World.putObj_heap_same hlt
      have d1 : (Wa.putObj (w.heap.size + 1) (G'.at .busy none)).heap[w.heap.size]? = some (.deferred (some [])) := (World.putObj_heap_other (by omega)).trans hda
      have go : ∀ (o : Obj) (Wb : World), KeepsFrom w.heap.size (Wa.putObj (w.heap.size + 1) (G'.at .busy none)) Wb → Wb.heap[w.heap.size + 1]? = some (G'.at .busy none) ∧ (Wb.putObj (w.heap.size + 1) o).heap[w.heap.size + 1]? = some o ∧ (Wb.putObj (w.heap.size + 1) o).heap[w.heap.size]? = some (.deferred (some [])) := fun o Wb hb => by
        have l2 := hb.same _ _ (by omega) l1 rfl
        exact ⟨l2, World.putObj_heap_same (Array.getElem?_eq_some_iff.1 l2).1, (World.putObj_heap_other (by omega)).trans (hb.same _ _ (Nat.le_refl _) d1 rfl)⟩
      have kk : ∀ (o : Obj) (Wb : World), KeepsFrom w.heap.size (Wa.putObj (w.heap.size + 1) (G'.at .busy none)) Wb → KeepsFrom W1.heap.size W0 (Wb.putObj (w.heap.size + 1) o) := fun o Wb hb =>
        (keeps_up hkf (by omega)).trans ((keeps_put Wa _ (by omega)).trans ((keeps_up hb (by omega)).trans (keeps_put Wb o (by omega))))
      rintro e a3 Wb hp
      cases e with
      | normal =>
        obtain ⟨b1, b2, b3⟩ := go (G'.at .ready none) Wb hp.1
        exact ⟨b1, .inl ⟨rfl, ⟨hI.putObj _ hp.2.2 (by omega) b1 rfl, b2, b3⟩, hKt hp.2.1 (hKb _ _ _ _ (by omega) b1 rfl rfl), kk _ _ hp.1⟩⟩
      | ret =>
        obtain ⟨b1, b2, b3⟩ := go (G'.at .done (some .ret)) Wb hp.1
        exact ⟨b1, .inr ⟨rfl, ⟨_, (hIx _).putObj _ hp.2 (by omega) b1 rfl, b2, b3⟩, kk _ _ hp.1⟩⟩
      | exit i =>
        obtain ⟨b1, b2, b3⟩ := go (G'.at .done (some (.exit i))) Wb hp.1
        exact ⟨b1, .inr ⟨rfl, ⟨_, (hIx _).putObj _ hp.2 (by omega) b1 rfl, b2, b3⟩, kk _ _ hp.1⟩⟩
      | goto t =>
        obtain ⟨b1, b2, b3⟩ := go (G'.at .done (some (.goto t))) Wb hp.1
        exact ⟨b1, .inr ⟨rfl, ⟨_, (hIx _).putObj _ hp.2 (by omega) b1 rfl, b2, b3⟩, kk _ _ hp.1⟩⟩
      | panic ch => exact hp.elim
      | outgrown => exact hp.elim
    | _ => exact he
  · exact ⟨by rw [hW1]; exact hI.alloc _ (hI.alloc _ h0), hL1, hD1⟩
  · rintro e W2 ⟨hv, (⟨xs, hS, hi, hl, hk⟩ | ⟨pre, hSp, c, hi, hl, hk⟩)⟩
    · exact ⟨hv, .inl ⟨hl, hdone _ xs _ (Nat.le_refl _) hS (hI.putObj _ hi (by omega) hl rfl) ((World.putObj_heap_other (by omega)).trans hk)⟩⟩
    · exact ⟨hv, .inr ⟨c, hl, hstop _ c pre _ (Nat.le_refl _) hSp ((hIx c).putObj _ hi (by omega) hl rfl) ((World.putObj_heap_other (by omega)).trans hk)⟩⟩
end Go.Proofs.Ytgamenimbkafjaa
