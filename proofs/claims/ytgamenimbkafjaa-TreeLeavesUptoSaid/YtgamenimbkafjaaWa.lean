/- A loop over an iterator in two parts: the statement out of the call of the iterator's function, and a round out of its code; and a contract of iterators whose elements lie in the world of the call. No condition. -/
import Derived.RangeFuncNested
namespace Go.Proofs.Ytgamenimbkafjaa
open Go.RowKit
set_option linter.unusedVariables false
set_option linter.unusedSimpArgs false

/-- What stays the same of a loop's record. -/
structure Ring where
  fn : FuncId
  tmps : Array Value
  ps : Array Tmp
  assign : Code
  body : Code
  dfr : Nat
/-- The record, in a state, with a jump that is pending. -/
def Ring.at (g : Ring) (s : LoopState) (j : Option Code) : Obj := .loop { state := s, pending := j, fn := g.fn, tmps := g.tmps, params := g.ps, assign := g.assign, body := g.body, defers := g.dfr }
theorem Ring.noCells (g : Ring) (s : LoopState) (j : Option Code) : (g.at s j).isCells = false := rfl
theorem Ring.noWalk (g : Ring) (s : LoopState) (j : Option Code) : (g.at s j).isWalk = false := rfl
/-- How a round's body is left. -/
def Ring.left (g : Ring) (l : Nat) (R : Ending → World → Prop) : Exit → Act → World → Prop
  | .normal, _, W => W.heap[l]? = some (g.at .busy none) ∧ R (.returned (.bool true)) (W.putObj l (g.at .ready none))
  | .ret, _, W => W.heap[l]? = some (g.at .busy none) ∧ R (.returned (.bool false)) (W.putObj l (g.at .done (some .ret)))
  | .exit i, _, W => W.heap[l]? = some (g.at .busy none) ∧ R (.returned (.bool false)) (W.putObj l (g.at .done (some (.exit i))))
  | .goto t, _, W => W.heap[l]? = some (g.at .busy none) ∧ R (.returned (.bool false)) (W.putObj l (g.at .done (some (.goto t))))
  | .panic _, _, _ => False
  | .outgrown, _, _ => False
variable {F : Fence} {n : Nat} {P : Program}
theorem Ring.left_post (g : Ring) (l : Nat) (R : Ending → World → Prop) : ∀ (e : Exit) (a : Act) (W : World), g.left l R e a W → roundPost P l R e a W
  | .normal, _, W, h => ⟨_, _, run_endRound none h.1, h.2⟩
  | .ret, _, W, h => ⟨_, _, run_endRound (some .ret) h.1, h.2⟩
  | .exit i, _, W, h => ⟨_, _, run_endRound (some (.exit i)) h.1, h.2⟩
  | .goto t, _, W, h => ⟨_, _, run_endRound (some (.goto t)) h.1, h.2⟩
  | .panic _, _, _, h => h.elim
  | .outgrown, _, _, h => h.elim
/-- ONE ROUND, out of the walk of its code. -/
theorem Ring.round (g : Ring) {l : Nat} {W : World} {args : Array Value} {R : Ending → World → Prop} (hF : F.fn g.fn) (hl : W.heap[l]? = some (g.at .ready none)) (hs : args.size = g.ps.size)
    (h : g.assign.wpIn (F.inRound l) n P (Exit.then (fun a' Wa => Wa.heap[l]? = some (g.at .ready none) ∧ g.body.wpIn (F.inRound l) n P (g.left l R) a' (Wa.putObj l (g.at .busy none))) (fun _ _ _ => False))
      { tmps := (g.ps.zip args).foldl (fun t (p, v) => t.setIfInBounds p v) g.tmps, defers := [] } W) : YieldAt F n P l args W R := by
  refine ⟨g.fn, _, g.assign, g.body, run_yield hl hs, roundIn_of_wpIn hF (wpIn_mono h ?_)⟩
  rintro e a' Wa he
  cases e with
  | normal => exact ⟨_, run_beginRound he.1 rfl, wpIn_mono he.2 (g.left_post l R)⟩
  | _ => exact he
/-- THE STATEMENT, out of the call of the iterator's function: no round around it. -/
theorem range_call {g : Operand} {ps : Array Tmp} {assign body : Code} {Q : Exit → Act → World → Prop} {a : Act} {w : World} (hro : F.round = none) (h1 : 1 ≤ n) {gf : Nat} {lb : Array Value}
    (hg : a.eval g = .func (.func gf) #[] lb) (hF : F.fn gf) (eg : ∀ args w, (callFunc gf args).run P w = .ok (.enter gf args) w)
    (h : ∀ G : Ring, F.fn G.fn → G.tmps = a.tmps → G.ps = ps → G.assign = assign → G.body = body → ∀ W1, W1 = (w.alloc (.deferred (some []))).alloc (G.at .ready none) →
      CallsIn F (n - 1) P gf (#[.func (.yield (w.heap.size + 1)) #[] #[]] ++ lb) W1 fun e W2 => (∃ v, e = .returned v) ∧
        ((W2.heap[w.heap.size + 1]? = some (G.at .ready none) ∧ Q .normal { a with defers := { target := .collected w.heap.size, args := #[] } :: a.defers } (W2.putObj (w.heap.size + 1) (G.at .exhausted none))) ∨
          ∃ c, W2.heap[w.heap.size + 1]? = some (G.at .done (some c)) ∧ c.wpIn F n P Q { a with defers := { target := .collected w.heap.size, args := #[] } :: a.defers } (W2.putObj (w.heap.size + 1) (G.at .exhausted (some c))))) :
    (Code.rangeFunc g ps assign body).wpIn F n P Q a w := by
  refine wpIn_rangeFunc fun fn hfn => ?_
  obtain ⟨G, hG⟩ : ∃ G : Ring, G = ⟨fn, a.tmps, ps, assign, body, w.heap.size⟩ := ⟨_, rfl⟩
  obtain ⟨W1, hW1⟩ : ∃ W1, W1 = (w.alloc (.deferred (some []))).alloc (G.at .ready none) := ⟨_, rfl⟩
  have hc := h G (by rw [hG]; exact hfn) (by rw [hG]) (by rw [hG]) (by rw [hG]) (by rw [hG]) W1 hW1
  refine ⟨w.heap.size + 1, [{ target := .collected w.heap.size, args := #[] }], W1, { target := .fn (.func gf) lb, args := #[.func (.yield (w.heap.size + 1)) #[] #[]] }, W1, gf, _, W1, ?_, ?_, ?_, ?_, fun _ => h1, hc.mono ?_⟩
  · rw [hro, hW1, hG]
    exact run_enterLoop_outer _ _ _ _ _
  · simp only [resolve, hg]
    simp [go_sem]
  · intro f' hf'
    simp [Target.leads] at hf'
    subst hf'
    exact hF
  · simp [invoke, go_sem, eg]
  · rintro e W2 ⟨⟨v, rfl⟩, (⟨hl, hq⟩ | ⟨c, hl, hq⟩)⟩
    · exact ⟨none, _, run_endLoop hl (by simp), hq⟩
    · exact ⟨some c, _, run_endLoop hl (by simp), hq⟩
/-- THE CONTRACT OF AN ITERATOR WHOSE ELEMENTS LIE IN THE WORLD OF THE CALL: a round is handed G of its element. What is the caller's abides the turn of any block that is no cells and is new since the iterator's function was called (so an iterator may loop over another). -/
def SeqG {α : Type} (F : Fence) (n : Nat) (P : Program) (g : Nat) (lb : Array Value) (encs : α → Array Value) (Kp : World → World → Prop) (G : α → World → Prop) (S Sp : List α → Prop) (N : Nat) (w : World) : Prop :=
  ∀ (l : Nat) (J Jx : List α → World → Prop) (W : World), Below w.heap.size w W → OwnFrom W.heap.size J → OwnFrom W.heap.size Jx →
    (∀ pre x W1, J pre W1 → G x W1 → pre.length < N → YieldAt F (n - 1) P l (encs x) W1 fun e W' =>
      (e = .returned (.bool true) ∧ J (pre ++ [x]) W' ∧ Kp W1 W' ∧ KeepsFrom W.heap.size W1 W') ∨ (e = .returned (.bool false) ∧ Jx (pre ++ [x]) W' ∧ KeepsFrom W.heap.size W1 W')) →
    J [] W →
    CallsIn F n P g (#[.func (.yield l) #[] #[]] ++ lb) W fun e W' => (∃ v, e = .returned v) ∧ ((∃ xs, S xs ∧ J xs W') ∨ (∃ pre, Sp pre ∧ Jx pre W'))
/-- A block that is no cells and lies ahead of the turned one stays. -/
theorem keep_blk {W W' : World} {row : Option Nat} {B k : Nat} {o : Obj} (hg : W.grownBy W' row) (hr : ∀ r, row = some r → B ≤ r ∧ ∃ o : Obj, W.heap[r]? = some o ∧ o.isCells = false) (hk : k < B) (ho : W.heap[k]? = some o) : W'.heap[k]? = some o :=
  (hg.block k (Array.getElem?_eq_some_iff.1 ho).1 (fun e => by have := (hr k e.symm).1; omega)).trans ho
theorem keeps_up {B B' : Nat} {W W' : World} (h : KeepsFrom B W W') (hb : B ≤ B') : KeepsFrom B' W W' := ⟨h.size, fun k o hk ho hc => h.same k o (Nat.le_trans hb hk) ho hc⟩
theorem keeps_put {B l : Nat} (W : World) (o : Obj) (hl : l < B) : KeepsFrom B W (W.putObj l o) := KeepsFrom.of_grownBy (grownBy_putObj' W l o) (fun j e => by cases e; exact hl)
/-- What a round's body is asked, in the caller's terms. -/
def leftG {α : Type} (B : Nat) (Kp : World → World → Prop) (I : List α → World → Prop) (Ix : Code → List α → World → Prop) (xs : List α) (W : World) : Exit → Act → World → Prop := ownPostG B Kp I Ix xs W
/-- A LOOP OVER SUCH AN ITERATOR. -/
theorem range_G {α : Type} {g : Operand} {ps : Array Tmp} {assign body : Code} {Q : Exit → Act → World → Prop} {a : Act} {w : World} (hro : F.round = none) (h1 : 1 ≤ n) {gf : Nat} {lb : Array Value}
    (hg : a.eval g = .func (.func gf) #[] lb) (hF : F.fn gf) (eg : ∀ args w, (callFunc gf args).run P w = .ok (.enter gf args) w)
    {encs : α → Array Value} {Kp : World → World → Prop} {G : α → World → Prop} {S Sp : List α → Prop} {N : Nat} {w0 : World} (hseq : SeqG F (n - 1) P gf lb encs Kp G S Sp N w0)
    (hKt : ∀ {A B C : World}, Kp A B → Kp B C → Kp A C) (hKb : ∀ (W : World) (l : Nat) (o o' : Obj), w.heap.size ≤ l → W.heap[l]? = some o → o.isCells = false → o.isWalk = false → Kp W (W.putObj l o'))
    (hb0 : Below w0.heap.size w0 w) (hps : ∀ x, (encs x).size = ps.size) (I : List α → World → Prop) (Ix : Code → List α → World → Prop) (hI : OwnFrom w.heap.size I) (hIx : ∀ c, OwnFrom w.heap.size (Ix c)) (h0 : I [] w)
    (hround : ∀ (l : Nat) (pre : List α) (x : α) (W : World), w.heap.size ≤ l → I pre W → G x W → pre.length < N →
      assign.wpIn (F.inRound l) (n - 1 - 1) P (Exit.then (fun a' Wa => KeepsFrom w.heap.size W Wa ∧ Kp W Wa ∧ ∀ o o', Wa.heap[l]? = some o → o.isCells = false →
        body.wpIn (F.inRound l) (n - 1 - 1) P (leftG w.heap.size Kp I Ix (pre ++ [x]) (Wa.putObj l o')) a' (Wa.putObj l o')) (fun _ _ _ => False))
        { tmps := (ps.zip (encs x)).foldl (fun t (p, v) => t.setIfInBounds p v) a.tmps, defers := [] } W)
    (hdone : ∀ (D : Nat) (xs : List α) (W : World), w.heap.size ≤ D → S xs → I xs W → W.heap[D]? = some (.deferred (some [])) → Q .normal { a with defers := { target := .collected D, args := #[] } :: a.defers } W)
    (hstop : ∀ (D : Nat) (c : Code) (pre : List α) (W : World), w.heap.size ≤ D → Sp pre → Ix c pre W → W.heap[D]? = some (.deferred (some [])) → c.wpIn F n P Q { a with defers := { target := .collected D, args := #[] } :: a.defers } W) :
    (Code.rangeFunc g ps assign body).wpIn F n P Q a w := by
  refine range_call hro h1 hg hF eg fun G' hfn htm hpp has hbo W1 hW1 => ?_
  have hsz : W1.heap.size = w.heap.size + 2 := by rw [hW1]; simp
  have hL1 : W1.heap[w.heap.size + 1]? = some (G'.at .ready none) := by
    have := World.alloc_heap_new (w.alloc (.deferred (some []))) (G'.at .ready none)
    rw [World.size_alloc] at this
    rw [hW1]; exact this
  have hD1 : W1.heap[w.heap.size]? = some (.deferred (some [])) := by
    rw [hW1]; exact (Below.heap_alloc _ _ _ (by simp)).trans (World.alloc_heap_new w _)
  have low : ∀ {A : World} {row : Option Nat}, (∀ r, row = some r → W1.heap.size ≤ r ∧ ∃ o : Obj, A.heap[r]? = some o ∧ o.isCells = false) → (∀ r, row = some r → w.heap.size ≤ r ∧ ∃ o : Obj, A.heap[r]? = some o ∧ o.isCells = false) :=
    fun hr r e => ⟨by have := (hr r e).1; omega, (hr r e).2⟩
  refine (hseq (w.heap.size + 1)
    (fun pre W => I pre W ∧ W.heap[w.heap.size + 1]? = some (G'.at .ready none) ∧ W.heap[w.heap.size]? = some (.deferred (some [])))
    (fun pre W => ∃ c, Ix c pre W ∧ W.heap[w.heap.size + 1]? = some (G'.at .done (some c)) ∧ W.heap[w.heap.size]? = some (.deferred (some []))) W1 ?_ ?_ ?_ ?_ ?_).mono ?_
  · rw [hW1]
    exact hb0.trans ((((Below.refl _ w).alloc (Nat.le_refl _) _).alloc (by simp) _).mono hb0.size)
  · exact fun s A B row hs hg' hr => ⟨hI s A B row hs.1 hg' (low hr), keep_blk hg' hr (by omega) hs.2.1, keep_blk hg' hr (by omega) hs.2.2⟩
  · rintro s A B row ⟨c, hc, hl, hk⟩ hg' hr
    exact ⟨c, hIx c s A B row hc hg' (low hr), keep_blk hg' hr (by omega) hl, keep_blk hg' hr (by omega) hk⟩
  · rintro pre x W ⟨hi, hl, hk⟩ hG hlen
    refine G'.round hfn hl (by rw [hpp]; exact hps x) ?_
    rw [has, hpp, htm, hbo]
    refine wpIn_mono (hround (w.heap.size + 1) pre x W (by omega) hi hG hlen) ?_
    rintro e a' Wa he
    cases e with
    | normal =>
      obtain ⟨hkf, hkp, hb⟩ := he
      have hla := hkf.same _ _ (by omega) hl rfl
      have hda := hkf.same _ _ (Nat.le_refl _) hk rfl
      have hlt := (Array.getElem?_eq_some_iff.1 hla).1
      refine ⟨hla, wpIn_mono (hb _ (G'.at .busy none) hla rfl) ?_⟩
      have k1 : Kp W (Wa.putObj (w.heap.size + 1) (G'.at .busy none)) := hKt hkp (hKb _ _ _ _ (by omega) hla rfl rfl)
      have l1 : (Wa.putObj (w.heap.size + 1) (G'.at .busy none)).heap[w.heap.size + 1]? = some (G'.at .busy none) := World.putObj_heap_same hlt
      have d1 : (Wa.putObj (w.heap.size + 1) (G'.at .busy none)).heap[w.heap.size]? = some (.deferred (some [])) := (World.putObj_heap_other (by omega)).trans hda
      have go : ∀ (o : Obj) (Wb : World), KeepsFrom w.heap.size (Wa.putObj (w.heap.size + 1) (G'.at .busy none)) Wb → Wb.heap[w.heap.size + 1]? = some (G'.at .busy none) ∧ (Wb.putObj (w.heap.size + 1) o).heap[w.heap.size + 1]? = some o ∧ (Wb.putObj (w.heap.size + 1) o).heap[w.heap.size]? = some (.deferred (some [])) := fun o Wb hb => by
        have l2 := hb.same _ _ (by omega) l1 rfl
        exact ⟨l2, World.putObj_heap_same (Array.getElem?_eq_some_iff.1 l2).1, (World.putObj_heap_other (by omega)).trans (hb.same _ _ (Nat.le_refl _) d1 rfl)⟩
      have kk : ∀ (o : Obj) (Wb : World), KeepsFrom w.heap.size (Wa.putObj (w.heap.size + 1) (G'.at .busy none)) Wb → KeepsFrom W1.heap.size W (Wb.putObj (w.heap.size + 1) o) := fun o Wb hb =>
        (keeps_up hkf (by omega)).trans ((keeps_put Wa _ (by omega)).trans ((keeps_up hb (by omega)).trans (keeps_put Wb o (by omega))))
      rintro e a3 Wb hp
      cases e with
      | normal =>
        obtain ⟨b1, b2, b3⟩ := go (G'.at .ready none) Wb hp.1
        exact ⟨b1, .inl ⟨rfl, ⟨hI.putObj _ hp.2.2 (by omega) b1 rfl, b2, b3⟩, hKt k1 (hKt hp.2.1 (hKb _ _ _ _ (by omega) b1 rfl rfl)), kk _ _ hp.1⟩⟩
      | ret =>
        obtain ⟨b1, b2, b3⟩ := go (G'.at .done (some .ret)) Wb hp.1
        exact ⟨b1, .inr ⟨rfl, ⟨_, (hIx _).putObj _ hp.2 (by omega) b1 rfl, b2, b3⟩, kk _ _ hp.1⟩⟩
      | exit i =>
        obtain ⟨b1, b2, b3⟩ := go (G'.at .done (some (.exit i))) Wb hp.1
        exact ⟨b1, .inr ⟨rfl, ⟨_, (hIx _).putObj _ hp.2 (by omega) b1 rfl, b2, b3⟩, kk _ _ hp.1⟩⟩
      | goto t =>
        obtain ⟨b1, b2, b3⟩ := go (G'.at .done (some (.goto t))) Wb hp.1
        exact ⟨b1, .inr ⟨rfl, ⟨_, (hIx _).putObj _ hp.2 (by omega) b1 rfl, b2, b3⟩, kk _ _ hp.1⟩⟩
      | panic ch => exact hp.elim
      | outgrown => exact hp.elim
    | _ => exact he
  · exact ⟨by rw [hW1]; exact hI.alloc _ (hI.alloc _ h0), hL1, hD1⟩
  · rintro e W2 ⟨hv, (⟨xs, hS, hi, hl, hk⟩ | ⟨pre, hSp, c, hi, hl, hk⟩)⟩
    · exact ⟨hv, .inl ⟨hl, hdone _ xs _ (Nat.le_refl _) hS (hI.putObj _ hi (by omega) hl rfl) ((World.putObj_heap_other (by omega)).trans hk)⟩⟩
    · exact ⟨hv, .inr ⟨c, hl, hstop _ c pre _ (Nat.le_refl _) hSp ((hIx c).putObj _ hi (by omega) hl rfl) ((World.putObj_heap_other (by omega)).trans hk)⟩⟩
end Go.Proofs.Ytgamenimbkafjaa
