/- A region that draws its order, gone through by an invariant over what has come up. No condition; no program is walked here. -/
import Derived.Test.YtkkcoaecidjecaaT0
import Derived.Deep.RegionHeld3
import Derived.Great.Frames
import Derived.Great.BuildSlice
import Derived.Great.Walk
import Derived.Laws.Tables
import Derived.Laws.Rows
namespace Go.Proofs.Ytkkcoaecidjecaa
open Go.RowKit
set_option linter.unusedVariables false
set_option linter.unusedSimpArgs false
/-- What has come up, and i besides. -/
def up1 (l : Nat → Bool) (i j : Nat) : Bool := if j = i then true else l j
def ups (listed : Array Bool) (j : Nat) : Bool := listed.getD j false
/-- The slots, and x in d. -/
def upd (v : Nat → Value) (d : Nat) (x : Value) (j : Nat) : Value := if j = d then x else v j
theorem ups_set {listed : Array Bool} {i : Nat} (hi : i < listed.size) : ups (listed.setIfInBounds i true) = up1 (ups listed) i := by
  funext j
  unfold ups up1
  by_cases e : j = i
  · subst e
    simp [hi]
  · rw [if_neg e]
    simp [Array.getElem?_setIfInBounds, Ne.symm e]
theorem cnt_set : ∀ {l : List Bool} {i : Nat}, l[i]? = some false → ((l.set i true).filter (!·)).length + 1 = (l.filter (!·)).length
  | [], _, h => by simp at h
  | b :: l, 0, h => by
    simp at h
    subst h
    simp
  | b :: l, i + 1, h => by
    have := cnt_set (l := l) (i := i) (by simpa using h)
    cases b <;> simp <;> omega
theorem cnt_zero {l : List Bool} (h : (l.filter (!·)).length = 0) : ∀ i, i < l.length → l[i]? = some true := by
  intro i hi
  have := List.filter_eq_nil_iff.1 (List.eq_nil_of_length_eq_zero h) l[i] (List.getElem_mem hi)
  rw [List.getElem?_eq_getElem hi]
  simpa using this
section
variable {P : Program} {ops : Array Oper} {Q : Exit → Act → World → Prop}
theorem wpAny_inv (J : (Nat → Bool) → Act → World → Prop) (hb : ∀ i o, ops[i]? = some o → ∀ e ∈ o.after, Region.binds .any e = true → e.on < i)
    (hs : ∀ i o l a w, ops[i]? = some o → l i = false → (∀ e ∈ o.after, Region.binds .any e = true → l e.on = true) → J l a w → wpOp P ops Q i (fun a' w' => J (up1 l i) a' w') a w)
    (he : ∀ l a w, (∀ i, i < ops.size → l i = true) → J l a w → Q .normal a w) :
    ∀ (fuel : Nat) (listed : Array Bool) (a : Act) (w : World), listed.size = ops.size → (listed.toList.filter (!·)).length ≤ fuel → J (ups listed) a w → wpAny P .any ops Q fuel listed a w
  | 0, listed, a, w, hz, hf, hJ => by
    have hall := cnt_zero (Nat.le_zero.1 hf)
    have hup : ∀ i, i < ops.size → ups listed i = true := fun i hi => by
      have := hall i (by simp; omega)
      unfold ups
      rw [Array.getD_eq_getD_getElem?, ← Array.getElem?_toList, this]
      rfl
    refine ⟨?_, he _ _ _ hup hJ⟩
    unfold Region.ready
    rw [List.filter_eq_nil_iff]
    intro i hi
    have hi' : i < ops.size := List.mem_range.1 hi
    have := hall i (by simp; omega)
    rw [Array.getD_eq_getD_getElem?, ← Array.getElem?_toList, this]
    simp
  | fuel + 1, listed, a, w, hz, hf, hJ => by
    refine ⟨fun hr => he _ _ _ ?_ hJ, fun i hi => ?_⟩
    · intro i
      induction i using Nat.strongRecOn with
      | _ i ih =>
        intro hi
        apply Classical.byContradiction
        intro hn
        obtain ⟨o, ho⟩ : ∃ o, ops[i]? = some o := ⟨_, Array.getElem?_eq_getElem hi⟩
        have hd : ∀ e ∈ o.after, Region.binds .any e = true → ups listed e.on = true := fun e h1 h2 => by
          have := hb i o ho e h1 h2
          exact ih _ this (by omega)
        have hl : listed.getD i true = false := by
          unfold ups at hn
          rw [Array.getD_eq_getD_getElem?, Array.getElem?_eq_getElem (by omega)] at hn ⊢
          simpa using hn
        have : i ∈ Region.ready .any ops listed := by
          unfold Region.ready
          rw [List.mem_filter]
          refine ⟨List.mem_range.2 hi, ?_⟩
          rw [hl, ho]
          simp only [Bool.not_false, Bool.true_and, Option.map_some, Option.getD_some]
          rw [Array.all_eq_true_iff_forall_mem]
          intro e he
          cases hq : Region.binds .any e with
          | false => rfl
          | true => simpa [ups] using hd e he hq
        rw [hr] at this
        cases this
    · unfold Region.ready at hi
      rw [List.mem_filter] at hi
      obtain ⟨h1, h2⟩ := hi
      have hi' : i < ops.size := List.mem_range.1 h1
      obtain ⟨o, ho⟩ : ∃ o, ops[i]? = some o := ⟨_, Array.getElem?_eq_getElem hi'⟩
      rw [ho, Bool.and_eq_true] at h2
      obtain ⟨h2, h3⟩ := h2
      simp only [Option.map_some, Option.getD_some] at h3
      rw [Array.all_eq_true_iff_forall_mem] at h3
      have hlt : i < listed.size := by omega
      have hli : listed[i]? = some false := by
        rw [Array.getElem?_eq_getElem hlt]
        rw [Array.getD_eq_getD_getElem?, Array.getElem?_eq_getElem hlt] at h2
        simpa using h2
      refine wpOp_mono (fun a' w' hJ' => wpAny_inv J hb hs he fuel _ a' w' (by simpa using hz) ?_ (by rw [ups_set hlt]; exact hJ')) (hs i o (ups listed) a w ho (by unfold ups; rw [Array.getD_eq_getD_getElem?, hli]; rfl) (fun e h4 h5 => ?_) hJ)
      · have := cnt_set (l := listed.toList) (i := i) (by rw [Array.getElem?_toList]; exact hli)
        rw [Array.toList_setIfInBounds]
        omega
      · have := h3 e h4
        rw [h5] at this
        simpa [ups] using this
theorem wp_region_inv {id : Nat} {a : Act} {w : World} (hm : P.follows .mixedOrders = true) (J : (Nat → Bool) → Act → World → Prop) (hb : ∀ i o, ops[i]? = some o → ∀ e ∈ o.after, Region.binds .any e = true → e.on < i)
    (h0 : J (fun _ => false) a w.drew)
    (hs : ∀ i o l a w, ops[i]? = some o → l i = false → (∀ e ∈ o.after, Region.binds .any e = true → l e.on = true) → J l a w → wpOp P ops Q i (fun a' w' => J (up1 l i) a' w') a w)
    (he : ∀ l a w, (∀ i, i < ops.size → l i = true) → J l a w → Q .normal a w) : (Code.region id ops true).wp P Q a w :=
  wp_region_any hm (wpAny_inv J hb hs he ops.size _ a _ (by simp) (by
    have := List.length_filter_le (!·) (Array.replicate ops.size false).toList
    simp only [Array.toList_replicate, List.length_replicate] at this
    exact this) (by
    have e : ups (Array.replicate ops.size false) = fun _ => false := by
      funext j
      unfold ups
      rw [Array.getD_eq_getD_getElem?]
      by_cases h : j < ops.size
      · simp [h]
      · simp [h]
    rw [e]
    exact h0))
/-- a is a0, but for the slots of W, which hold v. -/
structure Slots (a0 : Act) (W : List Nat) (v : Nat → Value) (a : Act) : Prop where
  de : a.defers = a0.defers
  sz : a.tmps.size = a0.tmps.size
  out : ∀ k, k ∉ W → a.tmps[k]? = a0.tmps[k]?
  ev : ∀ k, k ∈ W → a.eval (.tmp k) = v k
theorem Slots.put {a0 a : Act} {W : List Nat} {v : Nat → Value} (h : Slots a0 W v a) {d : Nat} (hd : d ∈ W) (hz : ∀ k ∈ W, k < a0.tmps.size) (x : Value) : Slots a0 W (upd v d x) (a.put (some d) x) := by
  refine ⟨(Act.defers_put' ..).trans h.de, (Act.size_put ..).trans h.sz, fun k hk => ?_, fun k hk => ?_⟩
  · rw [← h.out k hk]
    unfold Act.put
    simp only
    rw [Array.getElem?_setIfInBounds, if_neg (fun e : d = k => hk (by rw [← e]; exact hd))]
  · unfold upd
    by_cases e : k = d
    · subst e
      rw [if_pos rfl]
      exact Act.eval_put_same _ _ _ (by rw [h.sz]; exact hz k hk)
    · rw [if_neg e, Act.eval_put_ne _ _ _ _ (Ne.symm e)]
      exact h.ev k hk
theorem Slots.old {a0 a : Act} {W : List Nat} {v : Nat → Value} (h : Slots a0 W v a) {k : Nat} (hk : k ∉ W) : a.eval (.tmp k) = a0.eval (.tmp k) := by
  show a.tmps.getD k undef = a0.tmps.getD k undef
  rw [Array.getD_eq_getD_getElem?, Array.getD_eq_getD_getElem?, h.out k hk]
theorem Slots.start (a0 : Act) (W : List Nat) : Slots a0 W (fun k => a0.eval (.tmp k)) a0 := ⟨rfl, rfl, fun _ _ => rfl, fun _ _ => rfl⟩
/-- The frame itself. -/
theorem Slots.refit {a0 a : Act} : ∀ {W : List Nat} {v : Nat → Value}, Slots a0 W v a → (∀ k ∈ W, k < a0.tmps.size) → a = W.foldl (fun b k => b.put (some k) (v k)) a0 := by
  intro W v h hz
  have key : ∀ (W' : List Nat) (b : Act), b.tmps.size = a0.tmps.size → b.defers = a0.defers → (∀ k ∈ W', k < a0.tmps.size) → (∀ k, k ∉ W' → a.tmps[k]? = b.tmps[k]?) → (∀ k ∈ W', a.eval (.tmp k) = v k) → a = W'.foldl (fun b k => b.put (some k) (v k)) b := by
    intro W'
    induction W' with
    | nil =>
      intro b h1 h2 _ h4 _
      obtain ⟨at', ad⟩ := a
      obtain ⟨bt, bd⟩ := b
      have e1 : at' = bt := Array.ext_getElem? (fun k => h4 k (by simp))
      have e2 : ad = bd := (h.de).trans h2.symm
      rw [e1, e2]
      rfl
    | cons d W' ih =>
      intro b h1 h2 h3 h4 h5
      rw [List.foldl_cons]
      refine ih _ ((Act.size_put ..).trans h1) ((Act.defers_put' ..).trans h2) (fun k hk => h3 k (List.mem_cons_of_mem _ hk)) (fun k hk => ?_) (fun k hk => h5 k (List.mem_cons_of_mem _ hk))
      by_cases e : k = d
      · subst e
        have hd := h3 k (List.mem_cons_self ..)
        have hv := h5 k (List.mem_cons_self ..)
        unfold Act.put
        simp only
        rw [Array.getElem?_setIfInBounds, if_pos rfl, if_pos (by omega)]
        have hlt : k < a.tmps.size := by rw [h.sz]; exact hd
        have : a.tmps.getD k undef = v k := hv
        rw [Array.getD_eq_getD_getElem?, Array.getElem?_eq_getElem hlt] at this
        rw [Array.getElem?_eq_getElem hlt]
        simpa using this
      · unfold Act.put
        simp only
        rw [Array.getElem?_setIfInBounds, if_neg (Ne.symm e)]
        exact h4 k (by simp [e, hk])
  exact key W a0 rfl rfl hz (fun k hk => h.out k hk) (fun k hk => h.ev k hk)
/-! ### steps -/
theorem step_go {o : Oper} {a : Act} {w : World} {K : Act → World → Prop} {E : Prop} (hgd : o.guard = none) (h : o.wp P a w K Q) : if Region.wanted o (yielded ops a.tmps) = true then Oper.wp P o a w K Q else E := by
  have hw : Region.wanted o (yielded ops a.tmps) = true := by simp [Region.wanted, hgd]
  rw [if_pos hw]
  exact h
theorem step_call {o : Oper} {a : Act} {w : World} {K : Act → World → Prop} {f : FuncId} {fn : Func} {args : Array Operand} {tys : Array TypeId} (ho : o.op = .call { callee := .value (.func f), args := args, argTypes := tys })
    (hf : P.funcs[f]? = some fn) (hname : (fn.name == "runtime.NumGoroutine") = false) (hb : fn.body.isNone = false) {vals : Array Value} (hv : args.map a.eval = vals)
    (h : Calls P f vals w fun e w' => ∃ v, e = .returned v ∧ K (a.put o.dst v) w') : o.wp P a w K Q := by
  have h1 : ¬ fn.name = "runtime.NumGoroutine" := by simpa using hname
  have h2 : ¬ fn.body = none := by cases hx : fn.body <;> simp_all
  have hrun : (execOp a.eval o).run P w = .ok (.enter f (args.map a.eval)) w := by
    unfold execOp
    simp [ho, resolve, Deferred.ofValue, invoke, callFunc, hf, h1, h2, Act.eval]
  unfold Oper.wp
  rw [hrun, Oper.upon_enter, hv]
  exact h.mono (fun e w' ⟨v, h1, h2⟩ => by subst h1; exact h2)
theorem step_val {o : Oper} {a : Act} {w w' : World} {K : Act → World → Prop} (v : Value) (hrun : (execOp a.eval o).run P w = .ok (.value v) w') (h : K (a.put o.dst v) w') : o.wp P a w K Q := by
  unfold Oper.wp
  rw [hrun, Oper.upon_value]
  exact h
theorem step_slice {o : Oper} {a : Act} {w : World} {K : Act → World → Prop} (t e : TypeId) (len : Nat) (parts : Array (Nat × Operand)) (ho : o.op = .buildSlice t len parts) (hu : P.underlying t = some (.slice e)) (cells : Array Value)
    {pv : List (Nat × Value)} (hp : (parts.map fun (i, x) => (i, a.eval x)).toList = pv) (hf : P.builtSlice e len pv = some cells)
    (h : K (a.put o.dst (.slice (some ⟨w.heap.size, 0, none⟩) len len)) (w.alloc (.cells cells e))) : o.wp P a w K Q := by
  subst hp
  unfold Program.builtSlice at hf
  cases hie : P.info? e with
  | none => simp [hie] at hf
  | some ie =>
    simp only [hie] at hf
    cases hz : ie.zero with
    | none => simp [hz] at hf
    | some z =>
      simp only [hz] at hf
      by_cases hc : len * ie.size > 2 ^ 24 ∨ len * ie.size = 0
      · simp [hc] at hf
      · rw [if_neg hc] at hf
        exact wp_buildSlice t e len parts ho cells ie z hu hie hz (fun x => hc (.inl x)) (fun x => hc (.inr x)) hf h
theorem step_store {o : Oper} {a : Act} {w : World} {K : Act → World → Prop} (ty : TypeId) (x y : Operand) (ho : o.op = .store ty x y)
    (g : Nat) (cells : Array Value) (hx : a.eval x = .pointer (some ⟨g, 0, none⟩)) (hy : a.eval y = .agg cells)
    (t : TypeId) (old : Array Value) (hg : w.heap[g]? = some (.cells old t (0, 0))) (hi : (P.info? ty).map (·.size) = some cells.size)
    (hold : old.size = cells.size) (h1 : cells.all (·.oneCell') = true)
    (h : ∀ w', w'.heap[g]? = some (.cells cells t (0, 0)) → Ke g w w' → K (a.put o.dst undef) w') : o.wp P a w K Q :=
  wp_store_row ty x y ho g cells hx hy t old hg hi hold h1 (h _ (setRow_heap w g old cells t (0, 0) hg) ⟨rfl, rfl, rfl, by simp, fun k hk hb => setRow_other w g k cells hb⟩)
/-- Each edge that binds leads back. -/
def edgesOk (ops : Array Oper) : Bool := (List.range ops.size).all fun i => ((ops[i]?).map fun o => o.after.all fun e => !Region.binds .any e || decide (e.on < i)).getD true
theorem edges_back (h : edgesOk ops = true) : ∀ i o, ops[i]? = some o → ∀ e ∈ o.after, Region.binds .any e = true → e.on < i := by
  intro i o ho e he hb
  have hi : i < ops.size := (Array.getElem?_eq_some_iff.1 ho).1
  have := List.all_eq_true.1 h i (List.mem_range.2 hi)
  rw [ho, Option.map_some, Option.getD_some, Array.all_eq_true_iff_forall_mem] at this
  have h2 := this e he
  rw [hb] at h2
  simpa using h2
end
end Go.Proofs.Ytkkcoaecidjecaa
