/- A region that draws its order, gone through by an invariant over what has come up. No condition; no program is walked here. -/
import Derived.Test.YtgamenimbkafjaaT0
import Derived.Deep.RegionHeld3
import Derived.OrdersIn
import Derived.Test.YtgamenimbkafjaaI
import Derived.Shelf.RegionOpen
import Derived.Great.Frames
import Derived.Great.BuildSlice
import Derived.Great.Walk
import Derived.Laws.Tables
import Derived.Laws.Rows
namespace Go.Proofs.Ytgamenimbkafjaa
open Go.RowKit Go.Shelf
set_option linter.unusedVariables false
set_option linter.unusedSimpArgs false
/-- What has come up, and i besides. -/
def up1 (l : Nat → Bool) (i j : Nat) : Bool := if j = i then true else l j
def ups (listed : Array Bool) (j : Nat) : Bool := listed.getD j false
/-- The slots, and x in d. -/
def upd (v : Nat → Value) (d : Nat) (x : Value) (j : Nat) : Value := if j = d then x else v j
theorem ups_set {listed : Array Bool} {i : Nat} (hi : i < listed.size) : ups (listed.setIfInBounds i true) = up1 (ups listed) i := by
  funext j
  unfold ups up1
  by_cases e : j = i
  · subst e
    simp [hi]
  · rw [if_neg e]
    simp [Array.getElem?_setIfInBounds, Ne.symm e]
theorem cnt_set : ∀ {l : List Bool} {i : Nat}, l[i]? = some false → ((l.set i true).filter (!·)).length + 1 = (l.filter (!·)).length
  | [], _, h => by simp at h
  | b :: l, 0, h => by
    simp at h
    subst h
    simp
  | b :: l, i + 1, h => by
    have := cnt_set (l := l) (i := i) (by simpa using h)
    cases b <;> simp <;> omega
theorem cnt_zero {l : List Bool} (h : (l.filter (!·)).length = 0) : ∀ i, i < l.length → l[i]? = some true := by
  intro i hi
  have := List.filter_eq_nil_iff.1 (List.eq_nil_of_length_eq_zero h) l[i] (List.getElem_mem hi)
  rw [List.getElem?_eq_getElem hi]
  simpa using this
section
variable {F : Fence} {n : Nat} {P : Program} {ops : Array Oper} {Q : Exit → Act → World → Prop}
theorem wpAnyIn_inv (J : (Nat → Bool) → Act → World → Prop) (hb : ∀ i o, ops[i]? = some o → ∀ e ∈ o.after, Region.binds .any e = true → e.on < i)
    (hs : ∀ i o l a w, ops[i]? = some o → l i = false → (∀ e ∈ o.after, Region.binds .any e = true → l e.on = true) → J l a w → wpOpIn F n P ops Q i (fun a' w' => J (up1 l i) a' w') a w)
    (he : ∀ l a w, (∀ i, i < ops.size → l i = true) → J l a w → Q .normal a w) :
    ∀ (fuel : Nat) (listed : Array Bool) (a : Act) (w : World), listed.size = ops.size → (listed.toList.filter (!·)).length ≤ fuel → J (ups listed) a w → wpAnyIn F n P .any ops Q fuel listed a w
  | 0, listed, a, w, hz, hf, hJ => by
    have hall := cnt_zero (Nat.le_zero.1 hf)
    have hup : ∀ i, i < ops.size → ups listed i = true := fun i hi => by
      have := hall i (by simp; omega)
      unfold ups
      rw [Array.getD_eq_getD_getElem?, ← Array.getElem?_toList, this]
      rfl
    refine ⟨?_, he _ _ _ hup hJ⟩
    unfold Region.ready
    rw [List.filter_eq_nil_iff]
    intro i hi
    have hi' : i < ops.size := List.mem_range.1 hi
    have := hall i (by simp; omega)
    rw [Array.getD_eq_getD_getElem?, ← Array.getElem?_toList, this]
    simp
  | fuel + 1, listed, a, w, hz, hf, hJ => by
    refine ⟨fun hr => he _ _ _ ?_ hJ, fun i hi => ?_⟩
    · intro i
      induction i using Nat.strongRecOn with
      | _ i ih =>
        intro hi
        apply Classical.byContradiction
        intro hn
        obtain ⟨o, ho⟩ : ∃ o, ops[i]? = some o := ⟨_, Array.getElem?_eq_getElem hi⟩
        have hd : ∀ e ∈ o.after, Region.binds .any e = true → ups listed e.on = true := fun e h1 h2 => by
          have := hb i o ho e h1 h2
          exact ih _ this (by omega)
        have hl : listed.getD i true = false := by
          unfold ups at hn
          rw [Array.getD_eq_getD_getElem?, Array.getElem?_eq_getElem (by omega)] at hn ⊢
          simpa using hn
        have : i ∈ Region.ready .any ops listed := by
          unfold Region.ready
          rw [List.mem_filter]
          refine ⟨List.mem_range.2 hi, ?_⟩
          rw [hl, ho]
          simp only [Bool.not_false, Bool.true_and, Option.map_some, Option.getD_some]
          rw [Array.all_eq_true_iff_forall_mem]
          intro e he
          cases hq : Region.binds .any e with
          | false => rfl
          | true => simpa [ups] using hd e he hq
        rw [hr] at this
        cases this
    · unfold Region.ready at hi
      rw [List.mem_filter] at hi
      obtain ⟨h1, h2⟩ := hi
      have hi' : i < ops.size := List.mem_range.1 h1
      obtain ⟨o, ho⟩ : ∃ o, ops[i]? = some o := ⟨_, Array.getElem?_eq_getElem hi'⟩
      rw [ho, Bool.and_eq_true] at h2
      obtain ⟨h2, h3⟩ := h2
      simp only [Option.map_some, Option.getD_some] at h3
      rw [Array.all_eq_true_iff_forall_mem] at h3
      have hlt : i < listed.size := by omega
      have hli : listed[i]? = some false := by
        rw [Array.getElem?_eq_getElem hlt]
        rw [Array.getD_eq_getD_getElem?, Array.getElem?_eq_getElem hlt] at h2
        simpa using h2
      refine wpOpIn_mono (fun a' w' hJ' => wpAnyIn_inv J hb hs he fuel _ a' w' (by simpa using hz) ?_ (by rw [ups_set hlt]; exact hJ')) (hs i o (ups listed) a w ho (by unfold ups; rw [Array.getD_eq_getD_getElem?, hli]; rfl) (fun e h4 h5 => ?_) hJ)
      · have := cnt_set (l := listed.toList) (i := i) (by rw [Array.getElem?_toList]; exact hli)
        rw [Array.toList_setIfInBounds]
        omega
      · have := h3 e h4
        rw [h5] at this
        simpa [ups] using this
theorem wpIn_region_inv {id : Nat} {a : Act} {w : World} (hm : P.follows .mixedOrders = true) (J : (Nat → Bool) → Act → World → Prop) (hb : ∀ i o, ops[i]? = some o → ∀ e ∈ o.after, Region.binds .any e = true → e.on < i)
    (h0 : J (fun _ => false) a w.drew)
    (hs : ∀ i o l a w, ops[i]? = some o → l i = false → (∀ e ∈ o.after, Region.binds .any e = true → l e.on = true) → J l a w → wpOpIn F n P ops Q i (fun a' w' => J (up1 l i) a' w') a w)
    (he : ∀ l a w, (∀ i, i < ops.size → l i = true) → J l a w → Q .normal a w) : (Code.region id ops true).wpIn F n P Q a w :=
  wpIn_region_any hm (wpAnyIn_inv J hb hs he ops.size _ a _ (by simp) (by
    have := List.length_filter_le (!·) (Array.replicate ops.size false).toList
    simp only [Array.toList_replicate, List.length_replicate] at this
    exact this) (by
    have e : ups (Array.replicate ops.size false) = fun _ => false := by
      funext j
      unfold ups
      rw [Array.getD_eq_getD_getElem?]
      by_cases h : j < ops.size
      · simp [h]
      · simp [h]
    rw [e]
    exact h0))
/-- a is a0, but for the slots of W, which hold v. -/
structure Slots (a0 : Act) (W : List Nat) (v : Nat → Value) (a : Act) : Prop where
  de : a.defers = a0.defers
  sz : a.tmps.size = a0.tmps.size
  out : ∀ k, k ∉ W → a.tmps[k]? = a0.tmps[k]?
  ev : ∀ k, k ∈ W → a.eval (.tmp k) = v k
theorem Slots.put {a0 a : Act} {W : List Nat} {v : Nat → Value} (h : Slots a0 W v a) {d : Nat} (hd : d ∈ W) (hz : ∀ k ∈ W, k < a0.tmps.size) (x : Value) : Slots a0 W (upd v d x) (a.put (some d) x) := by
  refine ⟨(Act.defers_put' ..).trans h.de, (Act.size_put ..).trans h.sz, fun k hk => ?_, fun k hk => ?_⟩
  · rw [← h.out k hk]
    unfold Act.put
    simp only
    rw [Array.getElem?_setIfInBounds, if_neg (fun e : d = k => hk (by rw [← e]; exact hd))]
  · unfold upd
    by_cases e : k = d
    · subst e
      rw [if_pos rfl]
      exact Act.eval_put_same _ _ _ (by rw [h.sz]; exact hz k hk)
    · rw [if_neg e, Act.eval_put_ne _ _ _ _ (Ne.symm e)]
      exact h.ev k hk
theorem Slots.old {a0 a : Act} {W : List Nat} {v : Nat → Value} (h : Slots a0 W v a) {k : Nat} (hk : k ∉ W) : a.eval (.tmp k) = a0.eval (.tmp k) := by
  show a.tmps.getD k undef = a0.tmps.getD k undef
  rw [Array.getD_eq_getD_getElem?, Array.getD_eq_getD_getElem?, h.out k hk]
theorem Slots.start (a0 : Act) (W : List Nat) : Slots a0 W (fun k => a0.eval (.tmp k)) a0 := ⟨rfl, rfl, fun _ _ => rfl, fun _ _ => rfl⟩
/-- The frame itself. -/
theorem Slots.refit {a0 a : Act} : ∀ {W : List Nat} {v : Nat → Value}, Slots a0 W v a → (∀ k ∈ W, k < a0.tmps.size) → a = W.foldl (fun b k => b.put (some k) (v k)) a0 := by
  intro W v h hz
  have key : ∀ (W' : List Nat) (b : Act), b.tmps.size = a0.tmps.size → b.defers = a0.defers → (∀ k ∈ W', k < a0.tmps.size) → (∀ k, k ∉ W' → a.tmps[k]? = b.tmps[k]?) → (∀ k ∈ W', a.eval (.tmp k) = v k) → a = W'.foldl (fun b k => b.put (some k) (v k)) b := by
    intro W'
    induction W' with
    | nil =>
      intro b h1 h2 _ h4 _
      obtain ⟨at', ad⟩ := a
      obtain ⟨bt, bd⟩ := b
      have e1 : at' = bt := Array.ext_getElem? (fun k => h4 k (by simp))
      have e2 : ad = bd := (h.de).trans h2.symm
      rw [e1, e2]
      rfl
    | cons d W' ih =>
      intro b h1 h2 h3 h4 h5
      rw [List.foldl_cons]
      refine ih _ ((Act.size_put ..).trans h1) ((Act.defers_put' ..).trans h2) (fun k hk => h3 k (List.mem_cons_of_mem _ hk)) (fun k hk => ?_) (fun k hk => h5 k (List.mem_cons_of_mem _ hk))
      by_cases e : k = d
      · subst e
        have hd := h3 k (List.mem_cons_self ..)
        have hv := h5 k (List.mem_cons_self ..)
        unfold Act.put
        simp only
        rw [Array.getElem?_setIfInBounds, if_pos rfl, if_pos (by omega)]
        have hlt : k < a.tmps.size := by rw [h.sz]; exact hd
        have : a.tmps.getD k undef = v k := hv
        rw [Array.getD_eq_getD_getElem?, Array.getElem?_eq_getElem hlt] at this
        rw [Array.getElem?_eq_getElem hlt]
        simpa using this
      · unfold Act.put
        simp only
        rw [Array.getElem?_setIfInBounds, if_neg (Ne.symm e)]
        exact h4 k (by simp [e, hk])
  exact key W a0 rfl rfl hz (fun k hk => h.out k hk) (fun k hk => h.ev k hk)
/-! ### steps -/
theorem stepIn_go {i : Nat} {o : Oper} {a : Act} {w : World} {K : Act → World → Prop} (ho : ops[i]? = some o) (hgd : o.guard = none) (h : o.wpIn F n P a w K Q) : wpOpIn F n P ops Q i K a w := by
  unfold wpOpIn
  rw [ho]
  simp only
  rw [if_pos (by simp [Region.wanted, hgd])]
  exact h
theorem stepIn_val {o : Oper} {a : Act} {w w' : World} {K : Act → World → Prop} (hF : ∀ f, F.fn f) (v : Value) (hd : ∀ c, o.op ≠ .defer c) (hrun : (execOp a.eval o).run P w = .ok (.value v) w') (h : K (a.put o.dst v) w') : o.wpIn F n P a w K Q := by
  refine ⟨fun f _ => hF f, ?_⟩
  rw [Oper.semAt_eq _ _ _ hd, hrun, Oper.uponIn_value]
  exact h
theorem stepIn_call {o : Oper} {a : Act} {w : World} {K : Act → World → Prop} {f : FuncId} {fn : Func} {args : Array Operand} {tys : Array TypeId} (hF : ∀ f, F.fn f) (hdp : F.depth = none) (ho : o.op = .call { callee := .value (.func f), args := args, argTypes := tys })
    (hf : P.funcs[f]? = some fn) (hname : (fn.name == "runtime.NumGoroutine") = false) (hb : fn.body.isNone = false) {vals : Array Value} (hv : args.map a.eval = vals)
    (h : CallsIn F (n - 1) P f vals w fun e w' => ∃ v, e = .returned v ∧ K (a.put o.dst v) w') : o.wpIn F n P a w K Q := by
  have h1 : ¬ fn.name = "runtime.NumGoroutine" := by simpa using hname
  have h2 : ¬ fn.body = none := by cases hx : fn.body <;> simp_all
  have hrun : (execOp a.eval o).run P w = .ok (.enter f (args.map a.eval)) w := by
    unfold execOp
    simp [ho, resolve, Deferred.ofValue, invoke, callFunc, hf, h1, h2, Act.eval]
  refine ⟨fun f _ => hF f, ?_⟩
  rw [Oper.semAt_eq _ _ _ (fun c => by rw [ho]; simp), hrun, Oper.uponIn_enter, hv]
  exact ⟨fun hx => (by rw [hdp] at hx; cases hx), CallsIn.mono h (fun e w' ⟨v, h1, h2⟩ => by subst h1; exact h2)⟩
theorem stepIn_yield {o : Oper} {a : Act} {w : World} {K : Act → World → Prop} {l : Nat} {t : Tmp} {args : Array Operand} {tys : Array TypeId} (hF : ∀ f, F.fn f) (hdp : F.depth = none) (ho : o.op = .call { callee := .value (.tmp t), args := args, argTypes := tys })
    (hx : a.eval (.tmp t) = .func (.yield l) #[] #[]) {vals : Array Value} (hv : args.map a.eval = vals) {m : Nat}
    (h : YieldAt F m P l vals w fun e w' => ∃ v, e = .returned v ∧ K (a.put o.dst v) w') : o.wpIn F n P a w K Q := by
  obtain ⟨fn, tmps, assign, body, hy, hR⟩ := h
  have hrun : (execOp a.eval o).run P w = .ok (.round l fn tmps assign body) w := by
    unfold execOp
    have hx2 : a.tmps[t]?.getD undef = .func (.yield l) #[] #[] := by rw [← Array.getD_eq_getD_getElem?]; exact hx
    have hv2 : (Array.map a.eval args) = vals := hv
    simp [ho, resolve, Deferred.ofValue, invoke, Act.eval, hx2]
    rw [show (Array.map (fun o => a.eval o) args) = vals from hv] at *
    simp [hy]
  refine ⟨fun f _ => hF f, ?_⟩
  rw [Oper.semAt_eq _ _ _ (fun c => by rw [ho]; simp), hrun, Oper.uponIn_round]
  exact ⟨fun hx => (by rw [hdp] at hx; cases hx), RoundIn.mono (RoundIn.anyDepth hdp hR) (fun e w' ⟨v, h1, h2⟩ => by subst h1; exact h2)⟩
/-- Each edge that binds leads back. -/
def edgesOk (ops : Array Oper) : Bool := (List.range ops.size).all fun i => ((ops[i]?).map fun o => o.after.all fun e => !Region.binds .any e || decide (e.on < i)).getD true
theorem edges_back (h : edgesOk ops = true) : ∀ i o, ops[i]? = some o → ∀ e ∈ o.after, Region.binds .any e = true → e.on < i := by
  intro i o ho e he hb
  have hi : i < ops.size := (Array.getElem?_eq_some_iff.1 ho).1
  have := List.all_eq_true.1 h i (List.mem_range.2 hi)
  rw [ho, Option.map_some, Option.getD_some, Array.all_eq_true_iff_forall_mem] at this
  have h2 := this e he
  rw [hb] at h2
  simpa using h2
end
end Go.Proofs.Ytgamenimbkafjaa
