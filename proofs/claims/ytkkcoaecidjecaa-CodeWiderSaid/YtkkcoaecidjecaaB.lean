/- An argument of type api.Module reads as a module that lies in memory, of no more numbers than the reading's bulk. No condition but the form's own: each slice takes at most 2 to the 47 less 4096 bytes. -/
import Derived.Test.YtkkcoaecidjecaaChecked
import Derived.Test.YtkkcoaecidjecaaT1
import Derived.Test.YtkkcoaecidjecaaW4
import Derived.Test.YtkkcoaecidjecaaRows
import Derived.SizedLaws
import Derived.ChangeArms
import Derived.Deep.Slices
import Derived.DataReads
import Derived.OpenShut
import Derived.WalkKit
import Derived.ProofKit
namespace Go.Proofs.Ytkkcoaecidjecaa
open Go.RowKit Go.Deep Go.WideShapes Go.ChangeShapes Go.ChangeAt
set_option linter.unusedVariables false
set_option linter.unusedSimpArgs false

theorem choose_to {α : Type} (d : α) {n : Nat} {p : Nat → α → Prop} (h : ∀ i, i < n → ∃ x, p i x) : ∃ f : Nat → α, ∀ i, i < n → p i (f i) := by
  classical
  exact ⟨fun i => if hi : i < n then Classical.choose (h i hi) else d, fun i hi => by simp only [dif_pos hi]; exact Classical.choose_spec (h i hi)⟩
theorem bulk_one {H : Type} (d : DataW H) : 1 ≤ Rows.uptoBulk d := by
  cases d with
  | lit l => cases l <;> simp [Rows.uptoBulk]
  | nil => simp [Rows.uptoBulk]
  | ptr d => simp [Rows.uptoBulk]
  | slice elems spare => simp [Rows.uptoBulk]
  | agg parts => simp [Rows.uptoBulk]
  | iface t d => simp [Rows.uptoBulk]
  | map entries => simp [Rows.uptoBulk]
  | held h => simp [Rows.uptoBulk]
theorem bulk_all {H : Type} : ∀ (l : List (DataW H)), Rows.uptoBulkAll l = (l.map Rows.uptoBulk).sum
  | [] => by simp [Rows.uptoBulkAll]
  | d :: l => by rw [Rows.uptoBulkAll, bulk_all l]; simp
section
variable {H : Type} {enc : TypeId × Value → H} {w : World} {base : Nat} {spare : Nat → Bool} {held : Bool}
theorem open_tabU {t e : TypeId} {m fuel : Nat} {cs : List Value} {x : DataW H × List MemPlace} (ht : Try.prog.underlying t = some (.slice e)) (hm : Try.prog.cellsOf e = m) (hm0 : 0 < m)
    (h : DataW.trod enc Try.prog w base spare held fuel t cs = some x) (hw : ∀ q, q ∈ x.1.weights Try.prog t → q ≤ reachBytes) :
    ∃ (a : Option Addr) (n c fuel' : Nat) (D : Nat → List Value) (X : Nat → DataW H × List MemPlace), fuel' < fuel ∧ cs = [.slice a n c] ∧ n * Try.prog.bytesOf e ≤ reachBytes ∧ n ≤ c ∧ tab w A0 e a n c m D ∧
      (∀ i, i < n → (D i).length = m ∧ DataW.trod enc Try.prog w base spare held fuel' e (D i) = some (X i) ∧ ∀ q, q ∈ (X i).1.weights Try.prog e → q ≤ reachBytes) ∧ 1 + ((List.range n).map fun i => Rows.uptoBulk (X i).1).sum ≤ Rows.uptoBulk x.1 := by
  rcases DataW.trod_slice ht h with ⟨rfl, rfl⟩ | ⟨a, n, c, elems, rest, f, rfl, rfl, rfl, hb, hl, hc, hlen, hel, _, _⟩
  · obtain ⟨f, rfl⟩ : ∃ f, fuel = f + 1 := by
      cases fuel with
      | zero => simp [DataW.trod] at h
      | succ f => exact ⟨f, rfl⟩
    exact ⟨none, 0, 0, f, fun _ => [], fun _ => (.nil, []), by omega, rfl, by omega, Nat.le_refl _, tab_nil _ _ _ _ _, fun i hi => absurd hi (by omega), by simpa using bulk_one _⟩
  · have hw0 : (elems.length + rest.length) * Try.prog.bytesOf e ≤ reachBytes := hw _ (by simp [DataW.weights, ht])
    have hn : n * Try.prog.bytesOf e ≤ reachBytes := Nat.le_trans (Nat.mul_le_mul_right _ (by omega)) hw0
    have hwe : ∀ (i : Nat) (y : DataW H × List MemPlace), elems[i]? = some y → ∀ q, q ∈ y.1.weights Try.prog e → q ≤ reachBytes := fun i y hy q hq => by
      refine hw q ?_
      simp only [DataW.weights, ht, List.mem_cons, List.mem_append]
      refine .inr (.inl ?_)
      have hmem : ∀ (l : List (DataW H × List MemPlace)) (i : Nat), l[i]? = some y → q ∈ DataW.weightsAll Try.prog e (l.map (·.1)) := by
        intro l
        induction l with
        | nil => intro i hi; simp at hi
        | cons z l ih =>
          intro i hi
          simp only [List.map_cons, DataW.weightsAll, List.mem_append]
          cases i with
          | zero => simp at hi; subst hi; exact .inl hq
          | succ i => exact .inr (ih i (by simpa using hi))
      exact hmem elems i hy
    have hone : ∀ i, i < n → ∃ z : List Value × (DataW H × List MemPlace), (∀ j v, z.1[j]? = some v → w.cell? ((a.add (i * m)).add j) = some v) ∧ elems[i]? = some z.2 ∧ z.1.length = m ∧ DataW.trod enc Try.prog w base spare held f e z.1 = some z.2 ∧ ∀ q, q ∈ z.2.1.weights Try.prog e → q ≤ reachBytes := by
      intro i hi
      have he := hel i hi
      rw [hm] at he
      have hsome : elems[i]? = some (elems[i]'(by omega)) := List.getElem?_eq_getElem (by omega)
      rw [hsome] at he
      obtain ⟨cs', hcs, htr⟩ := Option.bind_eq_some_iff.1 he
      obtain ⟨_, hcl, hat⟩ := World.cells?_some hcs
      refine ⟨(cs', elems[i]'(by omega)), fun j v hv => ?_, hsome, hcl, htr, hwe i _ hsome⟩
      have hj : j < cs'.length := (List.getElem?_eq_some_iff.1 hv).1
      rw [hat j (by omega)]
      exact hv
    obtain ⟨Z, hZ⟩ := choose_to ([], (.nil, [])) hone
    refine ⟨some a, n, c, f, fun i => (Z i).1, fun i => (Z i).2, by omega, rfl, hn, by omega, ⟨fun h => (by cases h), fun hn0 => ?_⟩, fun i hi => (hZ i hi).2.2, ?_⟩
    rotate_left
    · have he : elems.map (·.1) = (List.range n).map fun i => (Z i).2.1 := by
        apply List.ext_getElem?
        intro i
        by_cases hi : i < n
        · rw [List.getElem?_map, (hZ i hi).2.1, List.getElem?_map, List.getElem?_range hi]; rfl
        · rw [List.getElem?_eq_none (by simp; omega), List.getElem?_eq_none (by simp; omega)]
      show 1 + _ ≤ Rows.uptoBulk (DataW.slice (elems.map (·.1)) _)
      rw [Rows.uptoBulk, bulk_all, he, List.map_map]
      show 1 + ((List.range n).map fun i => Rows.uptoBulk (Z i).2.1).sum ≤ ((List.range n).map fun i => Rows.uptoBulk (Z i).2.1).sum + _ + 1
      omega
    have h0 := (hZ 0 hn0).1
    have hl0 := (hZ 0 hn0).2.2.1
    have hc0 : w.cell? a = some ((Z 0).1[0]'(by omega)) := by
      have := h0 0 _ (List.getElem?_eq_getElem (by omega))
      simpa [Addr.add] using this
    obtain ⟨b, o, s⟩ := a
    have hs : s = none := by
      cases s with
      | none => rfl
      | some s =>
        simp only [World.cell?] at hc0
        split at hc0
        · simp at hc0
        · cases hc0
    subst hs
    refine ⟨b, o, rfl, trivial, lt_of_cell hc0, fun h => h.elim, fun i hi j v hv => ?_⟩
    have := (hZ i hi).1 j v hv
    rwa [Addr.add_mid, Addr.add_mid] at this

theorem reach_is : reachBytes = 140737488351232 := rfl
theorem each_le {ts : List TypeId} {xs : List (DataW H × List MemPlace)} (hw : ∀ q, q ∈ DataW.weightsEach Try.prog ts (xs.map (·.1)) → q ≤ reachBytes) {j : Nat} {t : TypeId} {y : DataW H × List MemPlace} (ht : ts[j]? = some t) (hy : xs[j]? = some y) :
    ∀ q, q ∈ y.1.weights Try.prog t → q ≤ reachBytes := fun q hq => hw q (DataW.weights_mem_each ht (by rw [List.getElem?_map, hy]; rfl) q hq)

theorem i64_of {n : Int} (h : (Lit.int .i64 n).wf = true) : i64 n := bounds_i64 h
theorem sum_le : ∀ (n : Nat) (f g : Nat → Nat), (∀ i, i < n → f i ≤ g i) → ((List.range n).map f).sum ≤ ((List.range n).map g).sum
  | 0, _, _, _ => by simp
  | n + 1, f, g, h => by
    rw [List.range_succ, List.map_append, List.map_append, List.sum_append, List.sum_append]
    have := sum_le n f g (fun i hi => h i (by omega))
    have := h n (by omega)
    simp only [List.map_cons, List.map_nil, List.sum_cons, List.sum_nil]
    omega
theorem padded {m n : Nat} (D : Nat → List Value) (h : ∀ i, i < n → (D i).length = m ∧ ∀ u ∈ D i, u.oneCell' = true) : ∃ C : Nat → List Value, (∀ i, (C i).length = m ∧ ∀ u ∈ C i, u.oneCell' = true) ∧ ∀ i, i < n → C i = D i :=
  ⟨fun i => if i < n then D i else List.replicate m (.int .i64 0), fun i => by
    by_cases hi : i < n
    · simp only [if_pos hi]; exact h i hi
    · simp only [if_neg hi]; exact ⟨by simp, fun u hu => by rw [List.eq_of_mem_replicate hu]; rfl⟩, fun i hi => if_pos hi⟩
/-- Where an element's reading is a thing that lies, a slice's is a row of them. -/
theorem open_row {α : Type} (d0 : α) {m by_ : Nat} {L : Ly α} (gd : Good m L) (sz : α → Nat) {t e : TypeId} (ht : Try.prog.underlying t = some (.slice e)) (hm : Try.prog.cellsOf e = m) (hm0 : 0 < m) (hby : Try.prog.bytesOf e = by_)
    (hel : ∀ (fuel : Nat) (cs : List Value) (x : DataW H × List MemPlace), DataW.trod enc Try.prog w base spare held fuel e cs = some x → (∀ q, q ∈ x.1.weights Try.prog e → q ≤ reachBytes) → ∃ a : α, L w A0 a cs ∧ sz a ≤ Rows.uptoBulk x.1)
    {fuel : Nat} {cs : List Value} {x : DataW H × List MemPlace} (h : DataW.trod enc Try.prog w base spare held fuel t cs = some x) (hw : ∀ q, q ∈ x.1.weights Try.prog t → q ≤ reachBytes) :
    ∃ (l : List α) (v : Value), cs = [v] ∧ RL e m by_ L w A0 l v ∧ 1 + (l.map sz).sum ≤ Rows.uptoBulk x.1 := by
  obtain ⟨a, n, c, f', D, X, hf', rfl, hb, hc, htab, hone, hsum⟩ := open_tabU ht hm hm0 h hw
  have h4 : ∀ i, i < n → ∃ z : α, L w A0 z (D i) ∧ sz z ≤ Rows.uptoBulk (X i).1 := fun i hi => by
    obtain ⟨_, htr, hq⟩ := hone i hi
    exact hel f' _ _ htr hq
  obtain ⟨F, hF⟩ := choose_to d0 h4
  obtain ⟨C, hC, hCD⟩ := padded (m := m) (n := n) D (fun i hi => gd.len (hF i hi).1)
  have hlen : ((List.range n).map F).length = n := by simp
  refine ⟨(List.range n).map F, .slice a n c, rfl, ⟨a, c, C, by rw [hlen], by rw [hlen]; exact hc, by rw [hlen, ← hby]; exact hb, hC, ?_, fun i y hy => ?_⟩, ?_⟩
  · rw [hlen]
    exact htab.congr (fun i hi => (hCD i hi).symm)
  · rw [List.getElem?_map] at hy
    by_cases hi : i < n
    · rw [List.getElem?_range hi] at hy
      simp only [Option.map_some, Option.some.injEq] at hy
      subst hy
      rw [hCD i hi]
      exact (hF i hi).1
    · rw [List.getElem?_eq_none (by simp; omega)] at hy
      cases hy
  · have := sum_le n (fun i => sz (F i)) (fun i => Rows.uptoBulk (X i).1) (fun i hi => (hF i hi).2)
    rw [List.map_map]
    exact Nat.le_trans (Nat.add_le_add_left this 1) hsum
theorem open_i {fuel : Nat} {cs : List Value} {x : DataW H × List MemPlace} (h : DataW.trod enc Try.prog w base spare held fuel 3 cs = some x) (_ : ∀ q, q ∈ x.1.weights Try.prog 3 → q ≤ reachBytes) : ∃ a : Int, LI w A0 a cs ∧ (fun _ => 1) a ≤ Rows.uptoBulk x.1 := by
  obtain ⟨k, rfl, rfl, wk⟩ := DataW.trod_int (k := .i64) (by kernel_rfl) h
  exact ⟨k, ⟨rfl, i64_of wk⟩, bulk_one _⟩
theorem sum_one {α : Type} (l : List α) : (l.map fun _ => 1).sum = l.length := by
  induction l with
  | nil => rfl
  | cons a l ih => rw [List.map_cons, List.sum_cons, ih, List.length_cons]; omega
theorem open_is {fuel : Nat} {c : Value} {x : DataW H × List MemPlace} (h : DataW.trod enc Try.prog w base spare held fuel 33 [c] = some x) (hw : ∀ q, q ∈ x.1.weights Try.prog 33 → q ≤ reachBytes) : ∃ l, IL w A0 l c ∧ (itInts l).length ≤ Rows.uptoBulk x.1 := by
  obtain ⟨l, v, he, hl, hs⟩ := open_row 0 goodI (fun _ => 1) (t := 33) (e := 3) (by_ := 8) (by kernel_rfl) (by kernel_rfl) (by decide) (by kernel_rfl) (fun f cs x h hw => open_i h hw) h hw
  simp only [List.cons.injEq, and_true] at he
  subst he
  rw [sum_one] at hs
  exact ⟨l, hl, by simp [itInts]; omega⟩
theorem flat_sum_len {α : Type} (f : α → List It) : ∀ l : List α, (l.flatMap f).length = (l.map fun x => (f x).length).sum
  | [] => rfl
  | x :: l => by rw [List.flatMap_cons, List.length_append, flat_sum_len f l]; rfl
set_option maxRecDepth 100000 in
theorem open_case {fuel : Nat} {cs : List Value} {x : DataW H × List MemPlace} (h : DataW.trod enc Try.prog w base spare held fuel 60 cs = some x) (hw : ∀ q, q ∈ x.1.weights Try.prog 60 → q ≤ reachBytes) : ∃ a : Cs, LC w A0 a cs ∧ (itCase a).length ≤ Rows.uptoBulk x.1 := by
  obtain ⟨xs, n, rfl, rfl, hcl, hxl, hf⟩ := DataW.trod_struct Try.underlying60 h
  have hcln : cs.length = 4 := hcl.trans (by kernel_rfl)
  have hxln : xs.length = 4 := hxl
  match cs, hcln with
  | [c0, c1, c2, c3], _ =>
    match xs, hxln with
    | [y0, y1, y2, y3], _ =>
      have hw' : ∀ q, q ∈ DataW.weightsEach Try.prog [4, 3, 3, 3] ([y0, y1, y2, y3].map (·.1)) → q ≤ reachBytes := fun q hq => hw q (by simpa [DataW.weights, Try.underlying60] using hq)
      have k_bool : Try.prog.cellsOf 4 = 1 := by kernel_rfl
      have k_int : Try.prog.cellsOf 3 = 1 := by kernel_rfl
      have g0 : DataW.trod enc Try.prog w base spare held n 4 [c0] = some y0 := by simpa [k_bool] using hf 0 _ rfl
      have g1 : DataW.trod enc Try.prog w base spare held n 3 [c1] = some y1 := by simpa [k_int] using hf 1 _ rfl
      have g2 : DataW.trod enc Try.prog w base spare held n 3 [c2] = some y2 := by simpa [k_int] using hf 2 _ rfl
      have g3 : DataW.trod enc Try.prog w base spare held n 3 [c3] = some y3 := by simpa [k_int] using hf 3 _ rfl
      obtain ⟨n0, e0, rfl⟩ := DataW.trod_bool (by kernel_rfl) g0
      obtain ⟨n1, e1, rfl, w1⟩ := DataW.trod_int (k := .i64) (by kernel_rfl) g1
      obtain ⟨n2, e2, rfl, w2⟩ := DataW.trod_int (k := .i64) (by kernel_rfl) g2
      obtain ⟨n3, e3, rfl, w3⟩ := DataW.trod_int (k := .i64) (by kernel_rfl) g3
      simp only [List.cons.injEq, and_true] at e0
      subst e0
      simp only [List.cons.injEq, and_true] at e1
      subst e1
      simp only [List.cons.injEq, and_true] at e2
      subst e2
      simp only [List.cons.injEq, and_true] at e3
      subst e3
      refine ⟨⟨n0, n1, n2, n3⟩, ⟨rfl, i64_of w1, i64_of w2, i64_of w3⟩, ?_⟩
      show _ ≤ Rows.uptoBulk (DataW.agg _)
      simp only [List.map_cons, List.map_nil, Rows.uptoBulk, Rows.uptoBulkAll]
      simp [itCase]
set_option maxRecDepth 100000 in
theorem open_in {fuel : Nat} {cs : List Value} {x : DataW H × List MemPlace} (h : DataW.trod enc Try.prog w base spare held fuel 58 cs = some x) (hw : ∀ q, q ∈ x.1.weights Try.prog 58 → q ≤ reachBytes) : ∃ a : Ins, LN w A0 a cs ∧ (itIns a).length ≤ Rows.uptoBulk x.1 := by
  obtain ⟨xs, n, rfl, rfl, hcl, hxl, hf⟩ := DataW.trod_struct Try.underlying58 h
  have hcln : cs.length = 5 := hcl.trans (by kernel_rfl)
  have hxln : xs.length = 5 := hxl
  match cs, hcln with
  | [c0, c1, c2, c3, c4], _ =>
    match xs, hxln with
    | [y0, y1, y2, y3, y4], _ =>
      have hw' : ∀ q, q ∈ DataW.weightsEach Try.prog [3, 3, 3, 55, 56] ([y0, y1, y2, y3, y4].map (·.1)) → q ≤ reachBytes := fun q hq => hw q (by simpa [DataW.weights, Try.underlying58] using hq)
      have k_apiCase : Try.prog.cellsOf 56 = 1 := by kernel_rfl
      have k_int : Try.prog.cellsOf 3 = 1 := by kernel_rfl
      have k_uint64 : Try.prog.cellsOf 55 = 1 := by kernel_rfl
      have g0 : DataW.trod enc Try.prog w base spare held n 3 [c0] = some y0 := by simpa [k_int] using hf 0 _ rfl
      have g1 : DataW.trod enc Try.prog w base spare held n 3 [c1] = some y1 := by simpa [k_int] using hf 1 _ rfl
      have g2 : DataW.trod enc Try.prog w base spare held n 3 [c2] = some y2 := by simpa [k_int] using hf 2 _ rfl
      have g3 : DataW.trod enc Try.prog w base spare held n 55 [c3] = some y3 := by simpa [k_uint64] using hf 3 _ rfl
      have g4 : DataW.trod enc Try.prog w base spare held n 56 [c4] = some y4 := by simpa [k_apiCase] using hf 4 _ rfl
      obtain ⟨n0, e0, rfl, w0⟩ := DataW.trod_int (k := .i64) (by kernel_rfl) g0
      obtain ⟨n1, e1, rfl, w1⟩ := DataW.trod_int (k := .i64) (by kernel_rfl) g1
      obtain ⟨n2, e2, rfl, w2⟩ := DataW.trod_int (k := .i64) (by kernel_rfl) g2
      obtain ⟨n3, e3, rfl, w3⟩ := DataW.trod_int (k := .u64) (by kernel_rfl) g3
      obtain ⟨n4, v4, e4, h4, b4⟩ := open_row ⟨false, 0, 0, 0⟩ goodC (fun a => (itCase a).length) (t := 56) (e := 60) (by_ := 32) (by kernel_rfl) (by kernel_rfl) (by decide) (by kernel_rfl) (fun f cs x h hw => open_case h hw) g4 (each_le hw' (j := 4) (y := y4) rfl rfl)
      simp only [List.cons.injEq, and_true] at e0
      subst e0
      simp only [List.cons.injEq, and_true] at e1
      subst e1
      simp only [List.cons.injEq, and_true] at e2
      subst e2
      simp only [List.cons.injEq, and_true] at e3
      subst e3
      simp only [List.cons.injEq, and_true] at e4
      subst e4
      refine ⟨⟨n0, n1, n2, n3, n4⟩, ⟨_, rfl, h4, i64_of w0, i64_of w1, i64_of w2, (bounds_u64 w3).1, (bounds_u64 w3).2⟩, ?_⟩
      show _ ≤ Rows.uptoBulk (DataW.agg _)
      simp only [List.map_cons, List.map_nil, Rows.uptoBulk, Rows.uptoBulkAll]
      simp [itIns]; omega
set_option maxRecDepth 100000 in
theorem open_sh {fuel : Nat} {cs : List Value} {x : DataW H × List MemPlace} (h : DataW.trod enc Try.prog w base spare held fuel 45 cs = some x) (hw : ∀ q, q ∈ x.1.weights Try.prog 45 → q ≤ reachBytes) : ∃ a : Sh, LS w A0 a cs ∧ (itSh a).length ≤ Rows.uptoBulk x.1 := by
  obtain ⟨xs, n, rfl, rfl, hcl, hxl, hf⟩ := DataW.trod_struct Try.underlying45 h
  have hcln : cs.length = 3 := hcl.trans (by kernel_rfl)
  have hxln : xs.length = 3 := hxl
  match cs, hcln with
  | [c0, c1, c2], _ =>
    match xs, hxln with
    | [y0, y1, y2], _ =>
      have hw' : ∀ q, q ∈ DataW.weightsEach Try.prog [3, 33, 3] ([y0, y1, y2].map (·.1)) → q ≤ reachBytes := fun q hq => hw q (by simpa [DataW.weights, Try.underlying45] using hq)
      have kr_int : Try.prog.cellsOf 33 = 1 := by kernel_rfl
      have k_int : Try.prog.cellsOf 3 = 1 := by kernel_rfl
      have g0 : DataW.trod enc Try.prog w base spare held n 3 [c0] = some y0 := by simpa [k_int] using hf 0 _ rfl
      have g1 : DataW.trod enc Try.prog w base spare held n 33 [c1] = some y1 := by simpa [kr_int] using hf 1 _ rfl
      have g2 : DataW.trod enc Try.prog w base spare held n 3 [c2] = some y2 := by simpa [k_int] using hf 2 _ rfl
      obtain ⟨n0, e0, rfl, w0⟩ := DataW.trod_int (k := .i64) (by kernel_rfl) g0
      obtain ⟨n1, h1, b1⟩ := open_is g1 (each_le hw' (j := 1) (y := y1) rfl rfl)
      obtain ⟨n2, e2, rfl, w2⟩ := DataW.trod_int (k := .i64) (by kernel_rfl) g2
      simp only [List.cons.injEq, and_true] at e0
      subst e0
      simp only [List.cons.injEq, and_true] at e2
      subst e2
      refine ⟨⟨n0, n1, n2⟩, ⟨_, rfl, h1, i64_of w0, i64_of w2⟩, ?_⟩
      show _ ≤ Rows.uptoBulk (DataW.agg _)
      simp only [List.map_cons, List.map_nil, Rows.uptoBulk, Rows.uptoBulkAll]
      simp [itSh]; omega
set_option maxRecDepth 100000 in
theorem open_fu {fuel : Nat} {cs : List Value} {x : DataW H × List MemPlace} (h : DataW.trod enc Try.prog w base spare held fuel 51 cs = some x) (hw : ∀ q, q ∈ x.1.weights Try.prog 51 → q ≤ reachBytes) : ∃ a : Fu, LF w A0 a cs ∧ (itFu a).length ≤ Rows.uptoBulk x.1 := by
  obtain ⟨xs, n, rfl, rfl, hcl, hxl, hf⟩ := DataW.trod_struct Try.underlying51 h
  have hcln : cs.length = 5 := hcl.trans (by kernel_rfl)
  have hxln : xs.length = 5 := hxl
  match cs, hcln with
  | [c0, c1, c2, c3, c4], _ =>
    match xs, hxln with
    | [y0, y1, y2, y3, y4], _ =>
      have hw' : ∀ q, q ∈ DataW.weightsEach Try.prog [3, 33, 33, 3, 49] ([y0, y1, y2, y3, y4].map (·.1)) → q ≤ reachBytes := fun q hq => hw q (by simpa [DataW.weights, Try.underlying51] using hq)
      have k_apiInstr : Try.prog.cellsOf 49 = 1 := by kernel_rfl
      have kr_int : Try.prog.cellsOf 33 = 1 := by kernel_rfl
      have k_int : Try.prog.cellsOf 3 = 1 := by kernel_rfl
      have g0 : DataW.trod enc Try.prog w base spare held n 3 [c0] = some y0 := by simpa [k_int] using hf 0 _ rfl
      have g1 : DataW.trod enc Try.prog w base spare held n 33 [c1] = some y1 := by simpa [kr_int] using hf 1 _ rfl
      have g2 : DataW.trod enc Try.prog w base spare held n 33 [c2] = some y2 := by simpa [kr_int] using hf 2 _ rfl
      have g3 : DataW.trod enc Try.prog w base spare held n 3 [c3] = some y3 := by simpa [k_int] using hf 3 _ rfl
      have g4 : DataW.trod enc Try.prog w base spare held n 49 [c4] = some y4 := by simpa [k_apiInstr] using hf 4 _ rfl
      obtain ⟨n0, e0, rfl, w0⟩ := DataW.trod_int (k := .i64) (by kernel_rfl) g0
      obtain ⟨n1, h1, b1⟩ := open_is g1 (each_le hw' (j := 1) (y := y1) rfl rfl)
      obtain ⟨n2, h2, b2⟩ := open_is g2 (each_le hw' (j := 2) (y := y2) rfl rfl)
      obtain ⟨n3, e3, rfl, w3⟩ := DataW.trod_int (k := .i64) (by kernel_rfl) g3
      obtain ⟨n4, v4, e4, h4, b4⟩ := open_row ⟨0, 0, 0, 0, []⟩ goodN (fun a => (itIns a).length) (t := 49) (e := 58) (by_ := 56) (by kernel_rfl) (by kernel_rfl) (by decide) (by kernel_rfl) (fun f cs x h hw => open_in h hw) g4 (each_le hw' (j := 4) (y := y4) rfl rfl)
      simp only [List.cons.injEq, and_true] at e0
      subst e0
      simp only [List.cons.injEq, and_true] at e3
      subst e3
      simp only [List.cons.injEq, and_true] at e4
      subst e4
      refine ⟨⟨n0, n1, n2, n3, n4⟩, ⟨_, _, _, rfl, h1, h2, h4, i64_of w0, i64_of w3⟩, ?_⟩
      show _ ≤ Rows.uptoBulk (DataW.agg _)
      simp only [List.map_cons, List.map_nil, Rows.uptoBulk, Rows.uptoBulkAll]
      simp [itFu]; omega
set_option maxRecDepth 100000 in
theorem open_mo {fuel : Nat} {cs : List Value} {x : DataW H × List MemPlace} (h : DataW.trod enc Try.prog w base spare held fuel 25 cs = some x) (hw : ∀ q, q ∈ x.1.weights Try.prog 25 → q ≤ reachBytes) : ∃ a : Mo, LM w A0 a cs ∧ (itMo a).length ≤ Rows.uptoBulk x.1 := by
  obtain ⟨xs, n, rfl, rfl, hcl, hxl, hf⟩ := DataW.trod_struct Try.underlying25 h
  have hcln : cs.length = 2 := hcl.trans (by kernel_rfl)
  have hxln : xs.length = 2 := hxl
  match cs, hcln with
  | [c0, c1], _ =>
    match xs, hxln with
    | [y0, y1], _ =>
      have hw' : ∀ q, q ∈ DataW.weightsEach Try.prog [22, 23] ([y0, y1].map (·.1)) → q ≤ reachBytes := fun q hq => hw q (by simpa [DataW.weights, Try.underlying25] using hq)
      have k_apiFunc : Try.prog.cellsOf 23 = 1 := by kernel_rfl
      have k_apiShape : Try.prog.cellsOf 22 = 1 := by kernel_rfl
      have g0 : DataW.trod enc Try.prog w base spare held n 22 [c0] = some y0 := by simpa [k_apiShape] using hf 0 _ rfl
      have g1 : DataW.trod enc Try.prog w base spare held n 23 [c1] = some y1 := by simpa [k_apiFunc] using hf 1 _ rfl
      obtain ⟨n0, v0, e0, h0, b0⟩ := open_row ⟨0, [], 0⟩ goodS (fun a => (itSh a).length) (t := 22) (e := 45) (by_ := 40) (by kernel_rfl) (by kernel_rfl) (by decide) (by kernel_rfl) (fun f cs x h hw => open_sh h hw) g0 (each_le hw' (j := 0) (y := y0) rfl rfl)
      obtain ⟨n1, v1, e1, h1, b1⟩ := open_row ⟨0, [], [], 0, []⟩ goodF (fun a => (itFu a).length) (t := 23) (e := 51) (by_ := 88) (by kernel_rfl) (by kernel_rfl) (by decide) (by kernel_rfl) (fun f cs x h hw => open_fu h hw) g1 (each_le hw' (j := 1) (y := y1) rfl rfl)
      simp only [List.cons.injEq, and_true] at e0
      subst e0
      simp only [List.cons.injEq, and_true] at e1
      subst e1
      refine ⟨⟨n0, n1⟩, ⟨_, _, rfl, h0, h1⟩, ?_⟩
      show _ ≤ Rows.uptoBulk (DataW.agg _)
      simp only [List.map_cons, List.map_nil, Rows.uptoBulk, Rows.uptoBulkAll]
      simp [itMo]; omega
set_option maxRecDepth 100000 in
theorem open_b {fuel : Nat} {cs : List Value} {x : DataW H × List MemPlace} (h : DataW.trod enc Try.prog w base spare held fuel 5 cs = some x) (_ : ∀ q, q ∈ x.1.weights Try.prog 5 → q ≤ reachBytes) : ∃ a : UInt8, LB w A0 a cs ∧ (fun _ => 1) a ≤ Rows.uptoBulk x.1 := by
  obtain ⟨k, rfl, rfl, wk⟩ := DataW.trod_int (k := .u8) (by kernel_rfl) h
  have hk : 0 ≤ k ∧ k ≤ 255 := bounds_u8 wk
  refine ⟨UInt8.ofNat k.toNat, ?_, bulk_one _⟩
  show _ = _
  rw [show ((UInt8.ofNat k.toNat).toNat : Int) = k by simp; omega]
set_option maxRecDepth 100000 in
theorem open_bytes {r : Reach} {b0 : Nat} {v : Value} {d : DataW H} {ps : List MemPlace} (hval : Value.okWide Try.prog w r b0 37 v) (hd : DataW.Trod enc Try.prog w base spare held 37 v d ps) (hw : ∀ q, q ∈ d.weights Try.prog 37 → q ≤ reachBytes) :
    ∃ l : List UInt8, BL w A0 l v ∧ l.length + 1 ≤ Rows.uptoBulk d := by
  obtain ⟨a, n, c, rfl⟩ := okWide_slice Try.underlying37 hval
  obtain ⟨fuel, hf⟩ := hd
  have hf' : DataW.trod enc Try.prog w base spare held fuel 37 [.slice a n c] = some (d, ps) := hf
  obtain ⟨l, u, he, hl, hs⟩ := open_row 0 goodB (fun _ => 1) (t := 37) (e := 5) (by_ := 1) (by kernel_rfl) (by kernel_rfl) (by decide) (by kernel_rfl) (fun f cs x h hw => open_b h hw) hf' hw
  simp only [List.cons.injEq, and_true] at he
  subst he
  rw [sum_one] at hs
  have hs' : 1 + l.length ≤ Rows.uptoBulk d := hs
  exact ⟨l, hl, by omega⟩
end
end Go.Proofs.Ytkkcoaecidjecaa
