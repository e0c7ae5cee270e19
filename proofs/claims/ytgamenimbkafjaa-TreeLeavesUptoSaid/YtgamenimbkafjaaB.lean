/- An argument of type api.Node reads as a node that lies in memory. No condition but the form's own: each string and each slice takes at most 2 to the 47 less 4096 bytes. -/
import Derived.Test.YtgamenimbkafjaaChecked
import Derived.Test.YtgamenimbkafjaaT1
import Derived.SizedLaws
import Derived.ChangeArms
import Derived.Deep.Slices
import Derived.DataReads
import Derived.OpenShut
namespace Go.Proofs.Ytgamenimbkafjaa
open Go.RowKit Go.Deep Go.WideShapes Go.ChangeShapes
set_option linter.unusedVariables false
set_option linter.unusedSimpArgs false

theorem choose_to {α : Type} (d : α) {n : Nat} {p : Nat → α → Prop} (h : ∀ i, i < n → ∃ x, p i x) : ∃ f : Nat → α, ∀ i, i < n → p i (f i) := by
  classical
  exact ⟨fun i => if hi : i < n then Classical.choose (h i hi) else d, fun i hi => by simp only [dif_pos hi]; exact Classical.choose_spec (h i hi)⟩
section
variable {H : Type} {enc : TypeId × Value → H} {w : World} {base : Nat} {spare : Nat → Bool} {held : Bool}
theorem open_tab {t e : TypeId} {m fuel : Nat} {cs : List Value} {x : DataW H × List MemPlace} (ht : Try.prog.underlying t = some (.slice e)) (hm : Try.prog.cellsOf e = m) (hm0 : 0 < m)
    (h : DataW.trod enc Try.prog w base spare held fuel t cs = some x) (hw : ∀ q, q ∈ x.1.weights Try.prog t → q ≤ reachBytes) :
    ∃ (a : Option Addr) (n c fuel' : Nat) (D : Nat → List Value) (X : Nat → DataW H × List MemPlace), fuel' < fuel ∧ cs = [.slice a n c] ∧ n * Try.prog.bytesOf e ≤ reachBytes ∧ n ≤ c ∧ tab w A0 e a n c m D ∧
      ∀ i, i < n → (D i).length = m ∧ DataW.trod enc Try.prog w base spare held fuel' e (D i) = some (X i) ∧ ∀ q, q ∈ (X i).1.weights Try.prog e → q ≤ reachBytes := by
  rcases DataW.trod_slice ht h with ⟨rfl, rfl⟩ | ⟨a, n, c, elems, rest, f, rfl, rfl, rfl, hb, hl, hc, hlen, hel, _, _⟩
  · obtain ⟨f, rfl⟩ : ∃ f, fuel = f + 1 := by
      cases fuel with
      | zero => simp [DataW.trod] at h
      | succ f => exact ⟨f, rfl⟩
    exact ⟨none, 0, 0, f, fun _ => [], fun _ => (.nil, []), by omega, rfl, by omega, Nat.le_refl _, tab_nil _ _ _ _ _, fun i hi => absurd hi (by omega)⟩
  · have hw0 : (elems.length + rest.length) * Try.prog.bytesOf e ≤ reachBytes := hw _ (by simp [DataW.weights, ht])
    have hn : n * Try.prog.bytesOf e ≤ reachBytes := Nat.le_trans (Nat.mul_le_mul_right _ (by omega)) hw0
    have hwe : ∀ (i : Nat) (y : DataW H × List MemPlace), elems[i]? = some y → ∀ q, q ∈ y.1.weights Try.prog e → q ≤ reachBytes := fun i y hy q hq => by
      refine hw q ?_
      simp only [DataW.weights, ht, List.mem_cons, List.mem_append]
      refine .inr (.inl ?_)
      have hmem : ∀ (l : List (DataW H × List MemPlace)) (i : Nat), l[i]? = some y → q ∈ DataW.weightsAll Try.prog e (l.map (·.1)) := by
        intro l
        induction l with
        | nil => intro i hi; simp at hi
        | cons z l ih =>
          intro i hi
          simp only [List.map_cons, DataW.weightsAll, List.mem_append]
          cases i with
          | zero => simp at hi; subst hi; exact .inl hq
          | succ i => exact .inr (ih i (by simpa using hi))
      exact hmem elems i hy
    have hone : ∀ i, i < n → ∃ z : List Value × (DataW H × List MemPlace), (∀ j v, z.1[j]? = some v → w.cell? ((a.add (i * m)).add j) = some v) ∧ z.1.length = m ∧ DataW.trod enc Try.prog w base spare held f e z.1 = some z.2 ∧ ∀ q, q ∈ z.2.1.weights Try.prog e → q ≤ reachBytes := by
      intro i hi
      have he := hel i hi
      rw [hm] at he
      have hsome : elems[i]? = some (elems[i]'(by omega)) := List.getElem?_eq_getElem (by omega)
      rw [hsome] at he
      obtain ⟨cs', hcs, htr⟩ := Option.bind_eq_some_iff.1 he
      obtain ⟨_, hcl, hat⟩ := World.cells?_some hcs
      refine ⟨(cs', elems[i]'(by omega)), fun j v hv => ?_, hcl, htr, hwe i _ hsome⟩
      have hj : j < cs'.length := (List.getElem?_eq_some_iff.1 hv).1
      rw [hat j (by omega)]
      exact hv
    obtain ⟨Z, hZ⟩ := choose_to ([], (.nil, [])) hone
    refine ⟨some a, n, c, f, fun i => (Z i).1, fun i => (Z i).2, by omega, rfl, hn, by omega, ⟨fun h => (by cases h), fun hn0 => ?_⟩, fun i hi => (hZ i hi).2⟩
    have h0 := (hZ 0 hn0).1
    have hl0 := (hZ 0 hn0).2.1
    have hc0 : w.cell? a = some ((Z 0).1[0]'(by omega)) := by
      have := h0 0 _ (List.getElem?_eq_getElem (by omega))
      simpa [Addr.add] using this
    obtain ⟨b, o, s⟩ := a
    have hs : s = none := by
      cases s with
      | none => rfl
      | some s =>
        simp only [World.cell?] at hc0
        split at hc0
        · simp at hc0
        · cases hc0
    subst hs
    refine ⟨b, o, rfl, trivial, lt_of_cell hc0, fun h => h.elim, fun i hi j v hv => ?_⟩
    have := (hZ i hi).1 j v hv
    rwa [Addr.add_mid, Addr.add_mid] at this

theorem reach_is : reachBytes = 140737488351232 := rfl
theorem each_le {ts : List TypeId} {xs : List (DataW H × List MemPlace)} (hw : ∀ q, q ∈ DataW.weightsEach Try.prog ts (xs.map (·.1)) → q ≤ reachBytes) {j : Nat} {t : TypeId} {y : DataW H × List MemPlace} (ht : ts[j]? = some t) (hy : xs[j]? = some y) :
    ∀ q, q ∈ y.1.weights Try.prog t → q ≤ reachBytes := fun q hq => hw q (DataW.weights_mem_each ht (by rw [List.getElem?_map, hy]; rfl) q hq)

theorem open_nd : ∀ (fuel : Nat) (cs : List Value) (x : DataW H × List MemPlace), DataW.trod enc Try.prog w base spare held fuel 25 cs = some x → (∀ q, q ∈ x.1.weights Try.prog 25 → q ≤ reachBytes) →
    ∃ (T : Nd) (h : Hn), cs = h.cells ∧ Lies w A0 fuel T h := by
  intro fuel
  induction fuel using Nat.strongRecOn with
  | ind fuel ih =>
    intro cs x h hw
    obtain ⟨xs, n, rfl, rfl, hcl, hxl, hf⟩ := DataW.trod_struct Try.underlying25 h
    have hcl5 : cs.length = 5 := hcl.trans (by kernel_rfl)
    have hxl5 : xs.length = 5 := hxl
    match cs, hcl5 with
    | [c0, c1, c2, c3, c4], _ =>
      match xs, hxl5 with
      | [y0, y1, y2, y3, y4], _ =>
        have hw' : ∀ q, q ∈ DataW.weightsEach Try.prog [3, 9, 22, 3, 23] ([y0, y1, y2, y3, y4].map (·.1)) → q ≤ reachBytes := fun q hq => hw q (by simpa [DataW.weights, Try.underlying25] using hq)
        have k3 : Try.prog.cellsOf 3 = 1 := by kernel_rfl
        have k9 : Try.prog.cellsOf 9 = 1 := by kernel_rfl
        have k22 : Try.prog.cellsOf 22 = 1 := by kernel_rfl
        have k23 : Try.prog.cellsOf 23 = 1 := by kernel_rfl
        have g0 : DataW.trod enc Try.prog w base spare held n 3 [c0] = some y0 := by simpa [k3] using hf 0 _ rfl
        have g1 : DataW.trod enc Try.prog w base spare held n 9 [c1] = some y1 := by simpa [k9] using hf 1 _ rfl
        have g2 : DataW.trod enc Try.prog w base spare held n 22 [c2] = some y2 := by simpa [k22] using hf 2 _ rfl
        have g3 : DataW.trod enc Try.prog w base spare held n 3 [c3] = some y3 := by simpa [k3] using hf 3 _ rfl
        have g4 : DataW.trod enc Try.prog w base spare held n 23 [c4] = some y4 := by simpa [k23] using hf 4 _ rfl
        obtain ⟨k, hk, _, wk⟩ := DataW.trod_int (k := .i64) (by kernel_rfl) g0
        obtain ⟨tx, htx, hxtx, _⟩ := DataW.trod_string (by kernel_rfl) g1
        obtain ⟨nn, hnn, _, wn⟩ := DataW.trod_int (k := .u64) (by kernel_rfl) g2
        obtain ⟨at_, hat, _, wa⟩ := DataW.trod_int (k := .i64) (by kernel_rfl) g3
        have wt : tx.size ≤ reachBytes := each_le hw' (j := 1) (y := y1) rfl rfl tx.size (by rw [hxtx]; simp [DataW.weights])
        obtain ⟨la, ll, lc, f4, D4, X4, hf4, hs4, hb4, hc4, ht4, he4⟩ := open_tab (t := 23) (e := 25) (m := 5) (by kernel_rfl) (by kernel_rfl) (by decide) g4 (each_le hw' (j := 4) (y := y4) rfl rfl)
        have h4 : ∀ i, i < ll → ∃ z : Nd × Hn, D4 i = z.2.cells ∧ Lies w A0 n z.1 z.2 := by
          intro i hi
          obtain ⟨_, htr, hq⟩ := he4 i hi
          obtain ⟨T, hd, hcs, hli⟩ := ih f4 (by omega) _ _ htr hq
          exact ⟨(T, hd), hcs, hli.mono (by omega)⟩
        have d0 : Hn := ⟨0, .empty, 0, 0, none, 0, 0⟩
        have t0 : Nd := .mk 0 .empty 0 0 []
        obtain ⟨F4, hF4⟩ := choose_to (t0, d0) h4
        refine ⟨.mk k tx nn at_ ((List.range ll).map fun i => (F4 i).1), ⟨k, tx, nn, at_, la, ll, lc⟩, ?_, fun i => (F4 i).2, ?_, ?_⟩
        · simp only [List.cons.injEq] at hk htx hnn hat hs4
          simp only [Hn.cells]
          rw [hk.1, htx.1, hnn.1, hat.1, hs4.1]
        · have b25 : Try.prog.bytesOf 25 = 64 := by kernel_rfl
          rw [b25] at hb4
          have bk := bounds_i64 wk
          have ba := bounds_i64 wa
          have bn := bounds_u64 wn
          refine ⟨rfl, rfl, rfl, rfl, by simp [Nd.kids], by simp only; omega, by simp only; omega, by simp only; omega, wt, hb4, hc4, ?_⟩
          refine ht4.congr fun i hi => ?_
          rw [(hF4 i hi).1]
        · intro i X hX
          simp only [Nd.kids, List.getElem?_map] at hX
          by_cases hi : i < ll
          · rw [List.getElem?_range hi] at hX
            simp only [Option.map_some, Option.some.injEq] at hX
            subst hX
            exact (hF4 i hi).2
          · rw [List.getElem?_eq_none (by simp; omega)] at hX
            cases hX
end
end Go.Proofs.Ytgamenimbkafjaa
