/- An argument of type api.Type reads as a type that lies in memory; likewise a slice of such, and a slice of texts. No condition but the form's own: each string and each slice takes at most 2 to the 47 less 4096 bytes. -/
import Derived.Test.YtfjflfokmihcpaaChecked
import Derived.Test.YtfjflfokmihcpaaT0
import Derived.SizedLaws
import Derived.ChangeArms
import Derived.Deep.Slices
import Derived.DataReads
import Derived.OpenShut
namespace Go.Proofs.Ytfjflfokmihcpaa
open Go.RowKit Go.Deep Go.WideShapes Go.ChangeShapes
set_option linter.unusedVariables false
set_option linter.unusedSimpArgs false

theorem choose_to {α : Type} (d : α) {n : Nat} {p : Nat → α → Prop} (h : ∀ i, i < n → ∃ x, p i x) : ∃ f : Nat → α, ∀ i, i < n → p i (f i) := by
  classical
  exact ⟨fun i => if hi : i < n then Classical.choose (h i hi) else d, fun i hi => by simp only [dif_pos hi]; exact Classical.choose_spec (h i hi)⟩
section
variable {H : Type} {enc : TypeId × Value → H} {w : World} {base : Nat} {spare : Nat → Bool} {held : Bool}
theorem open_tab {t e : TypeId} {m fuel : Nat} {cs : List Value} {x : DataW H × List MemPlace} (ht : Try.prog.underlying t = some (.slice e)) (hm : Try.prog.cellsOf e = m) (hm0 : 0 < m)
    (h : DataW.trod enc Try.prog w base spare held fuel t cs = some x) (hw : ∀ q, q ∈ x.1.weights Try.prog t → q ≤ reachBytes) :
    ∃ (a : Option Addr) (n c fuel' : Nat) (D : Nat → List Value) (X : Nat → DataW H × List MemPlace), fuel' < fuel ∧ cs = [.slice a n c] ∧ n * Try.prog.bytesOf e ≤ reachBytes ∧ tab w A0 e a n c m D ∧
      ∀ i, i < n → (D i).length = m ∧ DataW.trod enc Try.prog w base spare held fuel' e (D i) = some (X i) ∧ ∀ q, q ∈ (X i).1.weights Try.prog e → q ≤ reachBytes := by
  rcases DataW.trod_slice ht h with ⟨rfl, rfl⟩ | ⟨a, n, c, elems, rest, f, rfl, rfl, rfl, hb, hl, hc, hlen, hel, _, _⟩
  · obtain ⟨f, rfl⟩ : ∃ f, fuel = f + 1 := by
      cases fuel with
      | zero => simp [DataW.trod] at h
      | succ f => exact ⟨f, rfl⟩
    exact ⟨none, 0, 0, f, fun _ => [], fun _ => (.nil, []), by omega, rfl, by omega, tab_nil _ _ _ _ _, fun i hi => absurd hi (by omega)⟩
  · have hw0 : (elems.length + rest.length) * Try.prog.bytesOf e ≤ reachBytes := hw _ (by simp [DataW.weights, ht])
    have hn : n * Try.prog.bytesOf e ≤ reachBytes := Nat.le_trans (Nat.mul_le_mul_right _ (by omega)) hw0
    have hwe : ∀ (i : Nat) (y : DataW H × List MemPlace), elems[i]? = some y → ∀ q, q ∈ y.1.weights Try.prog e → q ≤ reachBytes := fun i y hy q hq => by
      refine hw q ?_
      simp only [DataW.weights, ht, List.mem_cons, List.mem_append]
      refine .inr (.inl ?_)
      have hmem : ∀ (l : List (DataW H × List MemPlace)) (i : Nat), l[i]? = some y → q ∈ DataW.weightsAll Try.prog e (l.map (·.1)) := by
        intro l
        induction l with
        | nil => intro i hi; simp at hi
        | cons z l ih =>
          intro i hi
          simp only [List.map_cons, DataW.weightsAll, List.mem_append]
          cases i with
          | zero => simp at hi; subst hi; exact .inl hq
          | succ i => exact .inr (ih i (by simpa using hi))
      exact hmem elems i hy
    have hone : ∀ i, i < n → ∃ z : List Value × (DataW H × List MemPlace), (∀ j v, z.1[j]? = some v → w.cell? ((a.add (i * m)).add j) = some v) ∧ z.1.length = m ∧ DataW.trod enc Try.prog w base spare held f e z.1 = some z.2 ∧ ∀ q, q ∈ z.2.1.weights Try.prog e → q ≤ reachBytes := by
      intro i hi
      have he := hel i hi
      rw [hm] at he
      have hsome : elems[i]? = some (elems[i]'(by omega)) := List.getElem?_eq_getElem (by omega)
      rw [hsome] at he
      obtain ⟨cs', hcs, htr⟩ := Option.bind_eq_some_iff.1 he
      obtain ⟨_, hcl, hat⟩ := World.cells?_some hcs
      refine ⟨(cs', elems[i]'(by omega)), fun j v hv => ?_, hcl, htr, hwe i _ hsome⟩
      have hj : j < cs'.length := (List.getElem?_eq_some_iff.1 hv).1
      rw [hat j (by omega)]
      exact hv
    obtain ⟨Z, hZ⟩ := choose_to ([], (.nil, [])) hone
    refine ⟨some a, n, c, f, fun i => (Z i).1, fun i => (Z i).2, by omega, rfl, hn, ⟨fun h => (by cases h), fun hn0 => ?_⟩, fun i hi => (hZ i hi).2⟩
    have h0 := (hZ 0 hn0).1
    have hl0 := (hZ 0 hn0).2.1
    have hc0 : w.cell? a = some ((Z 0).1[0]'(by omega)) := by
      have := h0 0 _ (List.getElem?_eq_getElem (by omega))
      simpa [Addr.add] using this
    obtain ⟨b, o, s⟩ := a
    have hs : s = none := by
      cases s with
      | none => rfl
      | some s =>
        simp only [World.cell?] at hc0
        split at hc0
        · simp at hc0
        · cases hc0
    subst hs
    refine ⟨b, o, rfl, trivial, lt_of_cell hc0, fun h => h.elim, fun i hi j v hv => ?_⟩
    have := (hZ i hi).1 j v hv
    rwa [Addr.add_mid, Addr.add_mid] at this

theorem reach_is : reachBytes = 140737488351232 := rfl
theorem each_le {ts : List TypeId} {xs : List (DataW H × List MemPlace)} (hw : ∀ q, q ∈ DataW.weightsEach Try.prog ts (xs.map (·.1)) → q ≤ reachBytes) {j : Nat} {t : TypeId} {y : DataW H × List MemPlace} (ht : ts[j]? = some t) (hy : xs[j]? = some y) :
    ∀ q, q ∈ y.1.weights Try.prog t → q ≤ reachBytes := fun q hq => hw q (DataW.weights_mem_each ht (by rw [List.getElem?_map, hy]; rfl) q hq)

theorem open_ty : ∀ (fuel : Nat) (cs : List Value) (x : DataW H × List MemPlace), DataW.trod enc Try.prog w base spare held fuel 42 cs = some x → (∀ q, q ∈ x.1.weights Try.prog 42 → q ≤ reachBytes) →
    ∃ (T : Ty) (h : Hd), cs = h.cells ∧ Lies w A0 fuel T h := by
  intro fuel
  induction fuel using Nat.strongRecOn with
  | ind fuel ih =>
    intro cs x h hw
    obtain ⟨xs, n, rfl, rfl, hcl, hxl, hf⟩ := DataW.trod_struct Try.underlying42 h
    have hcl6 : cs.length = 6 := hcl.trans (by kernel_rfl)
    have hxl6 : xs.length = 6 := hxl
    match cs, hcl6 with
    | [c0, c1, c2, c3, c4, c5], _ =>
      match xs, hxl6 with
      | [y0, y1, y2, y3, y4, y5], _ =>
        have hw' : ∀ q, q ∈ DataW.weightsEach Try.prog [3, 9, 3, 40, 23, 23] ([y0, y1, y2, y3, y4, y5].map (·.1)) → q ≤ reachBytes := fun q hq => hw q (by simpa [DataW.weights, Try.underlying42] using hq)
        have k3 : Try.prog.cellsOf 3 = 1 := by kernel_rfl
        have k9 : Try.prog.cellsOf 9 = 1 := by kernel_rfl
        have k22 : Try.prog.cellsOf 40 = 1 := by kernel_rfl
        have k23 : Try.prog.cellsOf 23 = 1 := by kernel_rfl
        have g0 : DataW.trod enc Try.prog w base spare held n 3 [c0] = some y0 := by simpa [k3] using hf 0 _ rfl
        have g1 : DataW.trod enc Try.prog w base spare held n 9 [c1] = some y1 := by simpa [k9] using hf 1 _ rfl
        have g2 : DataW.trod enc Try.prog w base spare held n 3 [c2] = some y2 := by simpa [k3] using hf 2 _ rfl
        have g3 : DataW.trod enc Try.prog w base spare held n 40 [c3] = some y3 := by simpa [k22] using hf 3 _ rfl
        have g4 : DataW.trod enc Try.prog w base spare held n 23 [c4] = some y4 := by simpa [k23] using hf 4 _ rfl
        have g5 : DataW.trod enc Try.prog w base spare held n 23 [c5] = some y5 := by simpa [k23] using hf 5 _ rfl
        obtain ⟨k, hk, _, wk⟩ := DataW.trod_int (k := .i64) (by kernel_rfl) g0
        obtain ⟨nm, hnm, hxnm, _⟩ := DataW.trod_string (by kernel_rfl) g1
        obtain ⟨con, hcon, _, wc⟩ := DataW.trod_int (k := .i64) (by kernel_rfl) g2
        have wn : nm.size ≤ reachBytes := each_le hw' (j := 1) (y := y1) rfl rfl nm.size (by rw [hxnm]; simp [DataW.weights])
        obtain ⟨fa, fl, fc, f3, D3, X3, hf3, hs3, hb3, ht3, he3⟩ := open_tab (t := 40) (e := 52) (m := 7) (by kernel_rfl) (by kernel_rfl) (by decide) g3 (each_le hw' (j := 3) (y := y3) rfl rfl)
        obtain ⟨la, ll, lc, f4, D4, X4, hf4, hs4, hb4, ht4, he4⟩ := open_tab (t := 23) (e := 42) (m := 6) (by kernel_rfl) (by kernel_rfl) (by decide) g4 (each_le hw' (j := 4) (y := y4) rfl rfl)
        obtain ⟨ra, rl, rc, f5, D5, X5, hf5, hs5, hb5, ht5, he5⟩ := open_tab (t := 23) (e := 42) (m := 6) (by kernel_rfl) (by kernel_rfl) (by decide) g5 (each_le hw' (j := 5) (y := y5) rfl rfl)
        -- a field: its name and its type
        have hfd : ∀ i, i < fl → ∃ z : ByteArray × Ty × Hd, D3 i = .string z.1 :: z.2.2.cells ∧ z.1.size ≤ 140737488351232 ∧ Lies w A0 n z.2.1 z.2.2 := by
          intro i hi
          obtain ⟨hl, htr, hq⟩ := he3 i hi
          obtain ⟨zs, n2, rfl, hx2, _, hzl, hg⟩ := DataW.trod_struct Try.underlying52 htr
          have hzl2 : zs.length = 2 := hzl
          match hD : D3 i, zs, hl, hzl2 with
          | [d0, d1, d2, d3, d4, d5, d6], [z0, z1], _, _ =>
            have k25 : Try.prog.cellsOf 42 = 6 := by kernel_rfl
            rw [hD] at hg
            have q0 : DataW.trod enc Try.prog w base spare held n2 9 [d0] = some z0 := by simpa [k9] using hg 0 _ rfl
            have q1 : DataW.trod enc Try.prog w base spare held n2 42 [d1, d2, d3, d4, d5, d6] = some z1 := by simpa [k25] using hg 1 _ rfl
            have hq' : ∀ q, q ∈ DataW.weightsEach Try.prog [9, 42] ([z0, z1].map (·.1)) → q ≤ reachBytes := fun q hq1 => hq q (by rw [hx2]; simpa [DataW.weights, Try.underlying52] using hq1)
            obtain ⟨nm2, hn2, hxn2, _⟩ := DataW.trod_string (by kernel_rfl) q0
            obtain ⟨T, hd, hcs, hli⟩ := ih n2 (by omega) _ _ q1 (each_le hq' (j := 1) (y := z1) rfl rfl)
            have wn2 : nm2.size ≤ reachBytes := each_le hq' (j := 0) (y := z0) rfl rfl nm2.size (by rw [hxn2]; simp [DataW.weights])
            refine ⟨(nm2, T, hd), ?_, wn2, hli.mono (by omega)⟩
            simp only [List.cons.injEq] at hn2
            rw [hn2.1, hcs]
        have hls : ∀ (nn : Nat) (ff : Nat) (D : Nat → List Value) (X : Nat → DataW H × List MemPlace), ff < n → (∀ i, i < nn → (D i).length = 6 ∧ DataW.trod enc Try.prog w base spare held ff 42 (D i) = some (X i) ∧ ∀ q, q ∈ (X i).1.weights Try.prog 42 → q ≤ reachBytes) → ∀ i, i < nn → ∃ z : Ty × Hd, D i = z.2.cells ∧ Lies w A0 n z.1 z.2 := by
          intro nn ff D X hff he i hi
          obtain ⟨_, htr, hq⟩ := he i hi
          obtain ⟨T, hd, hcs, hli⟩ := ih ff (by omega) _ _ htr hq
          exact ⟨(T, hd), hcs, hli.mono (by omega)⟩
        have h4 := hls ll f4 D4 X4 hf4 he4
        have h5 := hls rl f5 D5 X5 hf5 he5
        have d0 : Hd := ⟨0, .empty, 0, none, 0, 0, none, 0, 0, none, 0, 0⟩
        have t0 : Ty := .mk 0 .empty 0 [] 0 []
        obtain ⟨F3, hF3⟩ := choose_to (ByteArray.empty, t0, d0) hfd
        obtain ⟨F4, hF4⟩ := choose_to (t0, d0) h4
        obtain ⟨F5, hF5⟩ := choose_to (t0, d0) h5
        let Z : Nat → Ty × Hd := fun i => if i < fl then (F3 i).2 else if i < fl + ll then F4 (i - fl) else F5 (i - fl - ll)
        refine ⟨.mk k nm con ((List.range fl).map fun i => (F3 i).1) ll ((List.range (fl + ll + rl)).map fun i => (Z i).1), ⟨k, nm, con, fa, fl, fc, la, ll, lc, ra, rl, rc⟩, ?_, fun i => (Z i).2, ?_, ?_⟩
        · simp only [List.cons.injEq] at hk hnm hcon hs3 hs4 hs5
          simp only [Hd.cells]
          rw [hk.1, hnm.1, hcon.1, hs3.1, hs4.1, hs5.1]
        · have b76 : Try.prog.bytesOf 52 = 120 := by kernel_rfl
          have b25 : Try.prog.bytesOf 42 = 104 := by kernel_rfl
          rw [b76] at hb3
          rw [b25] at hb4 hb5
          have bk := bounds_i64 wk
          have bc := bounds_i64 wc
          refine ⟨rfl, rfl, rfl, by simp [Ty.fn], rfl, by simp [Ty.kids], by simp only; omega, by simp only; omega, wn, ?_, hb3, hb4, hb5, ?_, ?_, ?_⟩
          · intro s hs
            simp only [Ty.fn, List.mem_map, List.mem_range] at hs
            obtain ⟨i, hi, rfl⟩ := hs
            exact (hF3 i hi).2.1
          · refine ht3.congr fun i hi => ?_
            rw [(hF3 i hi).1]
            simp only [Ty.fn, Z, if_pos hi]
            rw [List.getD_eq_getElem?_getD, List.getElem?_map, List.getElem?_range hi]
            rfl
          · refine ht4.congr fun i hi => ?_
            rw [(hF4 i hi).1]
            simp only [Z, if_neg (show ¬ fl + i < fl by omega), if_pos (show fl + i < fl + ll by omega), Nat.add_sub_cancel_left]
          · refine ht5.congr fun i hi => ?_
            rw [(hF5 i hi).1]
            simp only [Z, if_neg (show ¬ fl + ll + i < fl by omega), if_neg (show ¬ fl + ll + i < fl + ll by omega), show fl + ll + i - fl - ll = i by omega]
        · intro i X hX
          simp only [Ty.kids, List.getElem?_map] at hX
          by_cases hi : i < fl + ll + rl
          · rw [List.getElem?_range hi] at hX
            simp only [Option.map_some, Option.some.injEq] at hX
            subst hX
            simp only [Z]
            split
            · rename_i h1; exact (hF3 i h1).2.2
            · split
              · exact (hF4 _ (by omega)).2
              · exact (hF5 _ (by omega)).2
          · rw [List.getElem?_eq_none (by simp; omega)] at hX
            cases hX
end
end Go.Proofs.Ytfjflfokmihcpaa
