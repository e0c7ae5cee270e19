/- An argument of type api.Type reads as a type that lies in memory, with no more types in any one than thrice the reading's bulk. No condition but the form's own: each string and each slice takes at most 2 to the 47 less 4096 bytes. -/
import Derived.Test.YtfjflfokmihcpaaB
import Derived.Test.YtfjflfokmihcpaaRows
namespace Go.Proofs.Ytfjflfokmihcpaa
open Go.RowKit Go.Deep Go.WideShapes Go.ChangeShapes
set_option linter.unusedVariables false
set_option linter.unusedSimpArgs false
set_option linter.unusedSimpArgs false

/-- The header h reads as the type T, and no type in it has more than N types next in it. -/
def LiesF (N : Nat) (w : World) : Nat → Ty → Hd → Prop
  | 0, _, _ => False
  | r + 1, T, h => T.kids.length ≤ N ∧ ∃ K : Nat → Hd, Top w A0 T h K ∧ ∀ i X, T.kids[i]? = some X → LiesF N w r X (K i)
theorem LiesF.lies {N : Nat} {w : World} : ∀ {r : Nat} {T : Ty} {h : Hd}, LiesF N w r T h → Lies w A0 r T h
  | 0, _, _, h => h
  | r + 1, _, _, ⟨_, K, t, hh⟩ => ⟨K, t, fun i X hX => (hh i X hX).lies⟩
theorem LiesF.mono {N : Nat} {w : World} : ∀ {r r' : Nat} {T : Ty} {h : Hd}, LiesF N w r T h → r ≤ r' → LiesF N w r' T h
  | 0, _, _, _, h, _ => h.elim
  | r + 1, 0, _, _, _, hr => absurd hr (by omega)
  | r + 1, r' + 1, _, _, ⟨hn, K, t, hh⟩, hr => ⟨hn, K, t, fun i X hX => LiesF.mono (hh i X hX) (by omega)⟩
theorem LiesF.turn {N : Nat} {Q : Nat → Prop} {w w' : World} (hk : Fr Q w w') (hs : w.heap.size ≤ w'.heap.size) (hQ : ∀ b, b < w.heap.size → ¬ Q b) : ∀ {r : Nat} {T : Ty} {h : Hd}, LiesF N w r T h → LiesF N w' r T h
  | 0, _, _, h => h
  | r + 1, _, _, ⟨hn, K, t, hh⟩ => ⟨hn, K, t.turn hk hs (fun b hb _ => hQ b hb), fun i X hX => LiesF.turn hk hs hQ (hh i X hX)⟩
theorem LiesF.keep {N : Nat} {w w' : World} {r : Nat} {T : Ty} {h : Hd} (hl : LiesF N w r T h) (hk : Kp w w') : LiesF N w' r T h := hl.turn hk.fr hk.sz (fun _ hb h => h)
theorem bulk_one {H : Type} (d : DataW H) : 1 ≤ Rows.uptoBulk d := by
  cases d with
  | lit l => cases l <;> simp [Rows.uptoBulk]
  | nil => simp [Rows.uptoBulk]
  | ptr d => simp [Rows.uptoBulk]
  | slice elems spare => simp [Rows.uptoBulk]
  | agg parts => simp [Rows.uptoBulk]
  | iface t d => simp [Rows.uptoBulk]
  | map entries => simp [Rows.uptoBulk]
  | held h => simp [Rows.uptoBulk]
theorem bulk_all {H : Type} : ∀ (l : List (DataW H)), Rows.uptoBulkAll l = (l.map Rows.uptoBulk).sum
  | [] => by simp [Rows.uptoBulkAll]
  | d :: l => by rw [Rows.uptoBulkAll, bulk_all l]; simp
theorem le_sum {f : Nat → Nat} {n i : Nat} (hi : i < n) : f i ≤ ((List.range n).map f).sum := by
  have : ∀ (l : List Nat) (x : Nat), x ∈ l → f x ≤ (l.map f).sum := by
    intro l
    induction l with
    | nil => intro x hx; cases hx
    | cons y l ih =>
      intro x hx
      rw [List.map_cons, List.sum_cons]
      rcases List.mem_cons.1 hx with rfl | h
      · omega
      · have := ih x h; omega
  exact this _ _ (List.mem_range.2 hi)
theorem len_sum {f : Nat → Nat} : ∀ {n : Nat}, (∀ i, 1 ≤ f i) → n ≤ ((List.range n).map f).sum
  | 0, _ => by simp
  | n + 1, h => by
    have := len_sum (n := n) h
    rw [List.range_succ, List.map_append, List.sum_append]
    simp
    have := h n
    omega
section
variable {H : Type} {enc : TypeId × Value → H} {w : World} {base : Nat} {spare : Nat → Bool} {held : Bool}
theorem open_tabU {t e : TypeId} {m fuel : Nat} {cs : List Value} {x : DataW H × List MemPlace} (ht : Try.prog.underlying t = some (.slice e)) (hm : Try.prog.cellsOf e = m) (hm0 : 0 < m)
    (h : DataW.trod enc Try.prog w base spare held fuel t cs = some x) (hw : ∀ q, q ∈ x.1.weights Try.prog t → q ≤ reachBytes) :
    ∃ (a : Option Addr) (n c fuel' : Nat) (D : Nat → List Value) (X : Nat → DataW H × List MemPlace), fuel' < fuel ∧ cs = [.slice a n c] ∧ n * Try.prog.bytesOf e ≤ reachBytes ∧ n ≤ c ∧ tab w A0 e a n c m D ∧
      (∀ i, i < n → (D i).length = m ∧ DataW.trod enc Try.prog w base spare held fuel' e (D i) = some (X i) ∧ ∀ q, q ∈ (X i).1.weights Try.prog e → q ≤ reachBytes) ∧ 1 + ((List.range n).map fun i => Rows.uptoBulk (X i).1).sum ≤ Rows.uptoBulk x.1 := by
  rcases DataW.trod_slice ht h with ⟨rfl, rfl⟩ | ⟨a, n, c, elems, rest, f, rfl, rfl, rfl, hb, hl, hc, hlen, hel, _, _⟩
  · obtain ⟨f, rfl⟩ : ∃ f, fuel = f + 1 := by
      cases fuel with
      | zero => simp [DataW.trod] at h
      | succ f => exact ⟨f, rfl⟩
    exact ⟨none, 0, 0, f, fun _ => [], fun _ => (.nil, []), by omega, rfl, by omega, Nat.le_refl _, tab_nil _ _ _ _ _, fun i hi => absurd hi (by omega), by simpa using bulk_one _⟩
  · have hw0 : (elems.length + rest.length) * Try.prog.bytesOf e ≤ reachBytes := hw _ (by simp [DataW.weights, ht])
    have hn : n * Try.prog.bytesOf e ≤ reachBytes := Nat.le_trans (Nat.mul_le_mul_right _ (by omega)) hw0
    have hwe : ∀ (i : Nat) (y : DataW H × List MemPlace), elems[i]? = some y → ∀ q, q ∈ y.1.weights Try.prog e → q ≤ reachBytes := fun i y hy q hq => by
      refine hw q ?_
      simp only [DataW.weights, ht, List.mem_cons, List.mem_append]
      refine .inr (.inl ?_)
      have hmem : ∀ (l : List (DataW H × List MemPlace)) (i : Nat), l[i]? = some y → q ∈ DataW.weightsAll Try.prog e (l.map (·.1)) := by
        intro l
        induction l with
        | nil => intro i hi; simp at hi
        | cons z l ih =>
          intro i hi
          simp only [List.map_cons, DataW.weightsAll, List.mem_append]
          cases i with
          | zero => simp at hi; subst hi; exact .inl hq
          | succ i => exact .inr (ih i (by simpa using hi))
      exact hmem elems i hy
    have hone : ∀ i, i < n → ∃ z : List Value × (DataW H × List MemPlace), (∀ j v, z.1[j]? = some v → w.cell? ((a.add (i * m)).add j) = some v) ∧ elems[i]? = some z.2 ∧ z.1.length = m ∧ DataW.trod enc Try.prog w base spare held f e z.1 = some z.2 ∧ ∀ q, q ∈ z.2.1.weights Try.prog e → q ≤ reachBytes := by
      intro i hi
      have he := hel i hi
      rw [hm] at he
      have hsome : elems[i]? = some (elems[i]'(by omega)) := List.getElem?_eq_getElem (by omega)
      rw [hsome] at he
      obtain ⟨cs', hcs, htr⟩ := Option.bind_eq_some_iff.1 he
      obtain ⟨_, hcl, hat⟩ := World.cells?_some hcs
      refine ⟨(cs', elems[i]'(by omega)), fun j v hv => ?_, hsome, hcl, htr, hwe i _ hsome⟩
      have hj : j < cs'.length := (List.getElem?_eq_some_iff.1 hv).1
      rw [hat j (by omega)]
      exact hv
    obtain ⟨Z, hZ⟩ := choose_to ([], (.nil, [])) hone
    refine ⟨some a, n, c, f, fun i => (Z i).1, fun i => (Z i).2, by omega, rfl, hn, by omega, ⟨fun h => (by cases h), fun hn0 => ?_⟩, fun i hi => (hZ i hi).2.2, ?_⟩
    rotate_left
    · have he : elems.map (·.1) = (List.range n).map fun i => (Z i).2.1 := by
        apply List.ext_getElem?
        intro i
        by_cases hi : i < n
        · rw [List.getElem?_map, (hZ i hi).2.1, List.getElem?_map, List.getElem?_range hi]; rfl
        · rw [List.getElem?_eq_none (by simp; omega), List.getElem?_eq_none (by simp; omega)]
      show 1 + _ ≤ Rows.uptoBulk (DataW.slice (elems.map (·.1)) _)
      rw [Rows.uptoBulk, bulk_all, he, List.map_map]
      show 1 + ((List.range n).map fun i => Rows.uptoBulk (Z i).2.1).sum ≤ ((List.range n).map fun i => Rows.uptoBulk (Z i).2.1).sum + _ + 1
      omega
    have h0 := (hZ 0 hn0).1
    have hl0 := (hZ 0 hn0).2.2.1
    have hc0 : w.cell? a = some ((Z 0).1[0]'(by omega)) := by
      have := h0 0 _ (List.getElem?_eq_getElem (by omega))
      simpa [Addr.add] using this
    obtain ⟨b, o, s⟩ := a
    have hs : s = none := by
      cases s with
      | none => rfl
      | some s =>
        simp only [World.cell?] at hc0
        split at hc0
        · simp at hc0
        · cases hc0
    subst hs
    refine ⟨b, o, rfl, trivial, lt_of_cell hc0, fun h => h.elim, fun i hi j v hv => ?_⟩
    have := (hZ i hi).1 j v hv
    rwa [Addr.add_mid, Addr.add_mid] at this

theorem open_tyU (N : Nat) : ∀ (fuel : Nat) (cs : List Value) (x : DataW H × List MemPlace), DataW.trod enc Try.prog w base spare held fuel 42 cs = some x → (∀ q, q ∈ x.1.weights Try.prog 42 → q ≤ reachBytes) → Rows.uptoBulk x.1 ≤ N →
    ∃ (T : Ty) (h : Hd), cs = h.cells ∧ LiesF (3 * N) w fuel T h := by
  intro fuel
  induction fuel using Nat.strongRecOn with
  | ind fuel ih =>
    intro cs x h hw hN
    obtain ⟨xs, n, rfl, rfl, hcl, hxl, hf⟩ := DataW.trod_struct Try.underlying42 h
    have hcl6 : cs.length = 6 := hcl.trans (by kernel_rfl)
    have hxl6 : xs.length = 6 := hxl
    match cs, hcl6 with
    | [c0, c1, c2, c3, c4, c5], _ =>
      match xs, hxl6 with
      | [y0, y1, y2, y3, y4, y5], _ =>
        have hw' : ∀ q, q ∈ DataW.weightsEach Try.prog [3, 9, 3, 40, 23, 23] ([y0, y1, y2, y3, y4, y5].map (·.1)) → q ≤ reachBytes := fun q hq => hw q (by simpa [DataW.weights, Try.underlying42] using hq)
        have k3 : Try.prog.cellsOf 3 = 1 := by kernel_rfl
        have k9 : Try.prog.cellsOf 9 = 1 := by kernel_rfl
        have k22 : Try.prog.cellsOf 40 = 1 := by kernel_rfl
        have k23 : Try.prog.cellsOf 23 = 1 := by kernel_rfl
        have g0 : DataW.trod enc Try.prog w base spare held n 3 [c0] = some y0 := by simpa [k3] using hf 0 _ rfl
        have g1 : DataW.trod enc Try.prog w base spare held n 9 [c1] = some y1 := by simpa [k9] using hf 1 _ rfl
        have g2 : DataW.trod enc Try.prog w base spare held n 3 [c2] = some y2 := by simpa [k3] using hf 2 _ rfl
        have g3 : DataW.trod enc Try.prog w base spare held n 40 [c3] = some y3 := by simpa [k22] using hf 3 _ rfl
        have g4 : DataW.trod enc Try.prog w base spare held n 23 [c4] = some y4 := by simpa [k23] using hf 4 _ rfl
        have g5 : DataW.trod enc Try.prog w base spare held n 23 [c5] = some y5 := by simpa [k23] using hf 5 _ rfl
        obtain ⟨k, hk, _, wk⟩ := DataW.trod_int (k := .i64) (by kernel_rfl) g0
        obtain ⟨nm, hnm, hxnm, _⟩ := DataW.trod_string (by kernel_rfl) g1
        obtain ⟨con, hcon, _, wc⟩ := DataW.trod_int (k := .i64) (by kernel_rfl) g2
        have wn : nm.size ≤ reachBytes := each_le hw' (j := 1) (y := y1) rfl rfl nm.size (by rw [hxnm]; simp [DataW.weights])
        obtain ⟨fa, fl, fc, f3, D3, X3, hf3, hs3, hb3, _, ht3, he3, hu3⟩ := open_tabU (t := 40) (e := 52) (m := 7) (by kernel_rfl) (by kernel_rfl) (by decide) g3 (each_le hw' (j := 3) (y := y3) rfl rfl)
        obtain ⟨la, ll, lc, f4, D4, X4, hf4, hs4, hb4, _, ht4, he4, hu4⟩ := open_tabU (t := 23) (e := 42) (m := 6) (by kernel_rfl) (by kernel_rfl) (by decide) g4 (each_le hw' (j := 4) (y := y4) rfl rfl)
        obtain ⟨ra, rl, rc, f5, D5, X5, hf5, hs5, hb5, _, ht5, he5, hu5⟩ := open_tabU (t := 23) (e := 42) (m := 6) (by kernel_rfl) (by kernel_rfl) (by decide) g5 (each_le hw' (j := 5) (y := y5) rfl rfl)
        have hNN : Rows.uptoBulk y0.1 + (Rows.uptoBulk y1.1 + (Rows.uptoBulk y2.1 + (Rows.uptoBulk y3.1 + (Rows.uptoBulk y4.1 + Rows.uptoBulk y5.1)))) + 1 ≤ N := by simpa [Rows.uptoBulk, Rows.uptoBulkAll] using hN
        have hq3 : ∀ i, i < fl → Rows.uptoBulk (X3 i).1 ≤ N := fun i hi => by have := le_sum (f := fun i => Rows.uptoBulk (X3 i).1) hi; omega
        have hq4 : ∀ i, i < ll → Rows.uptoBulk (X4 i).1 ≤ N := fun i hi => by have := le_sum (f := fun i => Rows.uptoBulk (X4 i).1) hi; omega
        have hq5 : ∀ i, i < rl → Rows.uptoBulk (X5 i).1 ≤ N := fun i hi => by have := le_sum (f := fun i => Rows.uptoBulk (X5 i).1) hi; omega
        have hn3 := len_sum (f := fun i => Rows.uptoBulk (X3 i).1) (n := fl) (fun i => bulk_one _)
        have hn4 := len_sum (f := fun i => Rows.uptoBulk (X4 i).1) (n := ll) (fun i => bulk_one _)
        have hn5 := len_sum (f := fun i => Rows.uptoBulk (X5 i).1) (n := rl) (fun i => bulk_one _)
        -- a field: its name and its type
        have hfd : ∀ i, i < fl → ∃ z : ByteArray × Ty × Hd, D3 i = .string z.1 :: z.2.2.cells ∧ z.1.size ≤ 140737488351232 ∧ LiesF (3 * N) w n z.2.1 z.2.2 := by
          intro i hi
          obtain ⟨hl, htr, hq⟩ := he3 i hi
          obtain ⟨zs, n2, rfl, hx2, _, hzl, hg⟩ := DataW.trod_struct Try.underlying52 htr
          have hzl2 : zs.length = 2 := hzl
          match hD : D3 i, zs, hl, hzl2 with
          | [d0, d1, d2, d3, d4, d5, d6], [z0, z1], _, _ =>
            have k25 : Try.prog.cellsOf 42 = 6 := by kernel_rfl
            rw [hD] at hg
            have q0 : DataW.trod enc Try.prog w base spare held n2 9 [d0] = some z0 := by simpa [k9] using hg 0 _ rfl
            have q1 : DataW.trod enc Try.prog w base spare held n2 42 [d1, d2, d3, d4, d5, d6] = some z1 := by simpa [k25] using hg 1 _ rfl
            have hq' : ∀ q, q ∈ DataW.weightsEach Try.prog [9, 42] ([z0, z1].map (·.1)) → q ≤ reachBytes := fun q hq1 => hq q (by rw [hx2]; simpa [DataW.weights, Try.underlying52] using hq1)
            obtain ⟨nm2, hn2, hxn2, _⟩ := DataW.trod_string (by kernel_rfl) q0
            obtain ⟨T, hd, hcs, hli⟩ := ih n2 (by omega) _ _ q1 (each_le hq' (j := 1) (y := z1) rfl rfl) (by have := hq3 i hi; rw [hx2] at this; simp [Rows.uptoBulk, Rows.uptoBulkAll] at this; omega)
            have wn2 : nm2.size ≤ reachBytes := each_le hq' (j := 0) (y := z0) rfl rfl nm2.size (by rw [hxn2]; simp [DataW.weights])
            refine ⟨(nm2, T, hd), ?_, wn2, hli.mono (by omega)⟩
            simp only [List.cons.injEq] at hn2
            rw [hn2.1, hcs]
        have hls : ∀ (nn : Nat) (ff : Nat) (D : Nat → List Value) (X : Nat → DataW H × List MemPlace), ff < n → (∀ i, i < nn → (D i).length = 6 ∧ DataW.trod enc Try.prog w base spare held ff 42 (D i) = some (X i) ∧ ∀ q, q ∈ (X i).1.weights Try.prog 42 → q ≤ reachBytes) → ∀ i, i < nn → (Rows.uptoBulk (X i).1 ≤ N) → ∃ z : Ty × Hd, D i = z.2.cells ∧ LiesF (3 * N) w n z.1 z.2 := by
          intro nn ff D X hff he i hi hbk
          obtain ⟨_, htr, hq⟩ := he i hi
          obtain ⟨T, hd, hcs, hli⟩ := ih ff (by omega) _ _ htr hq hbk
          exact ⟨(T, hd), hcs, hli.mono (by omega)⟩
        have h4 := fun i hi => hls ll f4 D4 X4 hf4 he4 i hi (hq4 i hi)
        have h5 := fun i hi => hls rl f5 D5 X5 hf5 he5 i hi (hq5 i hi)
        have d0 : Hd := ⟨0, .empty, 0, none, 0, 0, none, 0, 0, none, 0, 0⟩
        have t0 : Ty := .mk 0 .empty 0 [] 0 []
        obtain ⟨F3, hF3⟩ := choose_to (ByteArray.empty, t0, d0) hfd
        obtain ⟨F4, hF4⟩ := choose_to (t0, d0) h4
        obtain ⟨F5, hF5⟩ := choose_to (t0, d0) h5
        let Z : Nat → Ty × Hd := fun i => if i < fl then (F3 i).2 else if i < fl + ll then F4 (i - fl) else F5 (i - fl - ll)
        refine ⟨.mk k nm con ((List.range fl).map fun i => (F3 i).1) ll ((List.range (fl + ll + rl)).map fun i => (Z i).1), ⟨k, nm, con, fa, fl, fc, la, ll, lc, ra, rl, rc⟩, ?_, ?_, fun i => (Z i).2, ?_, ?_⟩
        · simp only [List.cons.injEq] at hk hnm hcon hs3 hs4 hs5
          simp only [Hd.cells]
          rw [hk.1, hnm.1, hcon.1, hs3.1, hs4.1, hs5.1]
        · simp only [Ty.kids, List.length_map, List.length_range]; omega
        · have b76 : Try.prog.bytesOf 52 = 120 := by kernel_rfl
          have b25 : Try.prog.bytesOf 42 = 104 := by kernel_rfl
          rw [b76] at hb3
          rw [b25] at hb4 hb5
          have bk := bounds_i64 wk
          have bc := bounds_i64 wc
          refine ⟨rfl, rfl, rfl, by simp [Ty.fn], rfl, by simp [Ty.kids], by simp only; omega, by simp only; omega, wn, ?_, hb3, hb4, hb5, ?_, ?_, ?_⟩
          · intro s hs
            simp only [Ty.fn, List.mem_map, List.mem_range] at hs
            obtain ⟨i, hi, rfl⟩ := hs
            exact (hF3 i hi).2.1
          · refine ht3.congr fun i hi => ?_
            rw [(hF3 i hi).1]
            simp only [Ty.fn, Z, if_pos hi]
            rw [List.getD_eq_getElem?_getD, List.getElem?_map, List.getElem?_range hi]
            rfl
          · refine ht4.congr fun i hi => ?_
            rw [(hF4 i hi).1]
            simp only [Z, if_neg (show ¬ fl + i < fl by omega), if_pos (show fl + i < fl + ll by omega), Nat.add_sub_cancel_left]
          · refine ht5.congr fun i hi => ?_
            rw [(hF5 i hi).1]
            simp only [Z, if_neg (show ¬ fl + ll + i < fl by omega), if_neg (show ¬ fl + ll + i < fl + ll by omega), show fl + ll + i - fl - ll = i by omega]
        · intro i X hX
          simp only [Ty.kids, List.getElem?_map] at hX
          by_cases hi : i < fl + ll + rl
          · rw [List.getElem?_range hi] at hX
            simp only [Option.map_some, Option.some.injEq] at hX
            subst hX
            simp only [Z]
            split
            · rename_i h1; exact (hF3 i h1).2.2
            · split
              · exact (hF4 _ (by omega)).2
              · exact (hF5 _ (by omega)).2
          · rw [List.getElem?_eq_none (by simp; omega)] at hX
            cases hX
end
end Go.Proofs.Ytfjflfokmihcpaa
