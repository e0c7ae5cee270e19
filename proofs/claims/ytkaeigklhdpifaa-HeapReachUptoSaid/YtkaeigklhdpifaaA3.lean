/- What is reached: one name is met. Condition: the two boxes and the map lie in memory. -/
import Derived.Test.YtkaeigklhdpifaaA2
namespace Go.Proofs.Ytkaeigklhdpifaa
open Go.RowKit Go.Maps Go.Sort
set_option linter.unusedVariables false
set_option linter.unusedSimpArgs false
/-! ### a map of counts -/
noncomputable abbrev RI : Value → Option (DV × List MemPlace) := plainElem Try.prog 3
structure TmIs (D : DV) (g : Int → Nat) : Prop where
  m : IsMap D
  hs : ∀ k : Int, Maps.has D (.int .i64 k) = decide (0 < g k)
  at' : ∀ k, 0 < g k → ∀ z, D.atKey (.int .i64 k) z = .lit (.int .i64 (g k : Int))
theorem TmIs.zero {D : DV} {g : Int → Nat} (h : TmIs D g) (k : Int) : D.atKey (.int .i64 k) (.lit (.int .i64 0)) = .lit (.int .i64 (g k : Int)) := by
  by_cases h0 : 0 < g k
  · exact h.at' k h0 _
  · rw [atKey_of_not_has (by rw [h.hs]; simp; omega), show g k = 0 by omega]; rfl
def bump (g : Int → Nat) (x : Int) : Int → Nat := fun k => if k = x then g k + 1 else g k
theorem TmIs.bump {D : DV} {g : Int → Nat} (h : TmIs D g) (x : Int) : TmIs (D.put (.int .i64 x) (.lit (.int .i64 ((g x : Int) + 1)))) (bump g x) := by
  refine ⟨h.m.put _ _, fun j => ?_, fun j hj z => ?_⟩
  · unfold Go.Proofs.Ytkaeigklhdpifaa.bump
    by_cases e : j = x
    · subst e; rw [has_put_same h.m (show WideAt.IsKeyLit (.int .i64 j) from trivial)]; simp
    · rw [has_put_other (ki_ne e), h.hs, if_neg e]
  · unfold Go.Proofs.Ytkaeigklhdpifaa.bump at hj ⊢
    by_cases e : j = x
    · subst e; rw [atKey_put_same h.m (show WideAt.IsKeyLit (.int .i64 j) from trivial)]; simp
    · rw [if_neg e] at hj ⊢; rw [atKey_put_other (ki_ne e)]; exact h.at' j hj z
theorem TmIs.size {R : Value → Option (DV × List MemPlace)} {w : World} {b : Nat} {D : DV} {g : Int → Nat} (h : TmIs D g) (ho : OM R w b D) (x : Int) (d : DV) : Maps.size (D.put (.int .i64 x) d) = if 0 < g x then Maps.size D else Maps.size D + 1 := by
  rw [size_put ho.tidy, h.hs]
  simp
theorem zeroI (w : World) : (zeroValue 3).run Try.prog w = .ok (.int .i64 0) w := Try.zeroValue3 w
section
variable {w : World} {ops : Array Oper} {rest : List Oper} {a : Act} {Q : Exit → Act → World → Prop}
set_option maxRecDepth 100000 in
theorem wpList_tm {d : Tmp} {op : Op} {ty : TypeId} {pos : String} {af : Array Edge} (m x : Operand) (hop : op = Op.lookup 91 m x false)
    (mb : Nat) (D : DV) (g : Int → Nat) (hm : a.eval m = .map (some mb)) (hown : OM RI w mb D) (hD : TmIs D g) (k : Int) (hx : a.eval x = .int .i64 k) (hk : i64 k)
    (hK : wpList Try.prog ops Q rest (a.put (some d) (.int .i64 (g k : Int))) w) :
    wpList Try.prog ops Q (⟨some d, op, ty, pos, af, none⟩ :: rest) a w := by
  subst hop
  refine wpList_plain rfl fun K' hK' => ?_
  obtain ⟨c, hrun, hv, _⟩ := World.ownsMap.lookup_int hown KI Try.underlying91 Try.underlying3 (zeroI w) (keyI hk)
  rw [hD.zero] at hv
  unfold Oper.wp
  simp [execOp, hm, hx, hrun, Result.andThen]
  cases hv
  exact hK' _ _ hK
set_option maxRecDepth 100000 in
theorem wpList_tmset {op : Op} {ty : TypeId} {pos : String} {af : Array Edge} (m x v : Operand) (hop : op = Op.mapUpdate 91 m x v)
    (mb : Nat) (D : DV) (hm : a.eval m = .map (some mb)) (hown : OM RI w mb D) (hn : Maps.size D ≤ 65536) (k c : Int) (hx : a.eval x = .int .i64 k) (hk : i64 k) (hv : a.eval v = .int .i64 c) (hc : i64 c)
    (hK : ∀ w', OM RI w' mb (D.put (.int .i64 k) (.lit (.int .i64 c))) → w.grownBy w' (some mb) → wpList Try.prog ops Q rest (a.put none undef) w') :
    wpList Try.prog ops Q (⟨none, op, ty, pos, af, none⟩ :: rest) a w := by
  subst hop
  refine wpList_plain rfl fun K' hK' => ?_
  obtain ⟨w', hrun, ho, ht⟩ := World.ownsMap.store hown KI Try.underlying91 (by unfold maxLen; omega) (keyI hk) (plainElem_int Try.underlying3 (a := c) (by unfold i64 at hc; simp [Lit.wf, IntKind.min, IntKind.max, IntKind.signed, IntKind.bits]; omega))
  unfold Oper.wp
  simp [execOp, hm, hx, hv, hrun, Result.andThen]
  exact hK' _ _ (hK w' (OM.of ho) ht.grown)
end
/-! ### the names met -/
structure RX (w0 w : World) (tb lb mt : Nat) (g : Int → Nat) (n : Nat) (st : List Int) : Prop where
  old : Kp w0 w
  tbx : w.heap[tb]? = some (.cells #[.map (some mt)] 91 (0, 0))
  lbx : ∃ v, w.heap[lb]? = some (.cells #[v] 33 (0, 0)) ∧ w.ownsRow w0.heap.size 3 1 v st.length (st.map encZ)
  own : ∃ D, OM RI w mt D ∧ TmIs D g ∧ Maps.size D = n
  t0 : w0.heap.size ≤ tb
  l0 : w0.heap.size ≤ lb
  m0 : w0.heap.size ≤ mt
theorem grown_row {w w' : World} {row : Option Nat} {b : Nat} {o : Obj} (h : w.heap[b]? = some o) (hg : w.grownBy w' row) (hr : ∀ k, row = some k → k ≠ b) : w'.heap[b]? = some o := (hg.block b (row_lt h) (fun e => hr b e.symm rfl)).trans h
def gx (g : Int → Nat) (x : Int) : Int → Nat := if x = 0 then g else bump g x
def sx (g : Int → Nat) (st : List Int) (x : Int) : List Int := if x = 0 then st else if 0 < g x then st else st ++ [x]
def nx (g : Int → Nat) (n : Nat) (x : Int) : Nat := if x = 0 then n else if 0 < g x then n else n + 1
theorem own_obj_ne {w : World} {B n m : Nat} {e : TypeId} {v : Value} {xs : List Value} (h : w.ownsRow B e m v n xs) {b : Nat} {o : Obj} (hb : w.heap[b]? = some o) (hne : ∀ cur, o ≠ .cells cur e (0, 0)) : v.ownBlock ≠ some b := fun hg => by
  obtain ⟨cur, h1⟩ := own_cells h hg
  rw [hb] at h1
  cases h1
  exact hne cur rfl
theorem own_slice {w : World} {B n m : Nat} {e : TypeId} {v : Value} {xs : List Value} (h : w.ownsRow B e m v n xs) : ∃ a c, v = .slice a n c := by
  obtain ⟨_, ⟨rfl, h⟩ | ⟨g, cap, cur, rfl, _⟩⟩ := h
  · exact ⟨none, 0, by rw [h]⟩
  · exact ⟨_, _, rfl⟩
theorem OM.obj {H : Type} {R : Value → Option (DataW H × List MemPlace)} {w : World} {b : Nat} {D : DataW H} (h : OM R w b D) : ∃ es c, w.heap[b]? = some (.map es c) := by
  obtain ⟨es, clock, h1, _⟩ := h
  exact ⟨es, clock, h1⟩
theorem RX.lt {w0 w : World} {tb lb mt n : Nat} {g : Int → Nat} {st : List Int} (h : RX w0 w tb lb mt g n st) : tb < w.heap.size ∧ lb < w.heap.size ∧ mt < w.heap.size ∧ tb ≠ lb ∧ tb ≠ mt ∧ lb ≠ mt := by
  obtain ⟨v, h1, _⟩ := h.lbx
  obtain ⟨D, h2, _⟩ := h.own
  obtain ⟨es, c, h3⟩ := h2.obj
  have h4 := h.tbx
  refine ⟨row_lt h4, row_lt h1, row_lt h3, ty_ne h4 h1 (by decide), fun e => ?_, fun e => ?_⟩
  · subst e; rw [h3] at h4; cases h4
  · subst e; rw [h3] at h1; cases h1
theorem RX.keep {w0 w w' : World} {tb lb mt n : Nat} {g : Int → Nat} {st : List Int} (h : RX w0 w tb lb mt g n st) (hk : Kp w w') : RX w0 w' tb lb mt g n st := by
  obtain ⟨v, h1, h2⟩ := h.lbx
  obtain ⟨D, h3, h4, h5⟩ := h.own
  exact ⟨h.old.trans hk, row_keep hk h.tbx, ⟨v, row_keep hk h1, own_turn h2 (fun k hv => hk.blk (h2.lt k hv).2)⟩, ⟨D, h3.turn (hk.blk (OM.obj h3 |>.elim fun es h => h.elim fun c h => row_lt h)), h4, h5⟩, h.t0, h.l0, h.m0⟩
/-- The last of those that are left is taken. -/
theorem own_pop {w : World} {B : Nat} {v : Value} {st : List Int} {x : Int} (h : w.ownsRow B 3 1 v (st ++ [x]).length ((st ++ [x]).map encZ)) : ∃ gb cap, v = .slice (some ⟨gb, 0, none⟩) (st.length + 1) cap ∧ w.cell? ⟨gb, st.length, none⟩ = some (.int .i64 x) ∧ w.ownsRow B 3 1 (.slice (some ⟨gb, 0, none⟩) st.length cap) st.length (st.map encZ) ∧ gb < w.heap.size ∧ st.length + 1 ≤ cap ∧ cap ≤ maxLen := by
  obtain ⟨hl, ⟨rfl, h0⟩ | ⟨gb, cap, cur, rfl, hB, hg, h1, h2, h3, h4⟩⟩ := h
  · simp at h0
  · simp only [List.length_append, List.length_singleton] at h1 h4 ⊢
    rw [Nat.mul_one] at h4
    refine ⟨gb, cap, rfl, ?_, ⟨by simp, .inr ⟨gb, cap, cur, rfl, hB, hg, by omega, h2, h3, ?_⟩⟩, row_lt hg, by omega, h2⟩
    · rw [cell_of_row w gb _ cur _ (0, 0) hg, ← Array.getElem?_toList]
      have : (cur.toList.take (st.length + 1))[st.length]? = some (.int .i64 x) := by rw [h4]; simp
      rwa [List.getElem?_take_of_lt (by omega)] at this
    · rw [Nat.mul_one]
      have : (cur.toList.take (st.length + 1)).take st.length = ((st ++ [x]).map encZ).take st.length := by rw [h4]
      rw [List.take_take, Nat.min_eq_left (by omega)] at this
      rw [this]; simp
set_option maxHeartbeats 1000000 in
set_option maxRecDepth 100000 in
theorem c_meet {w0 : World} {tb lb mt n : Nat} {g : Int → Nat} {st : List Int} (x : Int) (w : World) (h : RX w0 w tb lb mt g n st) (hx : i64 x) (hg : g x ≤ 1152921504606846976) (hn : n ≤ 65536) (hs : st.length ≤ 65536) :
    Calls Try.prog 56 #[.int .i64 x, .pointer (some ⟨tb, 0, none⟩), .pointer (some ⟨lb, 0, none⟩)] w fun e w' => e = .returned (.tuple #[]) ∧ RX w0 w' tb lb mt (gx g x) (nx g n x) (sx g st x) ∧ w.heap.size ≤ w'.heap.size := by
  obtain ⟨iI, hI, hI0, hI1, hI2⟩ := info_parts infoI
  have HX := Lib.hid h
  obtain ⟨zt, zl, zm, n1, n2, n3⟩ := h.lt
  obtain ⟨v, h1, h2⟩ := h.lbx
  obtain ⟨D, h3, h4, h5⟩ := h.own
  have t0 : w.cell? ⟨tb, 0, none⟩ = some (.map (some mt)) := row_cell h.tbx 0
  have l0 : w.cell? ⟨lb, 0, none⟩ = some v := row_cell h1 0
  have H1 := Lib.hid h1
  have H2 := Lib.hid h2
  have H3 := Lib.hid h3
  have H4 := Lib.hid h4
  have H5 := Lib.hid h5
  clear h h1 h2 h3 h4 h5
  go_enter Try.func56, Try.ntmps56
  by_cases hx0 : x = 0
  · subst hx0
    go_wp2_with fail
    exact end_ret (by rfl) (by rfl) ⟨rfl, HX.out, Nat.le_refl _⟩
  · have hcnt : IntKind.wrap .i64 ((g x : Int) + 1) = (g x : Int) + 1 := by rw [IntKind.wrap_i64]; omega
    have zw : w0.heap.size ≤ w.heap.size := HX.out.old.sz
    have hOw := own_obj_ne H2.out (OM.obj H3.out).choose_spec.choose_spec (fun cur e => by cases e)
    have HOW := Lib.hid hOw
    clear hOw
    have hbx : ((bump g x x : Nat) : Int) = (g x : Int) + 1 := by unfold bump; simp
    have HB := Lib.hid hbx
    clear hbx
    by_cases h1 : 0 < g x
    · have hne : ((g x : Int) + 1 == 1) = false := by simp; omega
      go_wp2_with (first
        | ((with_reducible show wpList _ _ _ (⟨some 8, _, _, _, _, _⟩ :: _) _ _); refine wpList_tm (d := 8) _ _ rfl mt D g (by rfl) H3.out H4.out x (by rfl) hx ?_)
        | ((with_reducible show wpList _ _ _ (⟨none, .mapUpdate _ _ _ _, _, _, _, _⟩ :: _) _ _); refine wpList_tmset _ _ _ rfl mt D (by rfl) H3.out (by rw [H5.out]; exact hn) x ((g x : Int) + 1) (by rfl) hx (by rfl) (by unfold i64; omega) ?_; intro w1 ho1 hg1; have HO1 := Lib.hid ho1; have HG1 := Lib.hid hg1; clear ho1 hg1; have T1 := Lib.hid (grown_row HX.out.tbx HG1.out (fun k hk => (by cases hk; exact Ne.symm n2))); have L1 := Lib.hid (grown_row H1.out HG1.out (fun k hk => (by cases hk; exact Ne.symm n3))); have t0 := row_cell T1.out 0; have l0 := row_cell L1.out 0; have zt1 := row_lt T1.out; have zl1 := row_lt L1.out)
        | ((with_reducible show wpList _ _ _ (⟨some 12, _, _, _, _, _⟩ :: _) _ _); refine wpList_tm (d := 12) _ _ rfl mt _ (bump g x) (by rfl) HO1.out (H4.out.bump x) x (by rfl) hx ?_; rw [HB.out]))
      refine end_none (by rfl) (by rfl) ⟨rfl, ?_, HG1.out.size⟩
      unfold gx nx sx
      rw [if_neg hx0, if_neg hx0, if_neg hx0, if_pos h1, if_pos h1]
      exact ⟨HX.out.old.grown HG1.out (fun k hk => by cases hk; exact HX.out.m0), T1.out, ⟨v, L1.out, own_turn H2.out (fun k hk => HG1.out.block k (H2.out.lt k hk).2 (fun e => HOW.out (e ▸ hk)))⟩, ⟨_, HO1.out, H4.out.bump x, by rw [H4.out.size H3.out, if_pos h1]; exact H5.out⟩, HX.out.t0, HX.out.l0, HX.out.m0⟩
    · have h0 : g x = 0 := by omega
      have HG0 := Lib.hid h0
      go_wp2_with (first
        | ((with_reducible show wpList _ _ _ (⟨some 8, _, _, _, _, _⟩ :: _) _ _); refine wpList_tm (d := 8) _ _ rfl mt D g (by rfl) H3.out H4.out x (by rfl) hx ?_; rw [HG0.out])
        | ((with_reducible show wpList _ _ _ (⟨none, .mapUpdate _ _ _ _, _, _, _, _⟩ :: _) _ _); refine wpList_tmset _ _ _ rfl mt D (by rfl) H3.out (by rw [H5.out]; exact hn) x ((g x : Int) + 1) (by rfl) hx (by rw [HG0.out]; rfl) (by unfold i64; omega) ?_; intro wa ho1 hg1; have HO1 := Lib.hid ho1; have HG1 := Lib.hid hg1; clear ho1 hg1; have T1 := Lib.hid (grown_row HX.out.tbx HG1.out (fun k hk => (by cases hk; exact Ne.symm n2))); have L1 := Lib.hid (grown_row H1.out HG1.out (fun k hk => (by cases hk; exact Ne.symm n3))); have t0 := row_cell T1.out 0; have l0 := row_cell L1.out 0; have zt1 := row_lt T1.out; have zl1 := row_lt L1.out; have W1 := Lib.hid (own_turn H2.out (fun k hk => HG1.out.block k (H2.out.lt k hk).2 (fun e => HOW.out (e ▸ hk)))); have zs1 : w0.heap.size ≤ wa.heap.size := Nat.le_trans zw HG1.out.size)
        | ((with_reducible show wpList _ _ _ (⟨some 12, _, _, _, _, _⟩ :: _) _ _); refine wpList_tm (d := 12) _ _ rfl mt _ (bump g x) (by rfl) HO1.out (H4.out.bump x) x (by rfl) hx ?_; rw [HB.out, HG0.out])
        | ((with_reducible show wpList _ _ _ (⟨some 17, _, _, _, _, _⟩ :: _) _ _); refine wpList_append_one (d := 17) _ _ 33 rfl w0.heap.size 3 iI _ 1 8 Try.underlying33 hI hI0 hI1 hI2 rfl (by decide) v st.length _ (by rfl) _ W1.out [.int .i64 x] _ _ _ (by rfl) (by first | rfl | simp) (by rfl) (by rfl) (by intro u hu; simp at hu; rcases hu with rfl | rfl | rfl | rfl | rfl | rfl | rfl <;> rfl) (by unfold maxLen; omega) (by omega) (by first | omega | (simp; omega)) ?_; intro v1 w1 ho1 hg1; obtain ⟨ad1, c1, rfl⟩ := own_slice ho1; have HV2 := Lib.hid ho1; have HG2 := Lib.hid hg1; clear ho1 hg1; have L2 := Lib.hid (grown_row (row_keep ((Kp.refl wa).alloc _) L1.out) HG2.out (fun k hk e => (by subst e; obtain ⟨cur, hcur⟩ := own_cells W1.out hk; rw [L1.out] at hcur; cases hcur))); have l0 : w1.cell? ⟨lb, 0, none⟩ = some v := row_cell L2.out 0; have lf := frozen_of_row _ _ 0 _ _ L2.out; have zl2 := row_lt L2.out))
      refine end_none (by rfl) (by rfl) ⟨rfl, ?_, ?_⟩
      · unfold gx nx sx
        rw [if_neg hx0, if_neg hx0, if_neg hx0, if_neg h1, if_neg h1]
        have hsame := heap_setCell_same w1 lb 0 _ _ (.slice ad1 (st.length + 1) c1) L2.out
        have hvn : ∀ k, v.ownBlock = some k → w0.heap.size ≤ k ∧ k ≠ lb ∧ k ≠ tb ∧ k ≠ mt ∧ k < wa.heap.size := fun k hk => by
          obtain ⟨cur, hcur⟩ := own_cells W1.out hk
          obtain ⟨x1, x2⟩ := W1.out.lt k hk
          exact ⟨x1, fun e => (by subst e; rw [L1.out] at hcur; cases hcur), fun e => (by subst e; rw [T1.out] at hcur; cases hcur), fun e => HOW.out (e ▸ hk), x2⟩
        have hr2 : (Value.slice ad1 (st.length + 1) c1).ownBlock ≠ some lb := fun hk => by
          obtain ⟨cur, hcur⟩ := own_cells HV2.out hk
          rw [L2.out] at hcur; cases hcur
        have hkw : Kp w0 w1 := ((HX.out.old.grown HG1.out (fun k hk => by cases hk; exact HX.out.m0)).alloc _).grown HG2.out (fun k hk => (hvn k hk).1)
        refine ⟨hkw.setCell HX.out.l0 _, ?_, ⟨.slice ad1 (st.length + 1) c1, hsame, ?_⟩, ⟨_, ?_, H4.out.bump x, by rw [H4.out.size H3.out, if_neg h1, H5.out]⟩, HX.out.t0, HX.out.l0, HX.out.m0⟩
        · rw [Below.heap_setCell _ _ _ _ n1]
          exact grown_row (row_keep ((Kp.refl wa).alloc _) T1.out) HG2.out (fun k hk => (hvn k hk).2.2.1)
        · have hO := own_turn HV2.out (w' := w1.setCell ⟨lb, 0, none⟩ (.slice ad1 (st.length + 1) c1)) (fun k hk => Below.heap_setCell _ _ _ _ (fun e => hr2 (by rw [show k = lb from e] at hk; exact hk)))
          rw [List.length_append, List.map_append]
          exact hO
        · refine HO1.out.turn ?_
          rw [Below.heap_setCell _ _ _ _ (Ne.symm n3)]
          have hmt : mt < wa.heap.size := OM.obj HO1.out |>.elim fun es h => h.elim fun c h => row_lt h
          rw [HG2.out.block mt (by simp; omega) (fun e => (hvn mt e.symm).2.2.2.1 rfl), ((Kp.refl wa).alloc _).blk hmt]
      · rw [World.size_setCell]
        have := HG1.out.size
        have := HG2.out.size
        simp at this
        omega
end Go.Proofs.Ytkaeigklhdpifaa
