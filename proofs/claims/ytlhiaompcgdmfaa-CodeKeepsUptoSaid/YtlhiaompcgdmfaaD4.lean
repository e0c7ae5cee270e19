/- What the program's reader does with a list of numbers. Condition: the reader lies so. -/
import Derived.Test.YtlhiaompcgdmfaaD3
import Derived.Test.YtlhiaompcgdmfaaO1
import Derived.Deep.RegionLaw
namespace Go.Proofs.Ytlhiaompcgdmfaa
open Go.RowKit
set_option linter.unusedVariables false
set_option linter.unusedSimpArgs false
section
variable {P : Program} {ops : Array Oper} {Q : Exit → Act → World → Prop}
theorem step_go {o : Oper} {a : Act} {w : World} {K : Act → World → Prop} {E : Prop} (hgd : o.guard = none) (h : o.wp P a w K Q) : if Region.wanted o (yielded ops a.tmps) = true then Oper.wp P o a w K Q else E := by
  have hw : Region.wanted o (yielded ops a.tmps) = true := by simp [Region.wanted, hgd]
  rw [if_pos hw]
  exact h
theorem step_call {o : Oper} {a : Act} {w : World} {K : Act → World → Prop} {f : FuncId} {fn : Func} {args : Array Operand} {tys : Array TypeId} (ho : o.op = .call { callee := .value (.func f), args := args, argTypes := tys })
    (hf : P.funcs[f]? = some fn) (hname : (fn.name == "runtime.NumGoroutine") = false) (hb : fn.body.isNone = false) {vals : Array Value} (hv : args.map a.eval = vals)
    (h : Calls P f vals w fun e w' => ∃ v, e = .returned v ∧ K (a.put o.dst v) w') : o.wp P a w K Q := by
  have h1 : ¬ fn.name = "runtime.NumGoroutine" := by simpa using hname
  have h2 : ¬ fn.body = none := by cases hx : fn.body <;> simp_all
  have hrun : (execOp a.eval o).run P w = .ok (.enter f (args.map a.eval)) w := by
    unfold execOp
    simp [ho, resolve, Deferred.ofValue, invoke, callFunc, hf, h1, h2, Act.eval]
  unfold Oper.wp
  rw [hrun, Oper.upon_enter, hv]
  exact h.mono (fun e w' ⟨v, h1, h2⟩ => by subst h1; exact h2)
end
section
variable {w : World} {ops : Array Oper} {a : Act} {Q : Exit → Act → World → Prop}
/-- 'l = append(l, x)', where x is laid just now. -/
theorem step_append_gr {α : Type} {L : Ly α} {m : Nat} (gd : Good m L) {o : Oper} {K : Act → World → Prop} {E : Prop} (hgd : o.guard = none) (s x : Operand) (t : TypeId)
    (hop : o.op = .call { callee := .builtin .append, args := #[s, x], argTypes := #[t, t] })
    (e : TypeId) (i : TypeInfo) (z : Value) (bytes : Nat) (ht : Try.prog.underlying t = some (.slice e)) (hi : Try.prog.info? e = some i) (hz : i.zero = some z)
    (hsize : i.size = m) (hby : i.bytes = bytes) (hzs : z.cells.size = m) (hsz : 0 < m)
    (v : Value) (l : List α) (B : Nat) (hs : a.eval s = v) (w1 : World) (hgr : GR e m L w1 B l v) (hB : B ≤ w1.heap.size)
    (y : α) (cs : List Value) (S : Nat → Prop) (g c : Nat) (hx : a.eval x = .slice (some ⟨g, 0, none⟩) 1 c) (hg : g = w1.heap.size) (hw : w = w1.alloc (.cells cs.toArray e)) (hy : L w1 ⟨True, S⟩ y cs) (hS : ∀ b, S b → B ≤ b ∧ some b ≠ v.ownBlock)
    (h63 : l.length + 1 ≤ maxLen) (hbytes : (l.length + 1) * bytes ≤ 140737488355328)
    (h : ∀ g' cap w', GR e m L w' B (l ++ [y]) (.slice (some ⟨g', 0, none⟩) (l.length + 1) cap) → w.grownBy w' v.ownBlock → (v.ownBlock = some g' ∨ g' = w1.heap.size + 1) → g' < w'.heap.size → B ≤ g' → K (a.put o.dst (.slice (some ⟨g', 0, none⟩) (l.length + 1) cap)) w') : if Region.wanted o (yielded ops a.tmps) = true then Oper.wp Try.prog o a w K Q else E := by
  subst hw
  subst hg
  have hk := (Kp.refl w1).alloc (.cells cs.toArray e)
  have hgr2 := hgr.keep gd hk
  obtain ⟨C, h1, hown, h3⟩ := hgr2
  have hy2 := gd.keep hy hk
  obtain ⟨hl2, ho2⟩ := gd.len hy
  refine step_append_lies (w1.alloc (.cells cs.toArray e)) hgd s x t hop B e i z m bytes ht hi hz hsize hby hzs hsz v l.length _ hs hown ⟨w1.heap.size, 0, none⟩ 1 c cs hx (by omega) ?_ ho2 (by omega) h63 hbytes (by simp; omega) (w1.heap.size + 1) (by simp) (fun g' cap w' a1 a2 a3 a4 => h g' cap w' ?_ a2 a3 a4 ?_)
  · intro j u hu
    rw [Addr.add_mid, Nat.zero_add, cell_of_row _ w1.heap.size j cs.toArray e (0, 0) (heap_alloc_new _ _)]
    simpa using hu
  · exact GR.next gd h1 h3 hy2 hS a1 a2 (by
      rcases a3 with a3 | a3
      · exact .inl a3.symm
      · right; rw [a3]; simp [Value.ownBlock])
  · exact (a1.lt g' rfl).1
end
theorem RD.turn {w w' : World} {n rb ra ro : Nat} {l : List UInt8} {st : St} (h : RD w n rb ra ro l st) (hs : w.heap.size ≤ w'.heap.size) {S : Nat → Prop} (hf : Fr S w w') (hS : ∀ k, S k → k ≠ rb ∧ k ≠ ra ∧ k ≠ ro ∧ n ≤ k) : RD w' n rb ra ro l st := by
  obtain ⟨v, h1, h2⟩ := h.hb
  refine ⟨⟨v, (hf _ (row_lt h1) (fun e => (hS _ e).1 rfl)).trans h1, h2.turn goodB hf hs (fun b _ (hb : b < n) e => by have := (hS _ e).2.2.2; omega)⟩, (hf _ (row_lt h.ha) (fun e => (hS _ e).2.1 rfl)).trans h.ha, (hf _ (row_lt h.ho) (fun e => (hS _ e).2.2.1 rfl)).trans h.ho, h.ne, h.le⟩
/-- What a row's growing turns, and the header's store. -/
theorem grow_fr {w1 wa w2 : World} {o : Option Nat} {p j : Nat} {v2 : Value} (hk : Kp w1 wa) (hg : wa.grownBy w2 o) : Fr (fun k => k = p ∨ o = some k) w1 (w2.setCell ⟨p, j, none⟩ v2) := fun k hk1 hn =>
  (Below.heap_setCell _ _ _ _ (fun e => hn (.inl e))).trans ((hg.block k (Nat.lt_of_lt_of_le hk1 hk.sz) (fun e => hn (.inr e.symm))).trans (hk.blk hk1))
theorem PF.grow {p j ra ro : Nat} {w w1 wa w2 : World} {v v2 : Value} (hw : WS ra ro w w1) (hk : Kp w1 wa) (hg : wa.grownBy w2 v.ownBlock) (h1 : p < w.heap.size) (hpa : p ≠ ra) (hpo : p ≠ ro) (hc : w.cell? ⟨p, j, none⟩ = some v)
    (hc2 : (w2.setCell ⟨p, j, none⟩ v2).cell? ⟨p, j, none⟩ = some v2) (h2 : ∀ k, v2.ownBlock = some k → v.ownBlock = some k ∨ w.heap.size ≤ k) : PF p j ra ro w (w2.setCell ⟨p, j, none⟩ v2) := by
  refine ⟨?_, fun k hk1 ha ho hp hr => ?_, fun k ⟨u, h3, h4⟩ => ?_⟩
  · have := hw.sz; have := hk.sz; have := hg.size; simp; omega
  · have hs := hw.sz
    rw [grow_fr hk hg (p := p) (j := j) (v2 := v2) k (by omega) (by
      rintro (e | e)
      · exact hp e
      · exact hr ⟨v, hc, e⟩)]
    exact hw.blk k hk1 ha ho
  · rw [hc2] at h3
    cases h3
    rcases h2 k h4 with h5 | h5
    · exact .inl ⟨v, hc, h5⟩
    · exact .inr h5
/-- The list that is read, in a cell of its box. -/
structure AccG {α : Type} (cs : Value → Array Value) (T e : TypeId) (m : Nat) (L : Ly α) (wb : World) (p ra ro : Nat) (w : World) (acc : List α) : Prop where
  row : ∃ v, w.heap[p]? = some (.cells (cs v) T (0, 0)) ∧ GR e m L w wb.heap.size acc v
  os : w.os = wb.os
  tape : w.tape = wb.tape
  output : w.output = wb.output
  sz : wb.heap.size ≤ w.heap.size
  blk : ∀ k, k < wb.heap.size → k ≠ ra → k ≠ ro → k ≠ p → w.heap[k]? = wb.heap[k]?
  len : acc.length ≤ 2147483648
section
variable {α : Type} {cs : Value → Array Value} {T e : TypeId} {m j : Nat} {L : Ly α} {wb : World} {p ra ro : Nat}
theorem accG_ok (gd : Good m L) (hj : ∀ v, (cs v)[j]? = some v) (h1 : ra < wb.heap.size) (h2 : ro < wb.heap.size) (hp : p < wb.heap.size) (hpa : p ≠ ra) (hpo : p ≠ ro) : AccOK p j ra ro (AccG cs T e m L wb p ra ro) := by
  refine ⟨fun w w' acc h hk => ?_, fun w w' acc h hk => ?_, fun w acc h => ?_⟩
  · obtain ⟨⟨v, h3, h4⟩, h5, h6, h7, h8, h9, h10⟩ := h
    exact ⟨⟨v, row_keep hk h3, h4.keep gd hk⟩, hk.os.trans h5, hk.tape.trans h6, hk.output.trans h7, Nat.le_trans h8 hk.sz, fun k hk1 a b c => (hk.blk (by omega)).trans (h9 k hk1 a b c), h10⟩
  · obtain ⟨⟨v, h3, h4⟩, h5, h6, h7, h8, h9, h10⟩ := h
    exact ⟨⟨v, hk.heap h3 hpa hpo, h4.turn gd hk.fr hk.sz (fun b _ hb e => by omega)⟩, hk.os.trans h5, hk.tape.trans h6, hk.output.trans h7, Nat.le_trans h8 hk.sz, fun k hk1 a b c => (hk.blk k (by omega) a b).trans (h9 k hk1 a b c), h10⟩
  · obtain ⟨⟨v, h3, h4⟩, h5, h6, h7, h8, h9, h10⟩ := h
    refine ⟨by omega, hpa, hpo, fun k ⟨u, h11, h12⟩ => ?_⟩
    have : w.cell? ⟨p, j, none⟩ = some v := (row_cell h3 j).trans (hj v)
    rw [this] at h11
    cases h11
    exact (h4.lt k h12).2
theorem AccG.ws (h1 : ra < wb.heap.size) {w0 w : World} {acc : List α} (h : AccG cs T e m L wb p ra ro w acc) (hk : Kp w0 wb) (hp : w0.heap.size ≤ p) : WS ra ro w0 w :=
  ⟨h.os.trans hk.os, h.tape.trans hk.tape, h.output.trans hk.output, Nat.le_trans hk.sz h.sz, fun k hk1 a b => (h.blk k (Nat.lt_of_lt_of_le hk1 hk.sz) a b (by omega)).trans (hk.blk hk1)⟩
/-- Behind the store of the list that is one longer. -/
theorem part_end (hj : ∀ v, (cs v)[j]? = some v) (hcs : ∀ v v2, (cs v).setIfInBounds j v2 = cs v2) {n rb : Nat} {l : List UInt8} {st : St} (h1 : ra < wb.heap.size) (h2 : ro < wb.heap.size) (hp : p < wb.heap.size) (hpa : p ≠ ra) (hpo : p ≠ ro) (hpb : p ≠ rb) (hpn : n ≤ p) (gd : Good m L) (hb : rb < wb.heap.size)
    {w w1 wa w2 : World} {acc : List α} {x : α} {v : Value} {g' cap : Nat} (hA1 : AccG cs T e m L wb p ra ro w1 acc) (hr : RD w1 n rb ra ro l st) (hw : WS ra ro w w1) (hv : w.heap[p]? = some (.cells (cs v) T (0, 0))) (hsz : wb.heap.size ≤ w.heap.size)
    (hk : Kp w1 wa) (hg : wa.grownBy w2 v.ownBlock) (hG2 : GR e m L w2 wb.heap.size (acc ++ [x]) (.slice (some ⟨g', 0, none⟩) (acc.length + 1) cap)) (hat : v.ownBlock = some g' ∨ g' = w1.heap.size + 1) (hv2 : w2.heap[p]? = some (.cells (cs v) T (0, 0)))
    (hal : acc.length ≤ 2147483647) (hown : ∀ k, v.ownBlock = some k → wb.heap.size ≤ k) :
    RD (w2.setCell ⟨p, j, none⟩ (.slice (some ⟨g', 0, none⟩) (acc.length + 1) cap)) n rb ra ro l st ∧ AccG cs T e m L wb p ra ro (w2.setCell ⟨p, j, none⟩ (.slice (some ⟨g', 0, none⟩) (acc.length + 1) cap)) (acc ++ [x]) ∧ PF p j ra ro w (w2.setCell ⟨p, j, none⟩ (.slice (some ⟨g', 0, none⟩) (acc.length + 1) cap)) := by
  have s0 := hw.sz
  have s1 := hk.sz
  have s2 := hg.size
  have hfr := grow_fr (p := p) (j := j) (v2 := .slice (some ⟨g', 0, none⟩) (acc.length + 1) cap) hk hg
  have hsame := heap_setCell_same w2 p j _ _ (.slice (some ⟨g', 0, none⟩) (acc.length + 1) cap) hv2
  rw [hcs] at hsame
  obtain ⟨n1, n2, n3, n4, n5⟩ := hr.ne
  refine ⟨hr.turn (by simp; omega) hfr (fun k hk => by
    rcases hk with e | e
    · subst e
      exact ⟨hpb, hpa, hpo, hpn⟩
    · have := hown _ e
      omega), ⟨⟨_, hsame, hG2.turn gd (Fr.set _ _ _) (by simp) (fun b _ hb e => by simp at e; omega)⟩, ?_, ?_, ?_, by simp; omega, fun k hk1 a b c => ?_, by simp; omega⟩, ?_⟩
  · exact hg.os.trans (hk.os.trans hA1.os)
  · exact hg.tape.trans (hk.tape.trans hA1.tape)
  · exact hg.output.trans (hk.output.trans hA1.output)
  · refine (hfr k (by omega) (fun e => ?_)).trans (hA1.blk k hk1 a b c)
    rcases e with e | e
    · exact c e
    · have := hown _ e; omega
  · refine PF.grow hw hk hg (row_lt hv) hpa hpo ((row_cell hv j).trans (hj v)) ((row_cell hsame j).trans (hj _)) (fun k hk => ?_)
    simp only [Value.ownBlock, Option.some.injEq] at hk
    subst hk
    rcases hat with e | e
    · exact .inl e
    · right; omega
end
set_option maxHeartbeats 1600000 in
set_option maxRecDepth 100000 in
theorem part_I (n rb ra ro p rx : Nat) (l : List UInt8) (wb : World) (h0 : rb < wb.heap.size) (h1 : ra < wb.heap.size) (h2 : ro < wb.heap.size) (hp : p < wb.heap.size) (hpa : p ≠ ra) (hpo : p ≠ ro) (hpb : p ≠ rb) (hpn : n ≤ p) (hrx : wb.heap[rx]? = some (.cells #[.func (.func 46) #[] #[.pointer (some ⟨rb, 0, none⟩), .pointer (some ⟨ra, 0, none⟩), .pointer (some ⟨ro, 0, none⟩)], .func (.func 48) #[] #[.pointer (some ⟨ro, 0, none⟩)]] 95 (0, 0))) (hxa : rx ≠ ra) (hxo : rx ≠ ro) (hxp : rx ≠ p) (w : World) (acc : List Int) (st : St) (h : RD w n rb ra ro l st) (ha : AccG (fun v => #[v]) 33 3 1 LI wb p ra ro w acc) (hal : acc.length ≤ 2147483647) :
    Calls Try.prog 76 #[.pointer (some ⟨p, 0, none⟩), .pointer (some ⟨rx, 0, none⟩)] w fun e w' => e = .returned (.tuple #[]) ∧ ∃ x, Got (pSmall 0) l st x ∧ RD w' n rb ra ro l (stepS (pSmall 0) l st) ∧ AccG (fun v => #[v]) 33 3 1 LI wb p ra ro w' (acc ++ [x]) ∧ PF p 0 ra ro w w' := by
  obtain ⟨iI, hI, hI0, hI1, hI2⟩ := info_parts infoI
  have HO := Lib.hid (accG_ok (j := 0) (cs := fun v => #[v]) (T := 33) (e := 3) (wb := wb) (p := p) (ra := ra) (ro := ro) goodI (fun v => rfl) h1 h2 hp hpa hpo)
  have HR := Lib.hid h
  have HA := Lib.hid ha
  have HB := Lib.hid ((ha.blk rx (row_lt hrx) hxa hxo hxp).trans hrx)
  obtain ⟨⟨v, h3, h4⟩, _, _, _, h7, _, _⟩ := ha
  have HV := Lib.hid h3
  have HG := Lib.hid h4
  have g0 : w.cell? ⟨p, 0, none⟩ = some v := row_cell h3 0
  obtain ⟨c0, c1⟩ := row2 HB.out
  clear h h3 h4 hrx
  go_enter Try.func76, Try.ntmps76
  go_region_law (first | (refine step_go (by rfl) (step_call (f := 72) (by rfl) Try.func72 (by kernel_rfl) (by kernel_rfl) (by simp [Act.eval]) ((int_0 n rb ra ro l st _ (HR.out.keep ((Kp.refl w).drew))).mono ?_)); rintro e w1 ⟨x, _, rfl, ⟨rfl, hx0, hx1⟩, hg, hr, hw⟩; refine ⟨_, rfl, ?_⟩; have HGX := Lib.hid hg; have HR1 := Lib.hid hr; have HW1 := Lib.hid (((Kp.refl w).drew.ws (ra := ra) (ro := ro)).trans hw); clear hg hr hw; have HA1 := Lib.hid (HO.out.ws _ _ _ HA.out HW1.out); have HV1 := Lib.hid (HW1.out.heap HV.out hpa hpo); have HG1 := Lib.hid (HG.out.turn goodI HW1.out.fr HW1.out.sz (fun b _ hb e => (by omega))); have g0 := row_cell HV1.out 0; have z1 := row_lt HV1.out; have z2 : wb.heap.size ≤ w1.heap.size := HA1.out.sz) | (refine step_append_gr goodI (by rfl) _ _ 33 (by rfl) 3 iI _ 8 Try.underlying33 hI hI0 hI1 hI2 rfl (by decide) v acc wb.heap.size (by rfl) w1 HG1.out z2 x [.int .i64 x] (fun _ => False) _ 1 (by rfl) (by first | rfl | simp) rfl ⟨rfl, (by unfold i64; omega)⟩ (fun b hb => hb.elim) (by unfold maxLen; omega) (by omega) ?_; intro g' cap w2 hgr hg2 hat hlt hB2; have HG2 := Lib.hid hgr; have HGW := Lib.hid hg2; have HAT := Lib.hid hat; have HV2 := Lib.hid (grown_row (row_keep ((Kp.refl w1).alloc _) HV1.out) hg2 (fun k hk => (by have := (HG1.out.lt k hk).1; omega))); have q0 := row_cell HV2.out 0; have qf := frozen_of_row _ _ 0 _ _ HV2.out; clear hgr hg2 hat))
  all_goals
    have he := part_end (j := 0) (cs := fun v => #[v]) (fun v => rfl) (fun v v2 => rfl) h1 h2 hp hpa hpo hpb hpn goodI h0 HA1.out HR1.out HW1.out HV.out h7 ((Kp.refl w1).alloc _) HGW.out HG2.out HAT.out HV2.out hal (fun k hk => (HG1.out.lt k hk).1)
    exact end_none (by rfl) (by rfl) ⟨rfl, x, HGX.out, he⟩
end Go.Proofs.Ytlhiaompcgdmfaa
