/- What the program's reader does. Condition: the reader lies so. -/
import Derived.Test.YtlhiaompcgdmfaaD6
namespace Go.Proofs.Ytlhiaompcgdmfaa
open Go.RowKit
set_option linter.unusedVariables false
set_option linter.unusedSimpArgs false
section
variable {α : Type} {L : Ly α} {e : TypeId} {m by_ : Nat} {w0 : World} {ra ro : Nat}
theorem RL.set (g : Good m L) {w : World} {x : List α} {v u : Value} {j : Nat} (h : RL e m by_ L w (From (w0.heap.size + 2)) x v) : RL e m by_ L (w.setCell ⟨w0.heap.size + 1, j, none⟩ u) (From (w0.heap.size + 2)) x v :=
  h.turn g (Fr.set _ _ _) (by simp) (fun b _ (hb : w0.heap.size + 2 ≤ b) e => by simp at e; omega)
theorem RL.on (g : Good m L) (hl : ra < w0.heap.size ∧ ro < w0.heap.size) {w w' : World} {x : List α} {v : Value} (h : RL e m by_ L w (From (w0.heap.size + 2)) x v) (hw : WS ra ro w w') : RL e m by_ L w' (From (w0.heap.size + 2)) x v :=
  h.turn g hw.fr hw.sz (fun b _ (hb : w0.heap.size + 2 ≤ b) e => by omega)
theorem RL.acc (g : Good m L) (hl : ra < w0.heap.size ∧ ro < w0.heap.size) {β : Type} {M : Ly β} {cs : Value → Array Value} {T e2 : TypeId} {m2 : Nat} {wb w : World} {acc : List β} {x : List α} {v : Value} (h : RL e m by_ L wb (From (w0.heap.size + 2)) x v) (ha : AccG cs T e2 m2 M wb (w0.heap.size + 1) ra ro w acc) : RL e m by_ L w (From (w0.heap.size + 2)) x v := by
  have h1 := (h.below g (Nat.le_refl wb.heap.size)).turn g (N := fun k => ¬ (k < wb.heap.size ∧ k ≠ ra ∧ k ≠ ro ∧ k ≠ w0.heap.size + 1)) (w' := w) (fun k hk hn => by
    have hn2 := Classical.not_not.1 hn
    exact ha.blk k hn2.1 hn2.2.1 hn2.2.2.1 hn2.2.2.2) ha.sz (fun b _ (hb : w0.heap.size + 2 ≤ b ∧ b < wb.heap.size) e => e ⟨hb.2, by omega, by omega, by omega⟩)
  exact h1.weak g (show Sel.le (From (w0.heap.size + 2)) ⟨True, fun b => w0.heap.size + 2 ≤ b ∧ b < wb.heap.size⟩ from ⟨fun h => h, fun b hb => hb.1⟩)
theorem BX.acc (g : Good m L) {cs0 : Array Value} {cs : Value → Array Value} {T : TypeId} {rb : Nat} {wb w : World} {acc : List α} (hx : BX T w0 rb ra ro cs0 wb) (ha : AccG cs T e m L wb (w0.heap.size + 1) ra ro w acc) (hby : 2147483648 * by_ ≤ 140737488351232) :
    ∃ ad c, BX T w0 rb ra ro (cs (.slice ad acc.length c)) w ∧ RL e m by_ L w (From (w0.heap.size + 2)) acc (.slice ad acc.length c) := by
  obtain ⟨v, h3, h4⟩ := ha.row
  obtain ⟨ad, c, rfl⟩ := h4.form
  obtain ⟨l1, l2⟩ := hx.lt
  have hr := row_lt hx.row
  refine ⟨ad, c, ⟨(ha.blk _ (by omega) (by omega) (by omega) (by omega)).trans hx.rd, h3, ⟨ha.os.trans hx.ws.os, ha.tape.trans hx.ws.tape, ha.output.trans hx.ws.output, Nat.le_trans hx.ws.sz ha.sz, fun k hk a b => (ha.blk k (by omega) a b (by omega)).trans (hx.ws.blk k hk a b)⟩, hx.lt⟩, ?_⟩
  have hm := Nat.mul_le_mul_right by_ ha.len
  exact (h4.all g (by omega)).weak g (From_le (by omega))
end
set_option maxHeartbeats 3200000 in
set_option maxRecDepth 100000 in
theorem part_C (a0 a1 a2 a3 : Int) (n rb ra ro p rx : Nat) (l : List UInt8) (wb : World) (h0 : rb < wb.heap.size) (h1 : ra < wb.heap.size) (h2 : ro < wb.heap.size) (hp : p < wb.heap.size) (hpa : p ≠ ra) (hpo : p ≠ ro) (hpb : p ≠ rb) (hpn : n ≤ p) (hrx : wb.heap[rx]? = some (.cells #[.func (.func 46) #[] #[.pointer (some ⟨rb, 0, none⟩), .pointer (some ⟨ra, 0, none⟩), .pointer (some ⟨ro, 0, none⟩)], .func (.func 48) #[] #[.pointer (some ⟨ro, 0, none⟩)]] 95 (0, 0))) (hxa : rx ≠ ra) (hxo : rx ≠ ro) (hxp : rx ≠ p) (w : World) (acc : List Cs) (st : St) (h : RD w n rb ra ro l st) (ha : AccG (fun v => #[.int .i64 a0, .int .i64 a1, .int .i64 a2, .int .u64 a3, v]) 55 90 4 LC wb p ra ro w acc) (hal : acc.length ≤ 2147483647) :
    Calls Try.prog 77 #[.pointer (some ⟨p, 0, none⟩), .pointer (some ⟨rx, 0, none⟩)] w fun e w' => e = .returned (.tuple #[]) ∧ ∃ x, Got pCase l st x ∧ RD w' n rb ra ro l (stepS pCase l st) ∧ AccG (fun v => #[.int .i64 a0, .int .i64 a1, .int .i64 a2, .int .u64 a3, v]) 55 90 4 LC wb p ra ro w' (acc ++ [x]) ∧ PF p 4 ra ro w w' := by
  obtain ⟨iI, hI, hI0, hI1, hI2⟩ := info_parts infoC
  have HO := Lib.hid (accG_ok (j := 4) (cs := (fun v => #[.int .i64 a0, .int .i64 a1, .int .i64 a2, .int .u64 a3, v])) (T := 55) (e := 90) (wb := wb) (p := p) (ra := ra) (ro := ro) goodC (fun v => rfl) h1 h2 hp hpa hpo)
  have HR := Lib.hid h
  have HA := Lib.hid ha
  have HB := Lib.hid ((ha.blk rx (row_lt hrx) hxa hxo hxp).trans hrx)
  obtain ⟨⟨v, h3, h4⟩, _, _, _, h7, _, _⟩ := ha
  have HV := Lib.hid h3
  have HG := Lib.hid h4
  have g0 : w.cell? ⟨p, 4, none⟩ = some v := row_cell h3 4
  obtain ⟨c0, c1⟩ := row2 HB.out
  clear h h3 h4 hrx
  go_enter Try.func77, Try.ntmps77
  go_region_law (first | (refine step_go (by rfl) (step_call (f := 78) (by rfl) Try.func78 (by kernel_rfl) (by kernel_rfl) (by simp [Act.eval]) ((c_sel n rb ra ro l st _ (HR.out.keep ((Kp.refl w).drew))).mono ?_)); rintro e w1 ⟨x, _, rfl, ⟨rfl, hx0, hx1, hx2⟩, hg, hr, hw⟩; refine ⟨_, rfl, ?_⟩; have HGX := Lib.hid hg; have HR1 := Lib.hid hr; have HW1 := Lib.hid (((Kp.refl w).drew.ws (ra := ra) (ro := ro)).trans hw); clear hg hr hw; have HA1 := Lib.hid (HO.out.ws _ _ _ HA.out HW1.out); have HV1 := Lib.hid (HW1.out.heap HV.out hpa hpo); have HG1 := Lib.hid (HG.out.turn goodC HW1.out.fr HW1.out.sz (fun b _ hb e => (by omega))); have g0 : w1.cell? ⟨p, 4, none⟩ = some v := row_cell HV1.out 4; have z1 := row_lt HV1.out; have z2 : wb.heap.size ≤ w1.heap.size := HA1.out.sz) | (refine step_append_gr goodC (by rfl) _ _ 53 (by rfl) 90 iI _ 32 Try.underlying53 hI hI0 hI1 hI2 rfl (by decide) v acc wb.heap.size (by rfl) w1 HG1.out z2 x [.bool x.s, .int .i64 x.c, .int .i64 x.v, .int .i64 x.t] (fun _ => False) _ 1 (by rfl) (by first | rfl | simp) rfl ⟨rfl, hx0, hx1, hx2⟩ (fun b hb => hb.elim) (by unfold maxLen; omega) (by omega) ?_; intro g' cap w2 hgr hg2 hat hlt hB2; have HG2 := Lib.hid hgr; have HGW := Lib.hid hg2; have HAT := Lib.hid hat; have HV2 := Lib.hid (grown_row (row_keep ((Kp.refl w1).alloc _) HV1.out) hg2 (fun k hk => (by have := (HG1.out.lt k hk).1; omega))); have q0 : w2.cell? ⟨p, 4, none⟩ = some v := row_cell HV2.out 4; have qf := frozen_of_row _ _ 4 _ _ HV2.out; clear hgr hg2 hat))
  all_goals
    have he := part_end (j := 4) (cs := (fun v => #[.int .i64 a0, .int .i64 a1, .int .i64 a2, .int .u64 a3, v])) (fun v => rfl) (fun v v2 => rfl) h1 h2 hp hpa hpo hpb hpn goodC h0 HA1.out HR1.out HW1.out HV.out h7 ((Kp.refl w1).alloc _) HGW.out HG2.out HAT.out HV2.out hal (fun k hk => (HG1.out.lt k hk).1)
    exact end_none (by rfl) (by rfl) ⟨rfl, x, HGX.out, he⟩
theorem lst_C (a0 a1 a2 a3 : Int) (n rb ra ro : Nat) (l : List UInt8) (w0 wb : World) (st : St) (hb : rb < w0.heap.size) (hx : BX 55 w0 rb ra ro #[.int .i64 a0, .int .i64 a1, .int .i64 a2, .int .u64 a3, .slice none 0 0] wb) (hr : RD wb n rb ra ro l st) :
    Calls Try.prog 63 #[.agg #[.func (.func 46) #[] #[.pointer (some ⟨rb, 0, none⟩), .pointer (some ⟨ra, 0, none⟩), .pointer (some ⟨ro, 0, none⟩)], .func (.func 48) #[] #[.pointer (some ⟨ro, 0, none⟩)]], .func (.func 77) #[] #[.pointer (some ⟨w0.heap.size + 1, 0, none⟩), .pointer (some ⟨w0.heap.size, 0, none⟩)]] wb fun e w' => e = .returned (.tuple #[]) ∧ ∃ acc, Got (pList pCase) l st acc ∧ RD w' n rb ra ro l (stepS (pList pCase) l st) ∧ AccG (fun v => #[.int .i64 a0, .int .i64 a1, .int .i64 a2, .int .u64 a3, v]) 55 90 4 LC wb (w0.heap.size + 1) ra ro w' acc := by
  obtain ⟨l1, l2⟩ := hx.lt
  obtain ⟨n1, n2, n3, n4, n5⟩ := hr.ne
  have hz := row_lt hx.row
  exact each_C pCase n rb ra ro (w0.heap.size + 1) w0.heap.size 4 l _ (accG_ok (j := 4) (cs := (fun v => #[.int .i64 a0, .int .i64 a1, .int .i64 a2, .int .u64 a3, v])) (T := 55) (e := 90) (wb := wb) (p := w0.heap.size + 1) (ra := ra) (ro := ro) goodC (fun v => rfl) (by omega) (by omega) (by omega) (by omega) (by omega)) (fun w' acc st' hr ha hl => part_C a0 a1 a2 a3 n rb ra ro (w0.heap.size + 1) w0.heap.size l wb (by omega) (by omega) (by omega) (by omega) (by omega) (by omega) (by omega) (by omega) hx.rd (by omega) (by omega) (by omega) w' acc st' hr ha hl) wb st hr ⟨⟨_, hx.row, gr_nil⟩, rfl, rfl, rfl, Nat.le_refl _, fun _ _ _ _ _ => rfl, by simp⟩
set_option maxHeartbeats 3200000 in
set_option maxRecDepth 100000 in
theorem c_ins (n rb ra ro : Nat) (l : List UInt8) (st : St) (w : World) (h : RD w n rb ra ro l st) :
    Calls Try.prog 75 #[.agg #[.func (.func 46) #[] #[.pointer (some ⟨rb, 0, none⟩), .pointer (some ⟨ra, 0, none⟩), .pointer (some ⟨ro, 0, none⟩)], .func (.func 48) #[] #[.pointer (some ⟨ro, 0, none⟩)]]] w (RdP pIns (fun w' x v => ∃ ad c, v = .agg #[.int .i64 x.o, .int .i64 x.a, .int .i64 x.b, .int .u64 x.n, .slice ad x.cs.length c] ∧ CL w' (From w.heap.size) x.cs (.slice ad x.cs.length c) ∧ i64 x.o ∧ i64 x.a ∧ i64 x.b ∧ 0 ≤ x.n ∧ x.n ≤ 18446744073709551615) n rb ra ro l st w) := by
  obtain ⟨l1, l2, l3⟩ := h.lt
  obtain ⟨n1, n2, n3, n4, n5⟩ := h.ne
  have HC : Hid (w.heap.size + 1 ≠ rb ∧ w.heap.size + 1 ≠ ra ∧ w.heap.size + 1 ≠ ro ∧ n ≤ w.heap.size + 1) := Lib.hid ⟨by omega, by omega, by omega, by omega⟩
  have HB := Lib.hid l3
  have HLT := Lib.hid (And.intro l1 l2)
  have HX0 := Lib.hid (BX.start 55 w rb ra ro #[.int .i64 0, .int .i64 0, .int .i64 0, .int .u64 0, .slice none 0 0] ⟨l1, l2⟩)
  have HR0 := Lib.hid (h.keep (((Kp.refl w).alloc (.cells #[.func (.func 46) #[] #[.pointer (some ⟨rb, 0, none⟩), .pointer (some ⟨ra, 0, none⟩), .pointer (some ⟨ro, 0, none⟩)], .func (.func 48) #[] #[.pointer (some ⟨ro, 0, none⟩)]] 95)).alloc (.cells #[.int .i64 0, .int .i64 0, .int .i64 0, .int .u64 0, .slice none 0 0] 55)))
  have HS := Lib.hid (SeqI.start pIns l st)
  have HY := Lib.hid (show (18446744073709551615 : Int) = ((18446744073709551615 : Nat) : Int) from rfl)
  obtain ⟨c0, c1⟩ := row2 HX0.out.rd
  obtain ⟨q0, q1, q2, q3, q4⟩ := row5 HX0.out.row
  have f0 := frozen_of_row _ _ 0 _ _ HX0.out.row
  have f1 := frozen_of_row _ _ 1 _ _ HX0.out.row
  have f2 := frozen_of_row _ _ 2 _ _ HX0.out.row
  have f3 := frozen_of_row _ _ 3 _ _ HX0.out.row
  have f4 := frozen_of_row _ _ 4 _ _ HX0.out.row
  clear h
  rw [pIns] at HS
  go_enter Try.func75, Try.ntmps75
  go_wp2_with (first | (go_at_call 72; (with_reducible refine (int_0 n rb ra ro _ _ _ HR0.out).mono ?_); rintro e w1 ⟨x0, _, rfl, ⟨rfl, hxa0, hxb0⟩, hg, hr, hw⟩; have HX1 := Lib.hid (HX0.out.on hw); have HR1 := Lib.hid hr; have HS := Lib.hid (HS.out.next hg); obtain ⟨c0, c1⟩ := row2 HX1.out.rd; obtain ⟨q0, q1, q2, q3, q4⟩ := row5 HX1.out.row; have f0 := frozen_of_row _ _ 0 _ _ HX1.out.row; have f1 := frozen_of_row _ _ 1 _ _ HX1.out.row; have f2 := frozen_of_row _ _ 2 _ _ HX1.out.row; have f3 := frozen_of_row _ _ 3 _ _ HX1.out.row; have f4 := frozen_of_row _ _ 4 _ _ HX1.out.row; clear hg hr hw) | (go_at_call 72; (with_reducible refine (int_m n rb ra ro _ _ _ (HR1.out.set (w.heap.size + 1) 0 _ HC.out)).mono ?_); rintro e w2 ⟨x1, _, rfl, ⟨rfl, hxa1, hxb1⟩, hg, hr, hw⟩; have HX2 := Lib.hid ((HX1.out.set 0 _).on hw); have HR2 := Lib.hid hr; have HS := Lib.hid (HS.out.next hg); obtain ⟨c0, c1⟩ := row2 HX2.out.rd; obtain ⟨q0, q1, q2, q3, q4⟩ := row5 HX2.out.row; have f0 := frozen_of_row _ _ 0 _ _ HX2.out.row; have f1 := frozen_of_row _ _ 1 _ _ HX2.out.row; have f2 := frozen_of_row _ _ 2 _ _ HX2.out.row; have f3 := frozen_of_row _ _ 3 _ _ HX2.out.row; have f4 := frozen_of_row _ _ 4 _ _ HX2.out.row; clear hg hr hw) | (go_at_call 72; (with_reducible refine (int_m n rb ra ro _ _ _ (HR2.out.set (w.heap.size + 1) 1 _ HC.out)).mono ?_); rintro e w3 ⟨x2, _, rfl, ⟨rfl, hxa2, hxb2⟩, hg, hr, hw⟩; have HX3 := Lib.hid ((HX2.out.set 1 _).on hw); have HR3 := Lib.hid hr; have HS := Lib.hid (HS.out.next hg); obtain ⟨c0, c1⟩ := row2 HX3.out.rd; obtain ⟨q0, q1, q2, q3, q4⟩ := row5 HX3.out.row; have f0 := frozen_of_row _ _ 0 _ _ HX3.out.row; have f1 := frozen_of_row _ _ 1 _ _ HX3.out.row; have f2 := frozen_of_row _ _ 2 _ _ HX3.out.row; have f3 := frozen_of_row _ _ 3 _ _ HX3.out.row; have f4 := frozen_of_row _ _ 4 _ _ HX3.out.row; clear hg hr hw) | (go_at_call 46; (with_reducible refine (c_rd1I 18446744073709551615 n rb ra ro _ _ _ _ (HR3.out.set (w.heap.size + 1) 2 _ HC.out) (by decide) HY.out).mono ?_); rintro e w4 ⟨x3, rfl, hxb3, hg, hr, hw⟩; have HX4 := Lib.hid ((HX3.out.set 2 _).on hw); have HR4 := Lib.hid hr; have HS := Lib.hid (HS.out.next hg); obtain ⟨c0, c1⟩ := row2 HX4.out.rd; obtain ⟨q0, q1, q2, q3, q4⟩ := row5 HX4.out.row; have f0 := frozen_of_row _ _ 0 _ _ HX4.out.row; have f1 := frozen_of_row _ _ 1 _ _ HX4.out.row; have f2 := frozen_of_row _ _ 2 _ _ HX4.out.row; have f3 := frozen_of_row _ _ 3 _ _ HX4.out.row; have f4 := frozen_of_row _ _ 4 _ _ HX4.out.row; clear hg hr hw) | (go_at_call 63; have hx1 : BX 55 w rb ra ro #[.int .i64 x0, .int .i64 x1, .int .i64 x2, .int .u64 (x3 : Int), .slice none 0 0] _ := HX4.out.set 3 (.int .u64 (x3 : Int)); (with_reducible refine (lst_C x0 x1 x2 (x3 : Int) n rb ra ro _ w _ _ HB.out hx1 (HR4.out.set (w.heap.size + 1) 3 _ HC.out)).mono ?_); rintro e w5 ⟨rfl, x4, hg, hr, ha⟩; obtain ⟨ad1, cp1, hx, hl⟩ := BX.acc goodC hx1 ha (by_ := 32) (by decide); have HX5 := Lib.hid hx; have HL1 := Lib.hid hl; have HR5 := Lib.hid hr; have HS := Lib.hid (HS.out.next hg); obtain ⟨c0, c1⟩ := row2 HX5.out.rd; obtain ⟨q0, q1, q2, q3, q4⟩ := row5 HX5.out.row; have f0 := frozen_of_row _ _ 0 _ _ HX5.out.row; have f1 := frozen_of_row _ _ 1 _ _ HX5.out.row; have f2 := frozen_of_row _ _ 2 _ _ HX5.out.row; have f3 := frozen_of_row _ _ 3 _ _ HX5.out.row; have f4 := frozen_of_row _ _ 4 _ _ HX5.out.row; clear hg hr ha hx hl hx1))
  obtain ⟨iC, hC, hC0, hC1, hC2⟩ := info_parts infoN
  refine ret_row (by rfl) (by rfl) (((((HX5.out.set _ _).set _ _).set _ _).set _ _).set _ _).row Try.underlying55 hC (by rw [hC1]; rfl) (by rfl) ⟨_, _, rfl, ?_, HS.out.fin.1, ?_, (((((HX5.out.set _ _).set _ _).set _ _).set _ _).set _ _).ws⟩
  · exact ⟨ad1, cp1, rfl, ((RL.set goodC (RL.set goodC (RL.set goodC (RL.set goodC (RL.set goodC HL1.out))))).weak goodC (From_le (by omega))), by unfold i64; dsimp only; omega, by unfold i64; dsimp only; omega, by unfold i64; dsimp only; omega, by dsimp only; omega, by dsimp only; omega⟩
  · rw [show stepS pIns l st = _ from HS.out.fin.2.symm]
    exact (((((HR5.out.set _ _ _ HC.out).set _ _ _ HC.out).set _ _ _ HC.out).set _ _ _ HC.out).set _ _ _ HC.out)
end Go.Proofs.Ytlhiaompcgdmfaa
