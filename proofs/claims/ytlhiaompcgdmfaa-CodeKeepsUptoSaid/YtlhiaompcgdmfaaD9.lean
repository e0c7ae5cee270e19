/- What the program's reader does. Condition: the reader lies so. -/
import Derived.Test.YtlhiaompcgdmfaaD8
namespace Go.Proofs.Ytlhiaompcgdmfaa
open Go.RowKit
set_option linter.unusedVariables false
set_option linter.unusedSimpArgs false
theorem infoM : (Try.prog.info? 25).map (fun i => (i.zero, i.size, i.bytes)) = some (some (.agg #[.slice none 0 0, .slice none 0 0]), 2, 48) := by kernel_rfl
set_option maxHeartbeats 3200000 in
set_option maxRecDepth 100000 in
theorem c_sh (n rb ra ro : Nat) (l : List UInt8) (st : St) (w : World) (h : RD w n rb ra ro l st) :
    Calls Try.prog 65 #[.agg #[.func (.func 46) #[] #[.pointer (some ⟨rb, 0, none⟩), .pointer (some ⟨ra, 0, none⟩), .pointer (some ⟨ro, 0, none⟩)], .func (.func 48) #[] #[.pointer (some ⟨ro, 0, none⟩)]]] w (RdP pSh (fun w' x v => ∃ ad c, v = .agg #[.int .i64 x.k, .slice ad x.l.length c, .int .i64 x.r] ∧ IL w' (From w.heap.size) x.l (.slice ad x.l.length c) ∧ i64 x.k ∧ i64 x.r) n rb ra ro l st w) := by
  obtain ⟨l1, l2, l3⟩ := h.lt
  obtain ⟨n1, n2, n3, n4, n5⟩ := h.ne
  have HC : Hid (w.heap.size + 1 ≠ rb ∧ w.heap.size + 1 ≠ ra ∧ w.heap.size + 1 ≠ ro ∧ n ≤ w.heap.size + 1) := Lib.hid ⟨by omega, by omega, by omega, by omega⟩
  have HB := Lib.hid l3
  have HLT := Lib.hid (And.intro l1 l2)
  have HX0 := Lib.hid (BX.start 48 w rb ra ro #[.int .i64 0, .slice none 0 0, .int .i64 0] ⟨l1, l2⟩)
  have HR0 := Lib.hid (h.keep (((Kp.refl w).alloc (.cells #[.func (.func 46) #[] #[.pointer (some ⟨rb, 0, none⟩), .pointer (some ⟨ra, 0, none⟩), .pointer (some ⟨ro, 0, none⟩)], .func (.func 48) #[] #[.pointer (some ⟨ro, 0, none⟩)]] 95)).alloc (.cells #[.int .i64 0, .slice none 0 0, .int .i64 0] 48)))
  have HS := Lib.hid (SeqI.start pSh l st)
  have HY := Lib.hid (show (18446744073709551615 : Int) = ((18446744073709551615 : Nat) : Int) from rfl)
  obtain ⟨c0, c1⟩ := row2 HX0.out.rd
  obtain ⟨q0, q1, q2⟩ := row3 HX0.out.row
  have f0 := frozen_of_row _ _ 0 _ _ HX0.out.row
  have f1 := frozen_of_row _ _ 1 _ _ HX0.out.row
  have f2 := frozen_of_row _ _ 2 _ _ HX0.out.row
  clear h
  rw [pSh] at HS
  go_enter Try.func65, Try.ntmps65
  go_wp2_with (first | (go_at_call 72; (with_reducible refine (int_0 n rb ra ro _ _ _ HR0.out).mono ?_); rintro e w1 ⟨x0, _, rfl, ⟨rfl, hxa0, hxb0⟩, hg, hr, hw⟩; have HX1 := Lib.hid (HX0.out.on hw); have HR1 := Lib.hid hr; have HS := Lib.hid (HS.out.next hg); obtain ⟨c0, c1⟩ := row2 HX1.out.rd; obtain ⟨q0, q1, q2⟩ := row3 HX1.out.row; have f0 := frozen_of_row _ _ 0 _ _ HX1.out.row; have f1 := frozen_of_row _ _ 1 _ _ HX1.out.row; have f2 := frozen_of_row _ _ 2 _ _ HX1.out.row; clear hg hr hw) | (go_at_call 73; (with_reducible refine (c_ints n rb ra ro _ _ _ (HR1.out.set (w.heap.size + 1) 0 _ HC.out)).mono ?_); rintro e w2 ⟨x1, _, rfl, hv, hg, hr, hw⟩; have HL1 := Lib.hid (RL.weak goodI hv (From_le (a := w.heap.size + 2) (by have := row_lt HX1.out.row; simp; omega))); obtain ⟨ad1, cp1, _, rfl, _⟩ := hv; have HX2 := Lib.hid ((HX1.out.set 0 _).on hw); have HR2 := Lib.hid hr; have HS := Lib.hid (HS.out.next hg); obtain ⟨c0, c1⟩ := row2 HX2.out.rd; obtain ⟨q0, q1, q2⟩ := row3 HX2.out.row; have f0 := frozen_of_row _ _ 0 _ _ HX2.out.row; have f1 := frozen_of_row _ _ 1 _ _ HX2.out.row; have f2 := frozen_of_row _ _ 2 _ _ HX2.out.row; clear hg hr hw) | (go_at_call 72; (with_reducible refine (int_0 n rb ra ro _ _ _ (HR2.out.set (w.heap.size + 1) 1 _ HC.out)).mono ?_); rintro e w3 ⟨x2, _, rfl, ⟨rfl, hxa2, hxb2⟩, hg, hr, hw⟩; have HX3 := Lib.hid ((HX2.out.set 1 _).on hw); have HR3 := Lib.hid hr; have HS := Lib.hid (HS.out.next hg); obtain ⟨c0, c1⟩ := row2 HX3.out.rd; obtain ⟨q0, q1, q2⟩ := row3 HX3.out.row; have f0 := frozen_of_row _ _ 0 _ _ HX3.out.row; have f1 := frozen_of_row _ _ 1 _ _ HX3.out.row; have f2 := frozen_of_row _ _ 2 _ _ HX3.out.row; have HL1 := Lib.hid ((RL.on goodI HLT.out (RL.set goodI HL1.out (j := 1)) hw)); clear hg hr hw))
  obtain ⟨iC, hC, hC0, hC1, hC2⟩ := info_parts infoS
  refine ret_row (by rfl) (by rfl) ((((HX3.out.set _ _).set _ _).set _ _).set _ _).row Try.underlying48 hC (by rw [hC1]; rfl) (by rfl) ⟨_, _, rfl, ?_, HS.out.fin.1, ?_, ((((HX3.out.set _ _).set _ _).set _ _).set _ _).ws⟩
  · exact ⟨ad1, cp1, rfl, ((RL.set goodI (RL.set goodI (RL.set goodI (RL.set goodI HL1.out)))).weak goodI (From_le (by omega))), by unfold i64; dsimp only; omega, by unfold i64; dsimp only; omega⟩
  · rw [show stepS pSh l st = _ from HS.out.fin.2.symm]
    exact ((((HR3.out.set _ _ _ HC.out).set _ _ _ HC.out).set _ _ _ HC.out).set _ _ _ HC.out)
set_option maxHeartbeats 3200000 in
set_option maxRecDepth 100000 in
theorem part_S (n rb ra ro p rx : Nat) (l : List UInt8) (wb : World) (h0 : rb < wb.heap.size) (h1 : ra < wb.heap.size) (h2 : ro < wb.heap.size) (hp : p < wb.heap.size) (hpa : p ≠ ra) (hpo : p ≠ ro) (hpb : p ≠ rb) (hpn : n ≤ p) (hrx : wb.heap[rx]? = some (.cells #[.func (.func 46) #[] #[.pointer (some ⟨rb, 0, none⟩), .pointer (some ⟨ra, 0, none⟩), .pointer (some ⟨ro, 0, none⟩)], .func (.func 48) #[] #[.pointer (some ⟨ro, 0, none⟩)]] 95 (0, 0))) (hxa : rx ≠ ra) (hxo : rx ≠ ro) (hxp : rx ≠ p) (w : World) (acc : List Sh) (st : St) (h : RD w n rb ra ro l st) (ha : AccG (fun v => #[v, .slice none 0 0]) 25 48 3 LS wb p ra ro w acc) (hal : acc.length ≤ 2147483647) :
    Calls Try.prog 64 #[.pointer (some ⟨p, 0, none⟩), .pointer (some ⟨rx, 0, none⟩)] w fun e w' => e = .returned (.tuple #[]) ∧ ∃ x, Got pSh l st x ∧ RD w' n rb ra ro l (stepS pSh l st) ∧ AccG (fun v => #[v, .slice none 0 0]) 25 48 3 LS wb p ra ro w' (acc ++ [x]) ∧ PF p 0 ra ro w w' := by
  obtain ⟨iI, hI, hI0, hI1, hI2⟩ := info_parts infoS
  have HO := Lib.hid (accG_ok (j := 0) (cs := (fun v => #[v, .slice none 0 0])) (T := 25) (e := 48) (wb := wb) (p := p) (ra := ra) (ro := ro) goodS (fun v => rfl) h1 h2 hp hpa hpo)
  have HR := Lib.hid h
  have HA := Lib.hid ha
  have HB := Lib.hid ((ha.blk rx (row_lt hrx) hxa hxo hxp).trans hrx)
  obtain ⟨⟨v, h3, h4⟩, _, _, _, h7, _, _⟩ := ha
  have HV := Lib.hid h3
  have HG := Lib.hid h4
  have g0 : w.cell? ⟨p, 0, none⟩ = some v := row_cell h3 0
  obtain ⟨c0, c1⟩ := row2 HB.out
  clear h h3 h4 hrx
  go_enter Try.func64, Try.ntmps64
  go_region_law (first | (refine step_go (by rfl) (step_call (f := 65) (by rfl) Try.func65 (by kernel_rfl) (by kernel_rfl) (by simp [Act.eval]) ((c_sh n rb ra ro l st _ (HR.out.keep ((Kp.refl w).drew))).mono ?_)); rintro e w1 ⟨x, _, rfl, ⟨ad, c, rfl, hl1, hx0, hx1⟩, hg, hr, hw⟩; refine ⟨_, rfl, ?_⟩; have HGX := Lib.hid hg; have HR1 := Lib.hid hr; have HW1 := Lib.hid (((Kp.refl w).drew.ws (ra := ra) (ro := ro)).trans hw); clear hg hr hw; have HA1 := Lib.hid (HO.out.ws _ _ _ HA.out HW1.out); have HV1 := Lib.hid (HW1.out.heap HV.out hpa hpo); have HG1 := Lib.hid (HG.out.turn goodS HW1.out.fr HW1.out.sz (fun b _ hb e => (by omega))); have g0 : w1.cell? ⟨p, 0, none⟩ = some v := row_cell HV1.out 0; have z1 := row_lt HV1.out; have z2 : wb.heap.size ≤ w1.heap.size := HA1.out.sz) | (refine step_append_gr goodS (by rfl) _ _ 22 (by rfl) 48 iI _ 40 Try.underlying22 hI hI0 hI1 hI2 rfl (by decide) v acc wb.heap.size (by rfl) w1 HG1.out z2 x [.int .i64 x.k, .slice ad x.l.length c, .int .i64 x.r] (fun b => w.heap.size ≤ b) _ 1 (by rfl) (by first | rfl | simp) rfl ⟨_, rfl, hl1, hx0, hx1⟩ (fun b hb => ⟨(by have hb2 : w.heap.size ≤ b := hb; omega), fun e => (by have hb2 : w.heap.size ≤ b := hb; have := (HG.out.lt b e.symm).2; omega)⟩) (by unfold maxLen; omega) (by omega) ?_; intro g' cap w2 hgr hg2 hat hlt hB2; have HG2 := Lib.hid hgr; have HGW := Lib.hid hg2; have HAT := Lib.hid hat; have HV2 := Lib.hid (grown_row (row_keep ((Kp.refl w1).alloc _) HV1.out) hg2 (fun k hk => (by have := (HG1.out.lt k hk).1; omega))); have q0 : w2.cell? ⟨p, 0, none⟩ = some v := row_cell HV2.out 0; have qf := frozen_of_row _ _ 0 _ _ HV2.out; clear hgr hg2 hat))
  all_goals
    have he := part_end (j := 0) (cs := (fun v => #[v, .slice none 0 0])) (fun v => rfl) (fun v v2 => rfl) h1 h2 hp hpa hpo hpb hpn goodS h0 HA1.out HR1.out HW1.out HV.out h7 ((Kp.refl w1).alloc _) HGW.out HG2.out HAT.out HV2.out hal (fun k hk => (HG1.out.lt k hk).1)
    exact end_none (by rfl) (by rfl) ⟨rfl, x, HGX.out, he⟩
theorem lst_S (n rb ra ro : Nat) (l : List UInt8) (w0 wb : World) (st : St) (hb : rb < w0.heap.size) (hx : BX 25 w0 rb ra ro #[.slice none 0 0, .slice none 0 0] wb) (hr : RD wb n rb ra ro l st) :
    Calls Try.prog 63 #[.agg #[.func (.func 46) #[] #[.pointer (some ⟨rb, 0, none⟩), .pointer (some ⟨ra, 0, none⟩), .pointer (some ⟨ro, 0, none⟩)], .func (.func 48) #[] #[.pointer (some ⟨ro, 0, none⟩)]], .func (.func 64) #[] #[.pointer (some ⟨w0.heap.size + 1, 0, none⟩), .pointer (some ⟨w0.heap.size, 0, none⟩)]] wb fun e w' => e = .returned (.tuple #[]) ∧ ∃ acc, Got (pList pSh) l st acc ∧ RD w' n rb ra ro l (stepS (pList pSh) l st) ∧ AccG (fun v => #[v, .slice none 0 0]) 25 48 3 LS wb (w0.heap.size + 1) ra ro w' acc := by
  obtain ⟨l1, l2⟩ := hx.lt
  obtain ⟨n1, n2, n3, n4, n5⟩ := hr.ne
  have hz := row_lt hx.row
  exact each_S pSh n rb ra ro (w0.heap.size + 1) w0.heap.size 0 l _ (accG_ok (j := 0) (cs := (fun v => #[v, .slice none 0 0])) (T := 25) (e := 48) (wb := wb) (p := w0.heap.size + 1) (ra := ra) (ro := ro) goodS (fun v => rfl) (by omega) (by omega) (by omega) (by omega) (by omega)) (fun w' acc st' hr ha hl => part_S n rb ra ro (w0.heap.size + 1) w0.heap.size l wb (by omega) (by omega) (by omega) (by omega) (by omega) (by omega) (by omega) (by omega) hx.rd (by omega) (by omega) (by omega) w' acc st' hr ha hl) wb st hr ⟨⟨_, hx.row, gr_nil⟩, rfl, rfl, rfl, Nat.le_refl _, fun _ _ _ _ _ => rfl, by simp⟩
set_option maxHeartbeats 3200000 in
set_option maxRecDepth 100000 in
theorem part_U (ad1 : Option Addr) (m1 k1 : Nat) (n rb ra ro p rx : Nat) (l : List UInt8) (wb : World) (h0 : rb < wb.heap.size) (h1 : ra < wb.heap.size) (h2 : ro < wb.heap.size) (hp : p < wb.heap.size) (hpa : p ≠ ra) (hpo : p ≠ ro) (hpb : p ≠ rb) (hpn : n ≤ p) (hrx : wb.heap[rx]? = some (.cells #[.func (.func 46) #[] #[.pointer (some ⟨rb, 0, none⟩), .pointer (some ⟨ra, 0, none⟩), .pointer (some ⟨ro, 0, none⟩)], .func (.func 48) #[] #[.pointer (some ⟨ro, 0, none⟩)]] 95 (0, 0))) (hxa : rx ≠ ra) (hxo : rx ≠ ro) (hxp : rx ≠ p) (w : World) (acc : List Fu) (st : St) (h : RD w n rb ra ro l st) (ha : AccG (fun v => #[.slice ad1 m1 k1, v]) 25 51 5 LF wb p ra ro w acc) (hal : acc.length ≤ 2147483647) :
    Calls Try.prog 66 #[.pointer (some ⟨p, 0, none⟩), .pointer (some ⟨rx, 0, none⟩)] w fun e w' => e = .returned (.tuple #[]) ∧ ∃ x, Got pFu l st x ∧ RD w' n rb ra ro l (stepS pFu l st) ∧ AccG (fun v => #[.slice ad1 m1 k1, v]) 25 51 5 LF wb p ra ro w' (acc ++ [x]) ∧ PF p 1 ra ro w w' := by
  obtain ⟨iI, hI, hI0, hI1, hI2⟩ := info_parts infoF
  have HO := Lib.hid (accG_ok (j := 1) (cs := (fun v => #[.slice ad1 m1 k1, v])) (T := 25) (e := 51) (wb := wb) (p := p) (ra := ra) (ro := ro) goodF (fun v => rfl) h1 h2 hp hpa hpo)
  have HR := Lib.hid h
  have HA := Lib.hid ha
  have HB := Lib.hid ((ha.blk rx (row_lt hrx) hxa hxo hxp).trans hrx)
  obtain ⟨⟨v, h3, h4⟩, _, _, _, h7, _, _⟩ := ha
  have HV := Lib.hid h3
  have HG := Lib.hid h4
  have g0 : w.cell? ⟨p, 1, none⟩ = some v := row_cell h3 1
  obtain ⟨c0, c1⟩ := row2 HB.out
  clear h h3 h4 hrx
  go_enter Try.func66, Try.ntmps66
  go_region_law (first | (refine step_go (by rfl) (step_call (f := 67) (by rfl) Try.func67 (by kernel_rfl) (by kernel_rfl) (by simp [Act.eval]) ((c_fu n rb ra ro l st _ (HR.out.keep ((Kp.refl w).drew))).mono ?_)); rintro e w1 ⟨x, _, rfl, ⟨bd1, d1, bd2, d2, bd3, d3, rfl, hl1, hl2, hl3, hx0, hx1⟩, hg, hr, hw⟩; refine ⟨_, rfl, ?_⟩; have HGX := Lib.hid hg; have HR1 := Lib.hid hr; have HW1 := Lib.hid (((Kp.refl w).drew.ws (ra := ra) (ro := ro)).trans hw); clear hg hr hw; have HA1 := Lib.hid (HO.out.ws _ _ _ HA.out HW1.out); have HV1 := Lib.hid (HW1.out.heap HV.out hpa hpo); have HG1 := Lib.hid (HG.out.turn goodF HW1.out.fr HW1.out.sz (fun b _ hb e => (by omega))); have g0 : w1.cell? ⟨p, 1, none⟩ = some v := row_cell HV1.out 1; have z1 := row_lt HV1.out; have z2 : wb.heap.size ≤ w1.heap.size := HA1.out.sz) | (refine step_append_gr goodF (by rfl) _ _ 23 (by rfl) 51 iI _ 88 Try.underlying23 hI hI0 hI1 hI2 rfl (by decide) v acc wb.heap.size (by rfl) w1 HG1.out z2 x [.int .i64 x.p, .slice bd1 x.lo.length d1, .slice bd2 x.ca.length d2, .int .i64 x.r, .slice bd3 x.co.length d3] (fun b => w.heap.size ≤ b) _ 1 (by rfl) (by first | rfl | simp) rfl ⟨_, _, _, rfl, hl1, hl2, hl3, hx0, hx1⟩ (fun b hb => ⟨(by have hb2 : w.heap.size ≤ b := hb; omega), fun e => (by have hb2 : w.heap.size ≤ b := hb; have := (HG.out.lt b e.symm).2; omega)⟩) (by unfold maxLen; omega) (by omega) ?_; intro g' cap w2 hgr hg2 hat hlt hB2; have HG2 := Lib.hid hgr; have HGW := Lib.hid hg2; have HAT := Lib.hid hat; have HV2 := Lib.hid (grown_row (row_keep ((Kp.refl w1).alloc _) HV1.out) hg2 (fun k hk => (by have := (HG1.out.lt k hk).1; omega))); have q0 : w2.cell? ⟨p, 1, none⟩ = some v := row_cell HV2.out 1; have qf := frozen_of_row _ _ 1 _ _ HV2.out; clear hgr hg2 hat))
  all_goals
    have he := part_end (j := 1) (cs := (fun v => #[.slice ad1 m1 k1, v])) (fun v => rfl) (fun v v2 => rfl) h1 h2 hp hpa hpo hpb hpn goodF h0 HA1.out HR1.out HW1.out HV.out h7 ((Kp.refl w1).alloc _) HGW.out HG2.out HAT.out HV2.out hal (fun k hk => (HG1.out.lt k hk).1)
    exact end_none (by rfl) (by rfl) ⟨rfl, x, HGX.out, he⟩
theorem lst_U (ad1 : Option Addr) (m1 k1 : Nat) (n rb ra ro : Nat) (l : List UInt8) (w0 wb : World) (st : St) (hb : rb < w0.heap.size) (hx : BX 25 w0 rb ra ro #[.slice ad1 m1 k1, .slice none 0 0] wb) (hr : RD wb n rb ra ro l st) :
    Calls Try.prog 63 #[.agg #[.func (.func 46) #[] #[.pointer (some ⟨rb, 0, none⟩), .pointer (some ⟨ra, 0, none⟩), .pointer (some ⟨ro, 0, none⟩)], .func (.func 48) #[] #[.pointer (some ⟨ro, 0, none⟩)]], .func (.func 66) #[] #[.pointer (some ⟨w0.heap.size + 1, 0, none⟩), .pointer (some ⟨w0.heap.size, 0, none⟩)]] wb fun e w' => e = .returned (.tuple #[]) ∧ ∃ acc, Got (pList pFu) l st acc ∧ RD w' n rb ra ro l (stepS (pList pFu) l st) ∧ AccG (fun v => #[.slice ad1 m1 k1, v]) 25 51 5 LF wb (w0.heap.size + 1) ra ro w' acc := by
  obtain ⟨l1, l2⟩ := hx.lt
  obtain ⟨n1, n2, n3, n4, n5⟩ := hr.ne
  have hz := row_lt hx.row
  exact each_U pFu n rb ra ro (w0.heap.size + 1) w0.heap.size 1 l _ (accG_ok (j := 1) (cs := (fun v => #[.slice ad1 m1 k1, v])) (T := 25) (e := 51) (wb := wb) (p := w0.heap.size + 1) (ra := ra) (ro := ro) goodF (fun v => rfl) (by omega) (by omega) (by omega) (by omega) (by omega)) (fun w' acc st' hr ha hl => part_U ad1 m1 k1 n rb ra ro (w0.heap.size + 1) w0.heap.size l wb (by omega) (by omega) (by omega) (by omega) (by omega) (by omega) (by omega) (by omega) hx.rd (by omega) (by omega) (by omega) w' acc st' hr ha hl) wb st hr ⟨⟨_, hx.row, gr_nil⟩, rfl, rfl, rfl, Nat.le_refl _, fun _ _ _ _ _ => rfl, by simp⟩
set_option maxHeartbeats 3200000 in
set_option maxRecDepth 100000 in
theorem c_mo (n rb ra ro : Nat) (l : List UInt8) (st : St) (w : World) (h : RD w n rb ra ro l st) :
    Calls Try.prog 49 #[.agg #[.func (.func 46) #[] #[.pointer (some ⟨rb, 0, none⟩), .pointer (some ⟨ra, 0, none⟩), .pointer (some ⟨ro, 0, none⟩)], .func (.func 48) #[] #[.pointer (some ⟨ro, 0, none⟩)]]] w (RdP pMo (fun w' x v => ∃ ad1 c1 ad2 c2, v = .agg #[.slice ad1 x.ty.length c1, .slice ad2 x.fu.length c2] ∧ SL w' (From w.heap.size) x.ty (.slice ad1 x.ty.length c1) ∧ FL w' (From w.heap.size) x.fu (.slice ad2 x.fu.length c2)) n rb ra ro l st w) := by
  obtain ⟨l1, l2, l3⟩ := h.lt
  obtain ⟨n1, n2, n3, n4, n5⟩ := h.ne
  have HC : Hid (w.heap.size + 1 ≠ rb ∧ w.heap.size + 1 ≠ ra ∧ w.heap.size + 1 ≠ ro ∧ n ≤ w.heap.size + 1) := Lib.hid ⟨by omega, by omega, by omega, by omega⟩
  have HB := Lib.hid l3
  have HLT := Lib.hid (And.intro l1 l2)
  have HX0 := Lib.hid (BX.start 25 w rb ra ro #[.slice none 0 0, .slice none 0 0] ⟨l1, l2⟩)
  have HR0 := Lib.hid (h.keep (((Kp.refl w).alloc (.cells #[.func (.func 46) #[] #[.pointer (some ⟨rb, 0, none⟩), .pointer (some ⟨ra, 0, none⟩), .pointer (some ⟨ro, 0, none⟩)], .func (.func 48) #[] #[.pointer (some ⟨ro, 0, none⟩)]] 95)).alloc (.cells #[.slice none 0 0, .slice none 0 0] 25)))
  have HS := Lib.hid (SeqI.start pMo l st)
  have HY := Lib.hid (show (18446744073709551615 : Int) = ((18446744073709551615 : Nat) : Int) from rfl)
  obtain ⟨c0, c1⟩ := row2 HX0.out.rd
  obtain ⟨q0, q1⟩ := row2 HX0.out.row
  have f0 := frozen_of_row _ _ 0 _ _ HX0.out.row
  have f1 := frozen_of_row _ _ 1 _ _ HX0.out.row
  clear h
  rw [pMo] at HS
  go_enter Try.func49, Try.ntmps49
  go_wp2_with (first | (go_at_call 63; have hx1 : BX 25 w rb ra ro #[.slice none 0 0, .slice none 0 0] _ := HX0.out; (with_reducible refine (lst_S  n rb ra ro _ w _ _ HB.out hx1 HR0.out).mono ?_); rintro e w1 ⟨rfl, x0, hg, hr, ha⟩; obtain ⟨ad1, cp1, hx, hl⟩ := BX.acc goodS hx1 ha (by_ := 40) (by decide); have HX1 := Lib.hid hx; have HL1 := Lib.hid hl; have HR1 := Lib.hid hr; have HS := Lib.hid (HS.out.next hg); obtain ⟨c0, c1⟩ := row2 HX1.out.rd; obtain ⟨q0, q1⟩ := row2 HX1.out.row; have f0 := frozen_of_row _ _ 0 _ _ HX1.out.row; have f1 := frozen_of_row _ _ 1 _ _ HX1.out.row; clear hg hr ha hx hl hx1) | (go_at_call 63; have hx1 : BX 25 w rb ra ro #[.slice ad1 x0.length cp1, .slice none 0 0] _ := HX1.out; (with_reducible refine (lst_U ad1 x0.length cp1 n rb ra ro _ w _ _ HB.out hx1 HR1.out).mono ?_); rintro e w2 ⟨rfl, x1, hg, hr, ha⟩; obtain ⟨ad2, cp2, hx, hl⟩ := BX.acc goodF hx1 ha (by_ := 88) (by decide); have HX2 := Lib.hid hx; have HL2 := Lib.hid hl; have HR2 := Lib.hid hr; have HS := Lib.hid (HS.out.next hg); obtain ⟨c0, c1⟩ := row2 HX2.out.rd; obtain ⟨q0, q1⟩ := row2 HX2.out.row; have f0 := frozen_of_row _ _ 0 _ _ HX2.out.row; have f1 := frozen_of_row _ _ 1 _ _ HX2.out.row; have HL1 := Lib.hid (RL.acc goodS HLT.out HL1.out ha); clear hg hr ha hx hl hx1))
  obtain ⟨iC, hC, hC0, hC1, hC2⟩ := info_parts infoM
  refine ret_row (by rfl) (by rfl) ((HX2.out.set _ _).set _ _).row Try.underlying25 hC (by rw [hC1]; rfl) (by rfl) ⟨_, _, rfl, ?_, HS.out.fin.1, ?_, ((HX2.out.set _ _).set _ _).ws⟩
  · exact ⟨ad1, cp1, ad2, cp2, rfl, ((RL.set goodS (RL.set goodS HL1.out)).weak goodS (From_le (by omega))), ((RL.set goodF (RL.set goodF HL2.out)).weak goodF (From_le (by omega)))⟩
  · rw [show stepS pMo l st = _ from HS.out.fin.2.symm]
    exact ((HR2.out.set _ _ _ HC.out).set _ _ _ HC.out)
end Go.Proofs.Ytlhiaompcgdmfaa
