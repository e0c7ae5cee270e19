/- A module that shares nothing, as two rows of the call's own that may grow. Condition: the module lies in memory. -/
import Derived.Test.YtkkcoaecidjecaaO1
namespace Go.Proofs.Ytkkcoaecidjecaa
open Go.RowKit
set_option linter.unusedVariables false
set_option linter.unusedSimpArgs false
/-- What Own answers: two rows of its own, the one made ahead of the other. -/
def OwnG (m : Mo) (w : World) (e : Ending) (w' : World) : Prop :=
  ∃ z1 z2 wq B1, e = .returned (.agg #[z1, z2]) ∧ w.heap.size ≤ B1 ∧ B1 ≤ wq.heap.size ∧ wq.heap.size ≤ w'.heap.size ∧ GR 45 3 LS wq B1 m.ty z1 ∧ (∀ k, B1 ≤ k → k < wq.heap.size → w'.heap[k]? = wq.heap[k]?) ∧ GR 51 5 LF w' wq.heap.size m.fu z2 ∧ Kp w w'
set_option maxHeartbeats 3200000 in
set_option maxRecDepth 100000 in
theorem c_OwnG (m : Mo) (v1 v2 : Value) (w : World) (hl : LM w A0 m [v1, v2]) :
    Calls Try.prog 11 #[.agg #[v1, v2]] w (OwnG m w) := by
  obtain ⟨iI, hI, hI0, hI1, hI2⟩ := info_parts infoI
  obtain ⟨iC, hC, hC0, hC1, hC2⟩ := info_parts infoC
  obtain ⟨iN, hN, hN0, hN1, hN2⟩ := info_parts infoN
  obtain ⟨iH, hH, hH0, hH1, hH2⟩ := info_parts infoS
  obtain ⟨iU, hU, hU0, hU1, hU2⟩ := info_parts infoF
  obtain ⟨_, _, he, h1, h2⟩ := hl
  simp only [List.cons.injEq, and_true] at he
  obtain ⟨rfl, rfl⟩ := he
  obtain ⟨a1, q1, C1, rfl, hlc1, hby1, hC1, ht1, hx1⟩ := h1
  obtain ⟨a2, q2, C2, rfl, hlc2, hby2, hC2, ht2, hx2⟩ := h2
  have hcap1 : m.ty.length ≤ 140737488351232 := by omega
  have hcap2 : m.fu.length ≤ 140737488351232 := by omega
  have HT1 := Lib.hid ht1
  have HX1 := Lib.hid hx1
  have HY1 := Lib.hid hby1
  have HT2 := Lib.hid ht2
  have HX2 := Lib.hid hx2
  have HY2 := Lib.hid hby2
  clear ht1 hx1 hby1 ht2 hx2 hby2 hC1 hC2 hlc1 hlc2
  go_enter Try.func11, Try.ntmps11
  go_wp2_with (((with_reducible show wpList _ _ _ (⟨none, .store _ (.tmp 3) (.tmp 11), _, _, _, _⟩ :: _) _ _); refine wpList_store_new rfl 25 _ _ rfl _ _ _ (by rfl) (by rfl) (by first | rfl | simp) _ _ rfl (by rfl) (by rfl) (by first | exact all2 rfl rfl | exact all4 rfl rfl rfl rfl | exact all5 rfl rfl rfl rfl hone | exact all3 rfl hone rfl | exact all5 rfl hone1 hone2 rfl hone3 | exact all5 rfl rfl rfl rfl hony | exact all3 rfl hony rfl | exact all5 rfl hony1 hony2 rfl hony3) ?_; intro w3 hq3 hk3 hs3; have HB3 := Lib.hid hq3; have HK3 := Lib.hid hk3; clear hk3 hq3))
  go_loopw [4] (fun i wr => ∃ (k : Nat) (v : Value), k ≤ m.ty.length ∧ i = .int .i64 (k : Int) ∧ OwnF w wr (.slice a1 m.ty.length q1) (.slice a2 m.fu.length q2) v (.slice none 0 0) ∧ GR 45 3 LS wr (w.heap.size + 1 + 1 + 1) (m.ty.take k) v) (fun i _ => m.ty.length - (intOf i).toNat)
  case atStart =>
    refine ⟨0, .slice none 0 0, by omega, rfl, ⟨?_, ?_, HB3.out, ((Kp.refl w).alloc _).alloc _ |>.trans HK3.out, by simp at hs3; omega⟩, gr_nil⟩
    · exact row_keep (((Kp.refl _).alloc _).trans HK3.out) (heap_alloc_new w _)
    · exact row_keep HK3.out (by simpa using heap_alloc_new (w.alloc _) _)
  case round =>
    obtain ⟨k, v, hk, rfl, ho, hgr⟩ := hrel
    obtain ⟨e0, e1, e2, e3, ef0, ef1, es⟩ := ho.cells
    have HO := Lib.hid ho
    have HG := Lib.hid hgr
    clear ho hgr
    by_cases hlt : k < m.ty.length
    · obtain ⟨x, hxk⟩ : ∃ x, m.ty[k]? = some x := ⟨_, List.getElem?_eq_getElem hlt⟩
      obtain ⟨vs, hcx, hil, ix1, ix2⟩ := HX1.out k x hxk
      obtain ⟨b, q, rfl, hr⟩ := (HT1.out.keep HO.out.kp).at (by omega)
      have hrk := hr k hlt
      rw [hcx] at hrk
      have hone := hil.one
      have HQ := Lib.hid hrk
      have HYB := Lib.hid HY1.out
      have HK := Lib.hid hxk
      have HI := Lib.hid (hil.keep goodI HO.out.kp)
      have HX := Lib.hid (And.intro ix1 ix2)
      clear hr hrk hxk hcx hil ix1 ix2
      go_wp2_with (first | ((with_reducible show wpList _ _ _ (⟨some 22, _, _, _, _, _⟩ :: _) _ _); refine wpList_index_tab (d := 22) _ _ _ rfl 45 Try.underlying22 3 rfl _ _ _ _ q (by rfl) rfl k (by rfl) hlt ?_) | ((with_reducible show wpList _ _ _ (⟨some 23, _, _, _, _, _⟩ :: _) _ _); refine wpList_load_range (d := 23) _ _ rfl _ Try.underlying45 wr _ _ _ _ (by rfl) rfl rfl _ HQ.out (Kp.refl wr) (by rfl) ?_) | ((with_reducible show wpList _ _ _ (⟨none, .store _ (.tmp 5) (.tmp 23), _, _, _, _⟩ :: _) _ _); refine wpList_store_new rfl 45 _ _ rfl wr _ _ (by rfl) (by rfl) (by first | rfl | simp) _ _ rfl (by rfl) (by rfl) (by first | exact all2 rfl rfl | exact all4 rfl rfl rfl rfl | exact all5 rfl rfl rfl rfl hone | exact all3 rfl hone rfl | exact all5 rfl hone1 hone2 rfl hone3 | exact all5 rfl rfl rfl rfl hony | exact all3 rfl hony rfl | exact all5 rfl hony1 hony2 rfl hony3) ?_; intro w4 hq4 hk4 hs4; have HB4 := Lib.hid hq4; have HK4 := Lib.hid hk4; clear hk4; obtain ⟨d0, d1, d2⟩ := row3 hq4; have df := frozen_of_row _ _ 1 _ _ hq4; clear hq4; have hz4 : w.heap.size + 1 + 1 + 1 ≤ w4.heap.size := by omega) | ((with_reducible show wpList _ _ _ (⟨some 27, _, _, _, _, _⟩ :: _) _ _); refine wpList_append_copy flatI (d := 27) _ _ 33 rfl 3 iI _ 1 8 Try.underlying33 hI hI0 hI1 hI2 rfl (by decide) (by decide) _ 0 #[] (by rfl) (heap_at (by first | rfl | simp)) rfl (wr.heap.size+1) (by omega) _ _ _ _ (by rfl) (HI.out.keep goodI HK4.out) ((Kp.refl _).alloc _) ?_; intro ad5 c5 w5 hl5 hg5; have HL5 := Lib.hid hl5; have HS5 := Lib.hid (grown_row (row_keep ((Kp.refl _).alloc _) HB4.out) hg5 (fun k hk => by simp at hk; omega)); have HK5 := Lib.hid ((((HK4.out.alloc (.cells #[] 3)))).grown hg5 (fun k hk => by simp at hk; omega)); have HG5 := Lib.hid hg5; clear hl5 hg5; obtain ⟨s0, s1, s2⟩ := row3 HS5.out; have sf := frozen_of_row _ _ 1 _ _ HS5.out; have HS6 := Lib.hid (box3 (v := .slice ad5 x.l.length c5) HS5.out); obtain ⟨t0, t1, t2⟩ := row3 HS6.out; have HK6 := Lib.hid (HK5.out.setCell (p := ⟨wr.heap.size, 1, none⟩) (by simp) (.slice ad5 x.l.length c5)); have HO6 := Lib.hid (HO.out.keep HK6.out); obtain ⟨f0, f1, f2, f3, ff0, ff1, fs⟩ := HO6.out.cells; have HG6 := Lib.hid (HG.out.keep goodS HK6.out)) | ((with_reducible show wpList _ _ _ (⟨some 33, _, _, _, _, _⟩ :: _) _ _); refine wpList_append_gr goodS (d := 33) _ _ 22 rfl 45 iH _ 40 Try.underlying22 hH hH0 hH1 hH2 rfl (by decide) v (m.ty.take k) (w.heap.size+1+1+1) (by rfl) _ HG6.out fs x [.int .i64 x.k,.slice ad5 x.l.length c5,.int .i64 x.r] (fun b=>wr.heap.size+1≤b) _ _ (by rfl) (by first | rfl | simp) rfl (own_sh HL5.out HX.out) (fun b (hb:wr.heap.size+1≤b)=>⟨by omega,fun e=>by have:=(HG.out.lt b e.symm).2;omega⟩) (by have hyb := HYB.out; (try rw [take_len (by omega)]); unfold maxLen; omega) (by have hyb := HYB.out; (try rw [take_len (by omega)]); omega) ?_; intro g7 cap7 w7 hg7 hgr7 hat7 hlt7 hB7; rw [take_len (by omega)]; rw [take_len (by omega)] at hg7; have H7 := Lib.hid hg7; have H8 := Lib.hid hgr7; have HO7 := Lib.hid ((HO6.out.keep ((Kp.refl _).alloc _)).grown hgr7 (fun k hk => (HG.out.lt k hk).1)); clear hg7 hgr7; obtain ⟨j0, j1, j2, j3, jf0, jf1, js⟩ := HO7.out.cells))
      go_roundw
      case rel => exact ⟨k + 1, _, by omega, by go_num, HO7.out.set0 _, by rw [take_next HK.out]; exact GR.turn goodS H7.out (Fr.set _ _ _) (by simp) (fun b _ hb e => by simp at e; omega)⟩
      case measure => simp [intOf]; omega
    · have hge : m.ty.length ≤ k := by omega
      have HS := Lib.hid (show GR 45 3 LS wr (w.heap.size + 1 + 1 + 1) m.ty v by have := HG.out; rwa [List.take_of_length_le hge] at this)
      clear HG
      obtain ⟨wq, hwq⟩ : ∃ wq, wq = wr := ⟨_, rfl⟩
      subst hwq
      go_wp2_with fail
      go_loopw [6] (fun i wt => ∃ (k : Nat) (y : Value), k ≤ m.fu.length ∧ i = .int .i64 (k : Int) ∧ OwnF w wt (.slice a1 m.ty.length q1) (.slice a2 m.fu.length q2) v y ∧ GR 51 5 LF wt wq.heap.size (m.fu.take k) y ∧ Fr (fun b => b = w.heap.size + 1 + 1) wq wt ∧ wq.heap.size ≤ wt.heap.size) (fun i _ => m.fu.length - (intOf i).toNat)
      case atStart => exact ⟨0, _, by omega, rfl, HO.out, gr_nil, fun _ _ _ => rfl, Nat.le_refl _⟩
      case round =>
        obtain ⟨k2, y, hk2, rfl, ho2, hgr2, hfr, hsz2⟩ := hrel
        obtain ⟨wt, hwt⟩ : ∃ wt, wt = wr := ⟨_, rfl⟩
        subst hwt
        obtain ⟨e0', e1', e2', e3', ef0', ef1', es'⟩ := ho2.cells
        have HO2 := Lib.hid ho2
        have HG2 := Lib.hid hgr2
        have HFR := Lib.hid hfr
        clear ho2 hgr2 hfr HO e0 e1 e2 e3 ef0 ef1
        by_cases hlt2 : k2 < m.fu.length
        · obtain ⟨x, hxk⟩ : ∃ x, m.fu[k2]? = some x := ⟨_, List.getElem?_eq_getElem hlt2⟩
          obtain ⟨v1, v2, v3, hcx, hil1, hil2, hil3, ix1, ix2⟩ := HX2.out k2 x hxk
          obtain ⟨b, q, rfl, hr⟩ := (HT2.out.keep HO2.out.kp).at (by omega)
          have hrk := hr k2 hlt2
          rw [hcx] at hrk
          obtain ⟨a3, q3, C3, rfl, _, hby3, hC3, ht3, hx3⟩ := hil3
          have hone1 := hil1.one
          have hone2 := hil2.one
          have hone3 : (Value.slice a3 x.co.length q3).oneCell' = true := rfl
          have hcap3 : x.co.length ≤ 140737488351232 := by omega
          have HQ := Lib.hid hrk
          have HYB := Lib.hid HY2.out
          have HY3 := Lib.hid hby3
          have HK := Lib.hid hxk
          have HI1 := Lib.hid (hil1.keep goodI HO2.out.kp)
          have HI2 := Lib.hid (hil2.keep goodI HO2.out.kp)
          have HT3 := Lib.hid (ht3.keep HO2.out.kp)
          have HX3 := Lib.hid hx3
          have HX := Lib.hid (And.intro ix1 ix2)
          clear hr hrk hxk hcx hil1 hil2 hby3 hC3 ht3 hx3 ix1 ix2
          go_wp2_with (first | ((with_reducible show wpList _ _ _ (⟨some 45, _, _, _, _, _⟩ :: _) _ _); refine wpList_index_tab (d := 45) _ _ _ rfl 51 Try.underlying23 5 rfl _ _ _ _ q (by rfl) rfl k2 (by rfl) hlt2 ?_) | ((with_reducible show wpList _ _ _ (⟨some 46, _, _, _, _, _⟩ :: _) _ _); refine wpList_load_range (d := 46) _ _ rfl _ Try.underlying51 wt _ _ _ _ (by rfl) rfl rfl _ HQ.out (Kp.refl wt) (by rfl) ?_) | ((with_reducible show wpList _ _ _ (⟨none, .store _ (.tmp 7) (.tmp 46), _, _, _, _⟩ :: _) _ _); refine wpList_store_new rfl 51 _ _ rfl wt _ _ (by rfl) (by rfl) (by first | rfl | simp) _ _ rfl (by rfl) (by rfl) (by first | exact all2 rfl rfl | exact all4 rfl rfl rfl rfl | exact all5 rfl rfl rfl rfl hone | exact all3 rfl hone rfl | exact all5 rfl hone1 hone2 rfl hone3 | exact all5 rfl rfl rfl rfl hony | exact all3 rfl hony rfl | exact all5 rfl hony1 hony2 rfl hony3) ?_; intro w4 hq4 hk4 hs4; have HB4 := Lib.hid hq4; have HK4 := Lib.hid hk4; clear hk4; obtain ⟨d0, d1, d2, d3, d4⟩ := row5 hq4; clear hq4; have hz4 : w.heap.size + 1 + 1 + 1 ≤ w4.heap.size := by omega) | ((with_reducible show wpList _ _ _ (⟨some 50, _, _, _, _, _⟩ :: _) _ _); refine wpList_append_copy flatI (d := 50) _ _ 33 rfl 3 iI _ 1 8 Try.underlying33 hI hI0 hI1 hI2 rfl (by decide) (by decide) _ 0 #[] (by rfl) (heap_at (by first | rfl | simp)) rfl (wt.heap.size+1) (by omega) _ _ _ _ (by rfl) (HI1.out.keep goodI HK4.out) ((Kp.refl _).alloc _) ?_; intro ad5 c5 w5 hl5 hg5; have HL5 := Lib.hid hl5; have HK45 := Lib.hid (((Kp.refl w4).alloc (.cells #[] 3)).grown hg5 (fun k hk => by simp at hk; omega)); have HK5 := Lib.hid (HK4.out.trans HK45.out); have HS5 := Lib.hid (row_keep HK45.out HB4.out); have z5 := HK45.out.sz; have z5b : wt.heap.size < w5.heap.size := (by omega); clear hl5 hg5; obtain ⟨s0, s1, s2, s3, s4⟩ := row5 HS5.out; have sf := frozen_of_row _ _ 1 _ _ HS5.out; have HS6 := Lib.hid (box5_1 (v := .slice ad5 x.lo.length c5) HS5.out); obtain ⟨t0, t1, t2, t3, t4⟩ := row5 HS6.out; have HK6 := Lib.hid (HK5.out.setCell (p := ⟨wt.heap.size, 1, none⟩) (by simp) (.slice ad5 x.lo.length c5))) | ((with_reducible show wpList _ _ _ (⟨some 55, _, _, _, _, _⟩ :: _) _ _); refine wpList_append_copy flatI (d := 55) _ _ 33 rfl 3 iI _ 1 8 Try.underlying33 hI hI0 hI1 hI2 rfl (by decide) (by decide) _ 0 #[] (by rfl) (heap_at (by first | rfl | simp)) rfl (wt.heap.size+1) (by omega) _ _ _ _ (by rfl) HI2.out (HK6.out.alloc _) ?_; intro ad6 c6 w6 hl6 hg6; have HL6 := Lib.hid hl6; have HK56 := Lib.hid (((Kp.refl (w5.setCell ⟨wt.heap.size, 1, none⟩ (.slice ad5 x.lo.length c5))).alloc (.cells #[] 3)).grown hg6 (fun k hk => by simp at hk; simp; omega)); have HK7 := Lib.hid (HK6.out.trans HK56.out); have HS7 := Lib.hid (row_keep HK56.out HS6.out); have z6 := HK56.out.sz; simp only [World.size_setCell] at z6; have z6b : wt.heap.size < w6.heap.size := (by omega); have HL7 := Lib.hid ((rl_set (p := ⟨wt.heap.size, 1, none⟩) goodI HL5.out (by simp) (.slice ad5 x.lo.length c5)).keep goodI HK56.out); clear hl6 hg6; obtain ⟨p0, p1, p2, p3, p4⟩ := row5 HS7.out; have pf := frozen_of_row _ _ 2 _ _ HS7.out; have HS8 := Lib.hid (box5_2 (v := .slice ad6 x.ca.length c6) HS7.out); obtain ⟨r0, r1, r2, r3, r4⟩ := row5 HS8.out; have HK8 := Lib.hid (HK7.out.setCell (p := ⟨wt.heap.size, 2, none⟩) (by simp) (.slice ad6 x.ca.length c6)); have HL81 := Lib.hid (rl_set (p := ⟨wt.heap.size, 2, none⟩) goodI HL7.out (by simp) (.slice ad6 x.ca.length c6)); have HL82 := Lib.hid (rl_set (p := ⟨wt.heap.size, 2, none⟩) goodI HL6.out (by simp) (.slice ad6 x.ca.length c6))))
          have HO8 := Lib.hid (HO2.out.keep HK8.out)
          have HG8 := Lib.hid (HG2.out.keep goodF HK8.out)
          have HFR8 := Lib.hid (HFR.out.keep hsz2 HK8.out)
          have HT8 := Lib.hid (HT3.out.keep HK8.out)
          have z8 : wt.heap.size < (w6.setCell ⟨wt.heap.size, 2, none⟩ (.slice ad6 x.ca.length c6)).heap.size := by rw [World.size_setCell]; omega
          clear HK4 HB4 HL5 HK45 HK5 HS5 HS6 HK6 HL6 HK56 HK7 HS7 HL7 HT3 d0 d1 d2 d3 d4 s0 s1 s2 s3 s4 t0 t1 t2 t3 t4 p0 p1 p2 p3 p4 sf pf e0' e1' e2' e3' ef0' ef1' HI1 HI2
          go_loopw [8, 9] (fun l8 i wi => ∃ (j : Nat) (a8 : Option Addr) (c8 : Nat), j ≤ x.co.length ∧ l8 = .slice a8 j c8 ∧ i = .int .i64 (j : Int) ∧ Kp (w6.setCell ⟨wt.heap.size, 2, none⟩ (.slice ad6 x.ca.length c6)) wi ∧ GR 58 5 LN wi w6.heap.size (x.co.take j) (.slice a8 j c8)) (fun _ i _ => x.co.length - (intOf i).toNat)
          case atStart => exact ⟨0, none, 0, by omega, rfl, rfl, Kp.refl _, gr_nil⟩
          case round =>
            obtain ⟨j, a8, c8, hj, rfl, rfl, hki, hgi⟩ := hrel
            obtain ⟨wi, hwi⟩ : ∃ wi, wi = wr := ⟨_, rfl⟩
            subst hwi
            have HKI := Lib.hid hki
            have HGI := Lib.hid hgi
            have HSI := Lib.hid (row_keep hki HS8.out)
            have zw : w6.heap.size ≤ wi.heap.size := by have := hki.sz; rwa [World.size_setCell] at this
            have zi : wt.heap.size < wi.heap.size := by omega
            obtain ⟨y0, y1, y2, y3, y4⟩ := row5 HSI.out
            clear hki hgi r0 r1 r2 r3 r4
            by_cases hlt3 : j < x.co.length
            · obtain ⟨z, hzk⟩ : ∃ z, x.co[j]? = some z := ⟨_, List.getElem?_eq_getElem hlt3⟩
              obtain ⟨vc, hcz, hcl, iz⟩ := HX3.out j z hzk
              obtain ⟨b3, o3, rfl, hr3⟩ := (HT8.out.keep HKI.out).at (by omega)
              have hrz := hr3 j hlt3
              rw [hcz] at hrz
              have hone := hcl.one
              have HQZ := Lib.hid hrz
              have HYB := Lib.hid HY3.out
              have HKZ := Lib.hid hzk
              have HCI := Lib.hid ((hcl.keep goodC HO2.out.kp).keep goodC (HK8.out.trans HKI.out))
              have HXZ := Lib.hid iz
              clear hr3 hrz hzk hcz hcl iz
              go_wp2_with (first | ((with_reducible show wpList _ _ _ (⟨some 67, _, _, _, _, _⟩ :: _) _ _); refine wpList_index_tab (d := 67) _ _ _ rfl 58 Try.underlying49 5 rfl _ _ _ _ o3 (by rfl) rfl j (by rfl) hlt3 ?_) | ((with_reducible show wpList _ _ _ (⟨some 68, _, _, _, _, _⟩ :: _) _ _); refine wpList_load_range (d := 68) _ _ rfl _ Try.underlying58 wi _ _ _ _ (by rfl) rfl rfl _ HQZ.out (Kp.refl wi) (by rfl) ?_) | ((with_reducible show wpList _ _ _ (⟨none, .store _ (.tmp 10) (.tmp 68), _, _, _, _⟩ :: _) _ _); refine wpList_store_new rfl 58 _ _ rfl wi _ _ (by rfl) (by rfl) (by first | rfl | simp) _ _ rfl (by rfl) (by rfl) (by first | exact all2 rfl rfl | exact all4 rfl rfl rfl rfl | exact all5 rfl rfl rfl rfl hone | exact all3 rfl hone rfl | exact all5 rfl hone1 hone2 rfl hone3 | exact all5 rfl rfl rfl rfl hony | exact all3 rfl hony rfl | exact all5 rfl hony1 hony2 rfl hony3) ?_; intro w9 hq9 hk9 hs9; have HB9 := Lib.hid hq9; have HK9 := Lib.hid hk9; clear hk9; obtain ⟨d0, d1, d2, d3, d4⟩ := row5 hq9; clear hq9) | ((with_reducible show wpList _ _ _ (⟨some 72, _, _, _, _, _⟩ :: _) _ _); refine wpList_append_copy flatC (d := 72) _ _ 56 rfl 60 iC _ 4 32 Try.underlying56 hC hC0 hC1 hC2 rfl (by decide) (by decide) _ 0 #[] (by rfl) (heap_at (by first | rfl | simp)) rfl (wi.heap.size+1) (by omega) _ _ _ _ (by rfl) (HCI.out.keep goodC HK9.out) ((Kp.refl _).alloc _) ?_; intro ad10 c10 w10 hl10 hg10; have HL10 := Lib.hid hl10; have HK90 := Lib.hid (((Kp.refl w9).alloc (.cells #[] 60)).grown hg10 (fun k hk => by simp at hk; omega)); have HK10 := Lib.hid (HK9.out.trans HK90.out); have HS10 := Lib.hid (row_keep HK90.out HB9.out); have z10 := HK90.out.sz; have z10b : wi.heap.size < w10.heap.size := (by omega); clear hl10 hg10; obtain ⟨s0, s1, s2, s3, s4⟩ := row5 HS10.out; have sf := frozen_of_row _ _ 4 _ _ HS10.out; have HS11 := Lib.hid (box5_4 (v := .slice ad10 z.cs.length c10) HS10.out); obtain ⟨t0, t1, t2, t3, t4⟩ := row5 HS11.out; have HK11 := Lib.hid (HK10.out.setCell (p := ⟨wi.heap.size, 4, none⟩) (by simp) (.slice ad10 z.cs.length c10)); have HL11 := Lib.hid (rl_set (p := ⟨wi.heap.size, 4, none⟩) goodC HL10.out (by simp) (.slice ad10 z.cs.length c10)); have HG11 := Lib.hid (HGI.out.keep goodN HK11.out); have z11 : w6.heap.size ≤ (w10.setCell ⟨wi.heap.size, 4, none⟩ (.slice ad10 z.cs.length c10)).heap.size := (by rw [World.size_setCell]; omega)) | ((with_reducible show wpList _ _ _ (⟨some 77, _, _, _, _, _⟩ :: _) _ _); refine wpList_append_gr goodN (d := 77) _ _ 49 rfl 58 iN _ 56 Try.underlying49 hN hN0 hN1 hN2 rfl (by decide) (.slice a8 j c8) (x.co.take j) w6.heap.size (by rfl) _ HG11.out z11 z [.int .i64 z.o,.int .i64 z.a,.int .i64 z.b,.int .u64 z.n,.slice ad10 z.cs.length c10] (fun b=>wi.heap.size+1≤b) _ _ (by rfl) (by first | rfl | simp) rfl (own_in HL11.out HXZ.out) (fun b (hb:wi.heap.size+1≤b)=>⟨by omega,fun e=>by have:=(HGI.out.lt b e.symm).2;omega⟩) (by have hyb := HYB.out; (try rw [take_len (by omega)]); unfold maxLen; omega) (by have hyb := HYB.out; (try rw [take_len (by omega)]); omega) ?_; intro g12 cap12 w12 hg12 hgr12 hat12 hlt12 hB12; rw [take_len (by omega)]; rw [take_len (by omega)] at hg12; have H12 := Lib.hid hg12; have HK12 := Lib.hid ((HKI.out.trans (HK11.out.alloc _)).grown hgr12 (fun k hk => by have := (HGI.out.lt k hk).1; rw [World.size_setCell]; exact this)); clear hg12 hgr12))
              go_roundw
              case rel => exact ⟨j + 1, _, _, by omega, rfl, by go_num, HK12.out, by rw [take_next HKZ.out]; exact H12.out⟩
              case measure => simp [intOf]; omega
            · obtain rfl : j = x.co.length := by omega
              have HN := Lib.hid (show NL wi (From w6.heap.size) x.co (.slice a8 x.co.length c8) by have := HGI.out; rw [List.take_of_length_le (Nat.le_refl _)] at this; exact this.all goodN HY3.out)
              have yf := frozen_of_row _ _ 4 _ _ HSI.out
              have HSJ := Lib.hid (box5_4 (v := .slice a8 x.co.length c8) HSI.out)
              obtain ⟨r0, r1, r2, r3, r4⟩ := row5 HSJ.out
              have HKJ := Lib.hid ((HK8.out.trans HKI.out).setCell (p := ⟨wt.heap.size, 4, none⟩) (by simp) (.slice a8 x.co.length c8))
              have HN1 := Lib.hid (rl_set (p := ⟨wt.heap.size, 4, none⟩) goodI (HL81.out.keep goodI HKI.out) (by simp) (.slice a8 x.co.length c8))
              have HN2 := Lib.hid (rl_set (p := ⟨wt.heap.size, 4, none⟩) goodI (HL82.out.keep goodI HKI.out) (by simp) (.slice a8 x.co.length c8))
              have HN3 := Lib.hid ((rl_set (p := ⟨wt.heap.size, 4, none⟩) goodN (n := w6.heap.size) HN.out (by simp; omega) (.slice a8 x.co.length c8)).weak goodN (From_le (show wt.heap.size + 1 ≤ w6.heap.size by omega)))
              have HOJ := Lib.hid (HO2.out.keep HKJ.out)
              have HGJ := Lib.hid (HG2.out.keep goodF HKJ.out)
              have HFJ := Lib.hid (HFR.out.keep hsz2 HKJ.out)
              have HYB := Lib.hid HY2.out
              have zj : wq.heap.size ≤ (wi.setCell ⟨wt.heap.size, 4, none⟩ (.slice a8 x.co.length c8)).heap.size := by rw [World.size_setCell]; omega
              obtain ⟨f0, f1, f2, f3, ff0, ff1, fs⟩ := HOJ.out.cells
              clear HGI HN HL81 HL82 HS8 HK8 HO8 HG8 HFR8 HT8 HKI
              go_wp2_with (((with_reducible show wpList _ _ _ (⟨some 84, _, _, _, _, _⟩ :: _) _ _); refine wpList_append_gr goodF (d := 84) _ _ 23 rfl 51 iU _ 88 Try.underlying23 hU hU0 hU1 hU2 rfl (by decide) y (m.fu.take k2) wq.heap.size (by rfl) _ HGJ.out zj x [.int .i64 x.p,.slice ad5 x.lo.length c5,.slice ad6 x.ca.length c6,.int .i64 x.r,.slice a8 x.co.length c8] (fun b=>wt.heap.size+1≤b) _ _ (by rfl) (by first | rfl | simp) rfl (own_fu HN1.out HN2.out HN3.out HX.out) (fun b (hb:wt.heap.size+1≤b)=>⟨by omega,fun e=>by have:=(HG2.out.lt b e.symm).2;omega⟩) (by have hyb := HYB.out; (try rw [take_len (by omega)]); unfold maxLen; omega) (by have hyb := HYB.out; (try rw [take_len (by omega)]); omega) ?_; intro g12 cap12 w12 hg12 hgr12 hat12 hlt12 hB12; rw [take_len (by omega)]; rw [take_len (by omega)] at hg12; have H12 := Lib.hid hg12; have HO12 := Lib.hid ((HOJ.out.keep ((Kp.refl _).alloc _)).grown hgr12 (fun k hk => by have := (HG2.out.lt k hk).1; omega)); have HF12 := Lib.hid ((HFJ.out.keep zj ((Kp.refl _).alloc _)).grown (by simp; omega) hgr12 (fun k hk => (HG2.out.lt k hk).1)); have z12 := hgr12.size; simp at z12; clear hg12 hgr12; obtain ⟨j0, j1, j2, j3, jf0, jf1, js⟩ := HO12.out.cells))
              go_roundw
              case rel => exact ⟨k2 + 1, _, by omega, by go_num, HO12.out.set1 _, by rw [take_next HK.out]; exact GR.turn goodF H12.out (Fr.set _ _ _) (by simp) (fun b _ hb e => by simp at e; omega), HF12.out.setAt rfl _, by rw [World.size_setCell]; omega⟩
              case measure => simp [intOf]; omega
        · obtain rfl : k2 = m.fu.length := by omega
          have HR1 := Lib.hid ((HS.out.all goodS HY1.out).turn goodS (B := From (w.heap.size + 1 + 1 + 1)) HFR.out hsz2 (fun b _ (hb : w.heap.size + 1 + 1 + 1 ≤ b) e => by omega))
          have HR2 := Lib.hid (show FL wt (From wq.heap.size) m.fu y by have := HG2.out; rw [List.take_of_length_le (Nat.le_refl _)] at this; exact this.all goodF HY2.out)
          obtain ⟨ax, cx, _, rfl, _⟩ := HR1.out
          obtain ⟨ay, cy, _, rfl, _⟩ := HR2.out
          have hr1 := HO2.out.h1
          have rf0 := frozen_of_row _ _ 0 _ _ hr1
          have rf1 := frozen_of_row _ _ 1 _ _ hr1
          obtain ⟨g0, g1⟩ := row2 hr1
          have HB1 := Lib.hid hr1
          clear hr1
          go_wp2_with fail
          have z1 : w.heap.size + 1 < wt.heap.size := by omega
          have hzb : w.heap.size + 1 + 1 + 1 ≤ wq.heap.size := by omega
          refine bodyPost_ret (v := .agg #[.slice ax m.ty.length cx, .slice ay m.fu.length cy]) (by simp [results, Try.results11, go_sem, g0, g1, z1]) rfl ⟨_, _, wq, w.heap.size + 1 + 1 + 1, rfl, by omega, hzb, by rw [World.size_setCell, World.size_setCell]; exact hsz2, HS.out, ?_, ?_, ?_⟩
          · intro k hk1 hk2
            rw [Below.heap_setCell _ _ _ _ (by simp; omega), Below.heap_setCell _ _ _ _ (by simp; omega)]
            exact HFR.out k hk2 (by omega)
          · have hg := HG2.out
            rw [List.take_of_length_le (Nat.le_refl _)] at hg
            exact GR.turn goodF (GR.turn goodF hg (Fr.set _ _ _) (by simp) (fun b _ hb e => by simp at e; omega)) (Fr.set _ _ _) (by simp) (fun b _ hb e => by simp at e; omega)
          · exact (HO2.out.kp.setCell (by simp) _).setCell (by simp) _
end Go.Proofs.Ytkkcoaecidjecaa
