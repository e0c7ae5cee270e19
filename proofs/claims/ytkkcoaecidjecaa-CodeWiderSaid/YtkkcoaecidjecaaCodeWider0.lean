/- The walk of CodeWider. Condition: the module lies in memory. -/
import Derived.Test.YtkkcoaecidjecaaCodeForms0
import Derived.Test.YtkkcoaecidjecaaE13
import Derived.Test.YtkkcoaecidjecaaO2
namespace Go.Proofs.Ytkkcoaecidjecaa
open Go.RowKit
set_option linter.unusedVariables false
set_option linter.unusedSimpArgs false
theorem sl_of {m : Mo} {v1 v2 : Value} {w : World} (h : LM w A0 m [v1, v2]) : SL w A0 m.ty v1 ∧ FL w A0 m.fu v2 := by
  obtain ⟨a, b, hab, h1, h2⟩ := h
  simp only [List.cons.injEq] at hab
  obtain ⟨rfl, rfl, _⟩ := hab
  exact ⟨h1, h2⟩
theorem tab_not {w : World} {S : Nat → Prop} {e : TypeId} {a : Option Addr} {n c m : Nat} {C : Nat → List Value} {xb : Nat} {cs : Array Value} {T : TypeId} {fr : Nat × Nat} (h : tab w ⟨True, S⟩ e a n c m C) (hx : w.heap[xb]? = some (.cells cs T fr)) (hT : T ≠ e) : tab w ⟨True, fun b => S b ∧ b ≠ xb⟩ e a n c m C :=
  ⟨h.1, fun hn => by
    obtain ⟨b, o, h1, h2, h3, h4, h5⟩ := h.2 hn
    refine ⟨b, o, h1, ⟨h2, fun e2 => ?_⟩, h3, h4, h5⟩
    subst e2
    obtain ⟨_, cur, h6⟩ := h4 trivial
    rw [hx] at h6
    cases h6
    exact hT rfl⟩
theorem LS_not {w : World} {S : Nat → Prop} {x : Sh} {ds : List Value} {xb : Nat} {cs : Array Value} {T : TypeId} {fr : Nat × Nat} (h : LS w ⟨True, S⟩ x ds) (hx : w.heap[xb]? = some (.cells cs T fr)) (hT : T ≠ 3) : LS w ⟨True, fun b => S b ∧ b ≠ xb⟩ x ds := by
  obtain ⟨v, h1, ⟨a, c, C, h2, h3, h4, h5, h6, h7⟩, h8⟩ := h
  exact ⟨v, h1, ⟨a, c, C, h2, h3, h4, h5, tab_not h6 hx hT, h7⟩, h8⟩
/-- A cell of a block of another kind is written. -/
theorem GRS_set {w : World} {B : Nat} {l : List Sh} {v : Value} {xb j : Nat} {cs : Array Value} {T : TypeId} {fr : Nat × Nat} (h : GR 45 3 LS w B l v) (hx : w.heap[xb]? = some (.cells cs T fr)) (hT : T ≠ 3) (hT2 : T ≠ 45) (u : Value) : GR 45 3 LS (w.setCell ⟨xb, j, none⟩ u) B l v := by
  obtain ⟨C, h1, hown, h3⟩ := h
  have hne : ∀ k, v.ownBlock = some k → k ≠ xb := fun k hk e => by
    subst e
    obtain ⟨_, hv | ⟨gb, cap, cur, rfl, _, hg, _⟩⟩ := hown
    · rw [hv.1] at hk; cases hk
    · cases hk
      rw [hx] at hg
      cases hg
      exact hT2 rfl
  exact ⟨C, h1, own_fr hown (fun k hk => Below.heap_setCell _ _ _ _ (hne k hk)), fun i x hi => goodS.weak (goodS.turn (LS_not (h3 i x hi) hx hT) (Fr.set _ _ _) (by simp) (fun b _ hS e => hS.2 e)) ⟨fun h => h, fun b hb => hb.1⟩⟩
theorem cells_all : ∀ (l seen : List Sh) (c d : List Int), widths l seen c = some d → (∀ x ∈ c, 0 ≤ x ∧ x ≤ 64) → ∀ x ∈ d, 0 ≤ x ∧ x ≤ 64
  | [], seen, c, d, h, hc => by cases h; exact hc
  | s :: l, seen, c, d, h, hc => by
    rw [widths] at h
    split at h
    · rename_i ho
      have h64 : cellsB s c ≤ 64 := by
        unfold okSh at ho
        simp only [Bool.and_eq_true, decide_eq_true_eq] at ho
        exact ho.2.2
      exact cells_all l _ _ d h (cells_next (k := c.length) ⟨rfl, hc⟩ h64).2
    · cases h
set_option maxHeartbeats 8000000 in
set_option maxRecDepth 100000 in
theorem law_CodeWider (m : Mo) (v1 v2 : Value) (w : World) (hx : LM w A0 m [v1, v2]) :
    Calls Try.prog 5 #[.agg #[v1, v2]] w fun e w' => e = .returned (.bool true) ∧ Kp w w' := by
  obtain ⟨iI, hI, hI0, hI1, hI2⟩ := info_parts infoI
  obtain ⟨iH, hH, hH0, hH1, hH2⟩ := info_parts infoS
  have hr := heap_alloc_new w (.cells #[v1, v2] 25)
  obtain ⟨m0, m1⟩ := row2 hr
  have k0 := (Kp.refl w).alloc (.cells #[v1, v2] 25)
  have HK0 := Lib.hid k0
  have HXF : Hid (∀ W, Kp w W → LM W A0 m [v1, v2]) := Lib.hid (fun W h => goodM.keep hx h)
  have HMB : Hid ((w.alloc (.cells #[v1, v2] 25)).heap[w.heap.size]? = some (.cells #[v1, v2] 25 (0, 0))) := Lib.hid hr
  obtain ⟨a1, q1, C1, hv1, _, hby1, _, _, _⟩ := (sl_of hx).1
  subst hv1
  have hc1 : m.ty.length ≤ 3518437208780 := by omega
  have hby1' := hby1
  clear hr hx k0 hby1
  cases hm : measureP m with
  | none =>
    have HCH : Hid (checkE m = 1) := Lib.hid (by simp [checkE, hm])
    clear hm
    go_enter Try.func5, Try.ntmps5
    go_wp2_with (first | (go_at_call 13; (with_reducible refine (c_answers (w.alloc (.cells #[.slice a1 m.ty.length q1, v2] 25))).mono ?_); rintro e w1 ⟨rfl, hk⟩; have HK1 := Lib.hid (HK0.out.trans hk); replace m0 := hk.cellv m0; replace m1 := hk.cellv m1; clear hk) | (go_at_call 11; (with_reducible refine (c_Own m _ v2 w1 (HXF.out _ HK1.out)).mono ?_); rintro e w2 ⟨z1, z2, rfl, hl, hk⟩; have HL2 := Lib.hid (goodM.weak hl (A0_le _)); have HK2 := Lib.hid (HK1.out.trans hk); replace m0 := hk.cellv m0; replace m1 := hk.cellv m1; clear hl hk) | (go_at_call 12; (with_reducible refine (c_Check m _ w2 HL2.out).mono ?_); rintro e w3 ⟨rfl, hk⟩; rw [HCH.out]; have HK3 := Lib.hid (HK2.out.trans hk); replace m0 := hk.cellv m0; replace m1 := hk.cellv m1; clear hk) | (go_at_call 13; (with_reducible refine (c_answers w3).mono ?_); rintro e w4 ⟨rfl, hk⟩; have HK4 := Lib.hid (HK3.out.trans hk); replace m0 := hk.cellv m0; replace m1 := hk.cellv m1; clear hk))
    go_ret
    exact ⟨rfl, HK4.out⟩
  | some c =>
    have HCH : Hid (checkE m = 0) := Lib.hid (by simp [checkE, hm])
    have HWL := Lib.hid (meas_widths hm)
    have HMS := Lib.hid hm
    have hcn : c.length = m.ty.length := by have := cells_len m.ty [] [] c (meas_widths hm); simpa using this
    clear hm
    by_cases g1 : (m.ty.length : Int) = 256
    · clear hcn
      go_enter Try.func5, Try.ntmps5
      go_wp2_with (first | (go_at_call 13; (with_reducible refine (c_answers (w.alloc (.cells #[.slice a1 m.ty.length q1, v2] 25))).mono ?_); rintro e w1 ⟨rfl, hk⟩; have HK1 := Lib.hid (HK0.out.trans hk); replace m0 := hk.cellv m0; replace m1 := hk.cellv m1; clear hk) | (go_at_call 11; (with_reducible refine (c_Own m _ v2 w1 (HXF.out _ HK1.out)).mono ?_); rintro e w2 ⟨z1, z2, rfl, hl, hk⟩; have HL2 := Lib.hid (goodM.weak hl (A0_le _)); have HK2 := Lib.hid (HK1.out.trans hk); replace m0 := hk.cellv m0; replace m1 := hk.cellv m1; clear hl hk) | (go_at_call 12; (with_reducible refine (c_Check m _ w2 HL2.out).mono ?_); rintro e w3 ⟨rfl, hk⟩; rw [HCH.out]; have HK3 := Lib.hid (HK2.out.trans hk); replace m0 := hk.cellv m0; replace m1 := hk.cellv m1; clear hk) | (go_at_call 13; (with_reducible refine (c_answers w3).mono ?_); rintro e w4 ⟨rfl, hk⟩; have HK4 := Lib.hid (HK3.out.trans hk); replace m0 := hk.cellv m0; replace m1 := hk.cellv m1; clear hk))
      go_ret
      exact ⟨rfl, HK4.out⟩
    · by_cases g2 : (m.ty.length : Int) > 16
      · clear hcn
        go_enter Try.func5, Try.ntmps5
        go_wp2_with (first | (go_at_call 13; (with_reducible refine (c_answers (w.alloc (.cells #[.slice a1 m.ty.length q1, v2] 25))).mono ?_); rintro e w1 ⟨rfl, hk⟩; have HK1 := Lib.hid (HK0.out.trans hk); replace m0 := hk.cellv m0; replace m1 := hk.cellv m1; clear hk) | (go_at_call 11; (with_reducible refine (c_Own m _ v2 w1 (HXF.out _ HK1.out)).mono ?_); rintro e w2 ⟨z1, z2, rfl, hl, hk⟩; have HL2 := Lib.hid (goodM.weak hl (A0_le _)); have HK2 := Lib.hid (HK1.out.trans hk); replace m0 := hk.cellv m0; replace m1 := hk.cellv m1; clear hl hk) | (go_at_call 12; (with_reducible refine (c_Check m _ w2 HL2.out).mono ?_); rintro e w3 ⟨rfl, hk⟩; rw [HCH.out]; have HK3 := Lib.hid (HK2.out.trans hk); replace m0 := hk.cellv m0; replace m1 := hk.cellv m1; clear hk) | (go_at_call 13; (with_reducible refine (c_answers w3).mono ?_); rintro e w4 ⟨rfl, hk⟩; have HK4 := Lib.hid (HK3.out.trans hk); replace m0 := hk.cellv m0; replace m1 := hk.cellv m1; clear hk))
        go_ret
        exact ⟨rfl, HK4.out⟩
      · have HG2 : Hid (m.ty.length ≤ 16) := Lib.hid (by omega)
        have HCN := Lib.hid hcn
        have HC64 : cellsOk c c.length := ⟨rfl, cells_all m.ty [] [] c (meas_widths HMS.out) (fun x hx => by simp at hx)⟩
        have hcl : c.length ≤ 16 := by omega
        clear hcn
        go_enter Try.func5, Try.ntmps5
        have hb1 : ((m.ty.length : Int) == 256) = false := by simpa using g1
        have hb2 : decide ((16 : Int) < (m.ty.length : Int)) = false := by simp; omega
        have hone : (Value.slice none 0 0).oneCell' = true := rfl
        go_wp2_with (first | (go_at_call 13; (with_reducible refine (c_answers (w.alloc (.cells #[.slice a1 m.ty.length q1, v2] 25))).mono ?_); rintro e w1 ⟨rfl, hk⟩; have HK1 := Lib.hid (HK0.out.trans hk); replace m0 := hk.cellv m0; replace m1 := hk.cellv m1; clear hk) | (go_at_call 11; (with_reducible refine (c_Own m _ v2 w1 (HXF.out _ HK1.out)).mono ?_); rintro e w2 ⟨z1, z2, rfl, hl, hk⟩; have HL2 := Lib.hid (goodM.weak hl (A0_le _)); have HK2 := Lib.hid (HK1.out.trans hk); replace m0 := hk.cellv m0; replace m1 := hk.cellv m1; clear hl hk) | (go_at_call 12; (with_reducible refine (c_Check m _ w2 HL2.out).mono ?_); rintro e w3 ⟨rfl, hk⟩; rw [HCH.out]; have HK3 := Lib.hid (HK2.out.trans hk); replace m0 := hk.cellv m0; replace m1 := hk.cellv m1; clear hk) | (go_at_call 15; (with_reducible refine (c_Widths m.ty _ w3 (sl_of (HXF.out w3 HK3.out)).1).mono ?_); rintro e w4 ⟨cv, bb, rfl, hk, hsum⟩; have hil := widthsR_some hsum HWL.out; have HK4 := Lib.hid (HK3.out.trans hk); replace m0 := hk.cellv m0; replace m1 := hk.cellv m1; obtain ⟨a2, q2, C2, rfl, _, hby2, _, ht2, hx2⟩ := hil; have HT2 := Lib.hid ht2; have HX2 := Lib.hid hx2; have HM0 := Lib.hid m0; have HM1 := Lib.hid m1; clear hsum hk hby2 ht2 hx2) | ((with_reducible show wpList _ _ _ (⟨none, .store _ (.tmp 6) (.tmp 39), _, _, _, _⟩ :: _) _ _); refine wpList_store_new rfl 45 _ _ rfl w4 _ _ (by rfl) (by rfl) (by first | rfl | simp) _ _ rfl (by rfl) (by rfl) (by first | exact all2 rfl rfl | exact all4 rfl rfl rfl rfl | exact all5 rfl rfl rfl rfl hone | exact all3 rfl hone rfl | exact all5 rfl hone1 hone2 rfl hone3 | exact all5 rfl rfl rfl rfl hony | exact all3 rfl hony rfl | exact all5 rfl hony1 hony2 rfl hony3) ?_; intro w5 hq5 hk5 hs5; have HS5 := Lib.hid hq5; have HK5 := Lib.hid hk5; clear hq5 hk5))
        go_loopw [5, 7] (fun y i wr => ∃ (j : Nat) (V : Value), j ≤ c.length ∧ i = .int .i64 (j : Int) ∧ y = .int .i64 (sumC c (upTo j)) ∧ Hid (GR 3 1 LI wr (w4.heap.size + 1) (upTo j) V) ∧ Hid (wr.heap[w4.heap.size]? = some (.cells #[.int .i64 8, V, .int .i64 0] 45 (0, 0))) ∧ Hid (Kp w4 wr)) (fun _ i _ => c.length - (intOf i).toNat)
        case atStart => exact ⟨0, .slice none 0 0, by omega, rfl, rfl, Lib.hid gr_nil, HS5, HK5⟩
        case round =>
          obtain ⟨j, V, hj, rfl, rfl, HG, HB, HK⟩ := hrel
          have hsz5 := HK.out.sz
          have hbl := row_lt HB.out
          have hs0 := sumC_in HC64 (upTo j)
          rw [upTo_len] at hs0
          obtain ⟨s0, s1, s2⟩ := row3 HB.out
          have sf := frozen_of_row _ _ 1 _ _ HB.out
          by_cases hlt : j < c.length
          · obtain ⟨x, hxk⟩ : ∃ x, c[j]? = some x := ⟨_, List.getElem?_eq_getElem hlt⟩
            have HGX : Hid (getI c (j : Int) = x) := Lib.hid (by simp [getI, hxk])
            have hxin := getI_in HC64 (j : Int)
            rw [HGX.out] at hxin
            obtain ⟨b, p, hab, hrr⟩ := (HT2.out.keep HK.out).at (by omega)
            subst hab
            have c3 := hrr j hlt 0 (.int .i64 x) (by rw [(HX2.out j _ hxk).1]; rfl)
            simp only [Nat.add_zero, Nat.mul_one] at c3
            have i0 := run_index_tab 33 3 Try.underlying33 1 (by kernel_rfl) b p c.length q2 j hlt
            simp only [Nat.mul_one] at i0
            have HYB : Hid ((upTo j).length * 8 + 16 ≤ 4000) := Lib.hid (by rw [upTo_len]; omega)
            have HJL := Lib.hid (upTo_len j)
            clear hrr hxk
            go_wp2_with (((with_reducible show wpList _ _ _ (⟨some 56, _, _, _, _, _⟩ :: _) _ _); refine wpList_append_gr goodI (d := 56) _ _ 33 rfl 3 iI _ 8 Try.underlying33 hI hI0 hI1 hI2 rfl (by decide) V (upTo j) (w4.heap.size+1) (by rfl) _ HG.out (by omega) (j:Int) [.int .i64 (j:Int)] (fun b=>wr.heap.size+1≤b) _ _ (by rfl) (by first | rfl | simp) rfl ⟨rfl,(by unfold i64; omega)⟩ (fun b (hb:wr.heap.size+1≤b)=>⟨by omega,fun e=>by have:=(HG.out.lt b e.symm).2;omega⟩) (by have hyb := HYB.out; (try rw [take_len (by omega)]); unfold maxLen; omega) (by have hyb := HYB.out; (try rw [take_len (by omega)]); omega) ?_; intro g7 cap7 w7 hg7 hgr7 hat7 hlt7 hB7; have H7 := Lib.hid hg7; have HB7 := Lib.hid (grown_row (row_keep ((Kp.refl _).alloc _) HB.out) hgr7 (fun k hk => by have := (HG.out.lt k hk).1; omega)); have HK7 := Lib.hid ((HK.out.alloc (.cells #[.int .i64 (j:Int)] 3)).grown hgr7 (fun k hk => by have := (HG.out.lt k hk).1; omega)); clear hg7 hgr7 hat7 hlt7; obtain ⟨t0, t1, t2⟩ := row3 HB7.out; have tf := frozen_of_row _ _ 1 _ _ HB7.out))
            go_roundw
            case rel =>
              refine ⟨j + 1, _, by omega, by go_num, by rw [upTo_next, sumC_append, ← HGX.out]; simp [sumC], Lib.hid ?_, Lib.hid (box3 HB7.out), Lib.hid (HK7.out.setCell (p := ⟨w4.heap.size, 1, none⟩) (by simp) _)⟩
              rw [upTo_next]
              have h := GR.turn goodI H7.out (Fr.set _ ⟨w4.heap.size, 1, none⟩ (.slice (some ⟨g7, 0, none⟩) ((upTo j).length + 1) cap7)) (by simp) (fun b _ hb e => by simp at e; omega)
              first | exact h | (rw [HJL.out] at h; exact h)
            case measure => simp [intOf]; omega
          · have hje : j = c.length := by omega
            subst hje
            have HIV : Hid (IL wr ⟨True, fun b => w4.heap.size + 1 ≤ b ∧ b < wr.heap.size⟩ (upTo m.ty.length) V) := Lib.hid (by
              have h := RL.below goodI (GR.all (by_ := 8) goodI HG.out (by rw [upTo_len]; omega)) (Nat.le_refl _)
              rw [HCN.out] at h
              exact h)
            have honeV := HIV.out.one
            have HKW : Hid (Kp w wr) := Lib.hid (HK4.out.trans HK.out)
            have m0 := HK.out.cellv HM0.out
            have m1 := HK.out.cellv HM1.out
            obtain ⟨S, hS⟩ : ∃ S, sumC c (upTo c.length) = S := ⟨_, rfl⟩
            have HSM : Hid (sumC c (upTo m.ty.length) = S) := Lib.hid (by rw [← HCN.out]; exact hS)
            rw [hS] at hs0 ⊢
            have hlm : m.ty.length ≤ 16 := HG2.out
            have HYB : Hid (m.ty.length * 40 + 80 ≤ 4000) := Lib.hid (by omega)
            have HFB := Lib.hid (sl_of (HXF.out wr HKW.out)).2
            obtain ⟨a9, q9, C9, hv9, _, hby9, _, _, _⟩ := id HFB.out
            have HFY : Hid (m.fu.length * 88 ≤ 140737488351232) := Lib.hid hby9
            clear hS hby9 hv9 hc1 hby1'
            by_cases h64 : S ≤ 64
            · have HCW : Hid (checkE (wider m) = 0) := Lib.hid (by rw [wider_check HMS.out HG2.out, HSM.out, if_pos h64])
              have HLW : Hid (cellsP (wider m) c.length = (S, 0)) := Lib.hid (by rw [wider_cells HMS.out HG2.out (by rw [HSM.out]; exact h64), HSM.out])
              go_wp2_with (first | (go_at_call 11; (with_reducible refine (c_OwnG m _ v2 wr (HXF.out _ HKW.out)).mono ?_); rintro e w6 ⟨z1, z2, wq, B1, rfl, hb1, hb2, hb3, hg1, hbl, hg2, hk⟩; have hgs := GR.turn goodS (N := fun b => b < B1) hg1 (fun k hk1 hn => hbl k (by omega) hk1) hb3 (fun b _ hb hn => by omega); obtain ⟨ax, cx, _, rfl, _⟩ := GR.all (by_ := 40) goodS hgs (by omega); obtain ⟨ay, cy, _, rfl, _⟩ := GR.all (by_ := 88) goodF hg2 HFY.out; have HGS := Lib.hid hgs; have HGF := Lib.hid (RL.below goodF (GR.all (by_ := 88) goodF hg2 HFY.out) (Nat.le_refl _)); have HGW := Lib.hid hg1; have HK6 := Lib.hid hk; have hsz6 := hk.sz; have HB6 := Lib.hid (row_keep hk HB.out); clear hgs hg1 hg2 hbl hk m0 m1) | ((with_reducible show wpList _ _ _ (⟨none, .store _ (.tmp 8) (.tmp 59), _, _, _, _⟩ :: _) _ _); refine wpList_store_new rfl 25 _ _ rfl w6 _ _ (by rfl) (by rfl) (by first | rfl | simp) _ _ rfl (by rfl) (by rfl) (by first | exact all2 rfl rfl | exact all4 rfl rfl rfl rfl | exact all5 rfl rfl rfl rfl hone | exact all3 rfl hone rfl | exact all5 rfl hone1 hone2 rfl hone3 | exact all5 rfl rfl rfl rfl hony | exact all3 rfl hony rfl | exact all5 rfl hony1 hony2 rfl hony3) ?_; intro w7 hq7 hk7 hs7; have HX7 := Lib.hid hq7; have HK7 := Lib.hid hk7; have HB7 := Lib.hid (row_keep hk7 HB6.out); have HGS7 := Lib.hid (GR.weak goodS (HGS.out.keep goodS hk7) (show w4.heap.size + 1 ≤ B1 by omega)); have HGF7 := Lib.hid (RL.keep goodF HGF.out hk7); obtain ⟨p0, p1⟩ := row2 hq7; obtain ⟨r0, r1, r2⟩ := row3 HB7.out; clear hq7 hk7) | ((with_reducible show wpList _ _ _ (⟨some 64, _, _, _, _, _⟩ :: _) _ _); refine wpList_append_gr goodS (d := 64) _ _ 22 rfl 45 iH _ 40 Try.underlying22 hH hH0 hH1 hH2 rfl (by decide) (.slice ax m.ty.length cx) m.ty (w4.heap.size+1) (by rfl) _ HGS7.out (by omega) ⟨8,upTo m.ty.length,0⟩ [.int .i64 8,V,.int .i64 0] (fun b=>w4.heap.size+1≤b∧b<wr.heap.size) _ _ (by rfl) (by first | rfl | simp) rfl ⟨V,rfl,HIV.out.keep goodI (HK6.out.trans HK7.out),(show i64 8 by unfold i64; decide),(show i64 0 by unfold i64; decide)⟩ (fun b (hb:w4.heap.size+1≤b∧b<wr.heap.size)=>⟨hb.1,fun e=>by have:=(HGS.out.lt b e.symm).1;omega⟩) (by have hyb := HYB.out; (try rw [take_len (by omega)]); unfold maxLen; omega) (by have hyb := HYB.out; (try rw [take_len (by omega)]); omega) ?_; intro g8 cap8 w8 hg8 hgr8 hat8 hlt8 hB8; have H8 := Lib.hid hg8; have HX8 := Lib.hid (grown_row (row_keep ((Kp.refl _).alloc _) HX7.out) hgr8 (fun k hk => by have := (HGW.out.lt k hk).2; omega)); have HK8p := (((HKW.out.trans (HK6.out.trans HK7.out)).alloc (.cells #[.int .i64 8, V, .int .i64 0] 45)).grown hgr8 (fun k hk => by have := (HGS.out.lt k hk).1; have := HKW.out.sz; omega)); have hsw := HKW.out.sz; have hsz8 := hgr8.size; have HGF8 := Lib.hid (RL.turn goodF (RL.keep goodF HGF7.out ((Kp.refl _).alloc (.cells #[.int .i64 8, V, .int .i64 0] 45))) (grown_fr hgr8) hgr8.size (fun b _ hb e => by have := (HGW.out.lt b e).2; have : wq.heap.size ≤ b := hb.1; omega)); have HGF9 := Lib.hid (RL.turn goodF HGF8.out (Fr.set _ ⟨w6.heap.size, 0, none⟩ (.slice (some ⟨g8, 0, none⟩) (m.ty.length + 1) cap8)) (by simp) (fun b _ hb e => by have h1 : b < w6.heap.size := hb.2; have h2 : b = w6.heap.size := e; omega)); have HGS9 := Lib.hid (GRS_set (j := 0) H8.out HX8.out (by decide) (by decide) (.slice (some ⟨g8, 0, none⟩) (m.ty.length + 1) cap8)); have HLM9 := Lib.hid (show LM _ A0 (wider m) [.slice (some ⟨g8, 0, none⟩) (m.ty.length + 1) cap8, .slice ay m.fu.length cy] from ⟨_, _, rfl, RL.weak goodS (GR.all (by_ := 40) goodS HGS9.out (by simp [wider]; omega)) (A0_le _), RL.weak goodF HGF9.out (A0_le _)⟩); have HK9 := Lib.hid (HK8p.setCell (p := ⟨w6.heap.size, 0, none⟩) (by show w.heap.size ≤ w6.heap.size; omega) (.slice (some ⟨g8, 0, none⟩) (m.ty.length + 1) cap8)); clear hg8 hgr8 hat8 hlt8; obtain ⟨u0, u1⟩ := row2 HX8.out; have uf := frozen_of_row _ _ 0 _ _ HX8.out; have HX9 := Lib.hid (heap_setCell_same _ _ 0 _ _ (.slice (some ⟨g8, 0, none⟩) (m.ty.length + 1) cap8) HX8.out)) | (go_at_call 12; (with_reducible refine (c_Check (wider m) _ _ HLM9.out).mono ?_); rintro e w10 ⟨rfl, hk⟩; rw [HCW.out]; have HK10 := Lib.hid (HK9.out.trans hk); have HL10 := Lib.hid (goodM.keep HLM9.out hk); obtain ⟨y0, y1⟩ := row2 (row_keep hk HX9.out); clear hk) | (go_at_call 10; (with_reducible refine (c_Cells (wider m) _ _ w10 HL10.out).mono ?_); rintro e w11 ⟨rfl, hk⟩; rw [HLW.out]; have HKE := Lib.hid (HK10.out.trans hk); clear hk))
              go_ret
              exact ⟨rfl, HKE.out⟩
            · have hd64 : decide (S ≤ 64) = false := decide_eq_false h64
              have HCW : Hid (checkE (wider m) = 1) := Lib.hid (by rw [wider_check HMS.out HG2.out, HSM.out, if_neg h64])
              have HLW : Hid (cellsP (wider m) c.length = (0, 1)) := Lib.hid (by unfold cellsP; rw [wider_meas HMS.out HG2.out, HSM.out, if_neg h64])
              go_wp2_with (first | (go_at_call 11; (with_reducible refine (c_OwnG m _ v2 wr (HXF.out _ HKW.out)).mono ?_); rintro e w6 ⟨z1, z2, wq, B1, rfl, hb1, hb2, hb3, hg1, hbl, hg2, hk⟩; have hgs := GR.turn goodS (N := fun b => b < B1) hg1 (fun k hk1 hn => hbl k (by omega) hk1) hb3 (fun b _ hb hn => by omega); obtain ⟨ax, cx, _, rfl, _⟩ := GR.all (by_ := 40) goodS hgs (by omega); obtain ⟨ay, cy, _, rfl, _⟩ := GR.all (by_ := 88) goodF hg2 HFY.out; have HGS := Lib.hid hgs; have HGF := Lib.hid (RL.below goodF (GR.all (by_ := 88) goodF hg2 HFY.out) (Nat.le_refl _)); have HGW := Lib.hid hg1; have HK6 := Lib.hid hk; have hsz6 := hk.sz; have HB6 := Lib.hid (row_keep hk HB.out); clear hgs hg1 hg2 hbl hk m0 m1) | ((with_reducible show wpList _ _ _ (⟨none, .store _ (.tmp 8) (.tmp 59), _, _, _, _⟩ :: _) _ _); refine wpList_store_new rfl 25 _ _ rfl w6 _ _ (by rfl) (by rfl) (by first | rfl | simp) _ _ rfl (by rfl) (by rfl) (by first | exact all2 rfl rfl | exact all4 rfl rfl rfl rfl | exact all5 rfl rfl rfl rfl hone | exact all3 rfl hone rfl | exact all5 rfl hone1 hone2 rfl hone3 | exact all5 rfl rfl rfl rfl hony | exact all3 rfl hony rfl | exact all5 rfl hony1 hony2 rfl hony3) ?_; intro w7 hq7 hk7 hs7; have HX7 := Lib.hid hq7; have HK7 := Lib.hid hk7; have HB7 := Lib.hid (row_keep hk7 HB6.out); have HGS7 := Lib.hid (GR.weak goodS (HGS.out.keep goodS hk7) (show w4.heap.size + 1 ≤ B1 by omega)); have HGF7 := Lib.hid (RL.keep goodF HGF.out hk7); obtain ⟨p0, p1⟩ := row2 hq7; obtain ⟨r0, r1, r2⟩ := row3 HB7.out; clear hq7 hk7) | ((with_reducible show wpList _ _ _ (⟨some 64, _, _, _, _, _⟩ :: _) _ _); refine wpList_append_gr goodS (d := 64) _ _ 22 rfl 45 iH _ 40 Try.underlying22 hH hH0 hH1 hH2 rfl (by decide) (.slice ax m.ty.length cx) m.ty (w4.heap.size+1) (by rfl) _ HGS7.out (by omega) ⟨8,upTo m.ty.length,0⟩ [.int .i64 8,V,.int .i64 0] (fun b=>w4.heap.size+1≤b∧b<wr.heap.size) _ _ (by rfl) (by first | rfl | simp) rfl ⟨V,rfl,HIV.out.keep goodI (HK6.out.trans HK7.out),(show i64 8 by unfold i64; decide),(show i64 0 by unfold i64; decide)⟩ (fun b (hb:w4.heap.size+1≤b∧b<wr.heap.size)=>⟨hb.1,fun e=>by have:=(HGS.out.lt b e.symm).1;omega⟩) (by have hyb := HYB.out; (try rw [take_len (by omega)]); unfold maxLen; omega) (by have hyb := HYB.out; (try rw [take_len (by omega)]); omega) ?_; intro g8 cap8 w8 hg8 hgr8 hat8 hlt8 hB8; have H8 := Lib.hid hg8; have HX8 := Lib.hid (grown_row (row_keep ((Kp.refl _).alloc _) HX7.out) hgr8 (fun k hk => by have := (HGW.out.lt k hk).2; omega)); have HK8p := (((HKW.out.trans (HK6.out.trans HK7.out)).alloc (.cells #[.int .i64 8, V, .int .i64 0] 45)).grown hgr8 (fun k hk => by have := (HGS.out.lt k hk).1; have := HKW.out.sz; omega)); have hsw := HKW.out.sz; have hsz8 := hgr8.size; have HGF8 := Lib.hid (RL.turn goodF (RL.keep goodF HGF7.out ((Kp.refl _).alloc (.cells #[.int .i64 8, V, .int .i64 0] 45))) (grown_fr hgr8) hgr8.size (fun b _ hb e => by have := (HGW.out.lt b e).2; have : wq.heap.size ≤ b := hb.1; omega)); have HGF9 := Lib.hid (RL.turn goodF HGF8.out (Fr.set _ ⟨w6.heap.size, 0, none⟩ (.slice (some ⟨g8, 0, none⟩) (m.ty.length + 1) cap8)) (by simp) (fun b _ hb e => by have h1 : b < w6.heap.size := hb.2; have h2 : b = w6.heap.size := e; omega)); have HGS9 := Lib.hid (GRS_set (j := 0) H8.out HX8.out (by decide) (by decide) (.slice (some ⟨g8, 0, none⟩) (m.ty.length + 1) cap8)); have HLM9 := Lib.hid (show LM _ A0 (wider m) [.slice (some ⟨g8, 0, none⟩) (m.ty.length + 1) cap8, .slice ay m.fu.length cy] from ⟨_, _, rfl, RL.weak goodS (GR.all (by_ := 40) goodS HGS9.out (by simp [wider]; omega)) (A0_le _), RL.weak goodF HGF9.out (A0_le _)⟩); have HK9 := Lib.hid (HK8p.setCell (p := ⟨w6.heap.size, 0, none⟩) (by show w.heap.size ≤ w6.heap.size; omega) (.slice (some ⟨g8, 0, none⟩) (m.ty.length + 1) cap8)); clear hg8 hgr8 hat8 hlt8; obtain ⟨u0, u1⟩ := row2 HX8.out; have uf := frozen_of_row _ _ 0 _ _ HX8.out; have HX9 := Lib.hid (heap_setCell_same _ _ 0 _ _ (.slice (some ⟨g8, 0, none⟩) (m.ty.length + 1) cap8) HX8.out)) | (go_at_call 12; (with_reducible refine (c_Check (wider m) _ _ HLM9.out).mono ?_); rintro e w10 ⟨rfl, hk⟩; rw [HCW.out]; have HK10 := Lib.hid (HK9.out.trans hk); have HL10 := Lib.hid (goodM.keep HLM9.out hk); obtain ⟨y0, y1⟩ := row2 (row_keep hk HX9.out); clear hk) | (go_at_call 10; (with_reducible refine (c_Cells (wider m) _ _ w10 HL10.out).mono ?_); rintro e w11 ⟨rfl, hk⟩; rw [HLW.out]; have HKE := Lib.hid (HK10.out.trans hk); clear hk))
              go_ret
              first | exact ⟨rfl, HKE.out⟩ | exact ⟨by simp [h64], HKE.out⟩ | exact ⟨by simp; omega, HKE.out⟩
end Go.Proofs.Ytkkcoaecidjecaa
