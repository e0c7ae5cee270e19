/- The same modules, by the program. Condition: both lie in memory. -/
import Derived.Test.YtlhiaompcgdmfaaS0
import Derived.Test.YtlhiaompcgdmfaaW3
namespace Go.Proofs.Ytlhiaompcgdmfaa
open Go.RowKit
set_option linter.unusedVariables false
set_option linter.unusedSimpArgs false
set_option maxHeartbeats 1000000 in
set_option maxRecDepth 100000 in
theorem eq_C (l m : List Cs) (v u : Value) (w : World) (hl : CL w A0 l v) (hm : CL w A0 m u)
    (hf : ∀ (x y : Cs) (cx cy : List Value) (W : World), LC W A0 x cx → LC W A0 y cy → Calls Try.prog 69 #[.agg cx.toArray, .agg cy.toArray] W (Tell (sameCs x y) W)) :
    Calls Try.prog 68 #[v, u, .func (.func 69) #[] #[]] w (Tell (sameL sameCs l m) w) := by
  have hsz : (Try.prog.info? 90).map (·.size) = some 4 := by kernel_rfl
  obtain ⟨a1, q1, C1, rfl, _, hby1, _, ht1, hx1⟩ := hl
  obtain ⟨a2, q2, C2, rfl, _, hby2, _, ht2, hx2⟩ := hm
  have hc1 : l.length ≤ 140737488351232 := by omega
  have hc2 : m.length ≤ 140737488351232 := by omega
  have HT1 := Lib.hid ht1
  have HX1 := Lib.hid hx1
  have HT2 := Lib.hid ht2
  have HX2 := Lib.hid hx2
  have HF := Lib.hid hf
  clear ht1 hx1 ht2 hx2 hby1 hby2 hf hsz
  by_cases hlen : l.length = m.length
  · have HL := Lib.hid hlen
    have hd : ((l.length : Int) != (m.length : Int)) = false := by simp [hlen]
    clear hlen
    go_enter Try.func68, Try.ntmps68
    go_wp2_with fail
    go_loopw [17] (fun i wr => ∃ k : Nat, k ≤ l.length ∧ i = .int .i64 (k : Int) ∧ (∀ j x y, j < k → l[j]? = some x → m[j]? = some y → sameCs x y = true) ∧ Kp w wr) (fun i _ => l.length - (intOf i).toNat)
    case atStart => exact ⟨0, by omega, rfl, fun j x y h => by omega, Kp.refl w⟩
    case round =>
      obtain ⟨k, hk, rfl, hall, hkp⟩ := hrel
      have HA := Lib.hid hall
      have HK := Lib.hid hkp
      clear hall hkp
      by_cases hlt : k < l.length
      · have hlt2 : k < m.length := by have := HL.out; omega
        obtain ⟨x, hxk⟩ : ∃ x, l[k]? = some x := ⟨_, List.getElem?_eq_getElem hlt⟩
        obtain ⟨y, hyk⟩ : ∃ y, m[k]? = some y := ⟨_, List.getElem?_eq_getElem hlt2⟩
        obtain ⟨b, p, rfl, hr⟩ := (HT1.out.keep HK.out).at (by omega)
        obtain ⟨c, q, rfl, hs⟩ := (HT2.out.keep HK.out).at (by omega)
        have hrx := hr k hlt
        have hry := hs k hlt2
        have HLX := Lib.hid (goodC.keep (HX1.out k x hxk) HK.out)
        have HLY := Lib.hid (goodC.keep (HX2.out k y hyk) HK.out)
        obtain ⟨hcx, _⟩ := HLX.out
        obtain ⟨hcy, _⟩ := HLY.out
        rw [hcx] at hrx
        rw [hcy] at hry
        have HQX := Lib.hid hrx
        have HQY := Lib.hid hry
        have HLX2 := Lib.hid (show LC wr A0 x [.bool x.s, .int .i64 x.c, .int .i64 x.v, .int .i64 x.t] by rw [← hcx]; exact HLX.out)
        have HLY2 := Lib.hid (show LC wr A0 y [.bool y.s, .int .i64 y.c, .int .i64 y.v, .int .i64 y.t] by rw [← hcy]; exact HLY.out)
        clear HLX HLY
        have HXK := Lib.hid hxk
        have HYK := Lib.hid hyk
        clear hr hs hrx hry hxk hyk hcx hcy
        cases hxy : sameCs x y with
        | true =>
          have HXY := Lib.hid hxy
          clear hxy
          go_wp2_with (first | ((with_reducible show wpList _ _ _ (⟨some 20, _, _, _, _, _⟩ :: _) _ _); refine wpList_index_tab (d := 20) _ _ _ rfl 90 Try.underlying53 4 rfl _ _ _ _ p (by rfl) rfl k (by rfl) hlt ?_) | ((with_reducible show wpList _ _ _ (⟨some 21, _, _, _, _, _⟩ :: _) _ _); refine wpList_load_range (d := 21) _ _ rfl _ Try.underlying90 wr _ _ _ _ (by rfl) rfl rfl _ HQX.out (Kp.refl wr) (by rfl) ?_) | ((with_reducible show wpList _ _ _ (⟨none, .store _ (.tmp 8) (.tmp 21), _, _, _, _⟩ :: _) _ _); refine wpList_store_new rfl 90 _ _ rfl wr _ _ (by rfl) (by rfl) (by first | rfl | simp) _ _ rfl (by rfl) (by rfl) (by first | exact all2 rfl rfl | exact all4 rfl rfl rfl rfl | exact all5 rfl rfl rfl rfl hone | exact all3 rfl hone rfl | exact all5 rfl hone1 hone2 rfl hone3 | exact all5 rfl rfl rfl rfl hony | exact all3 rfl hony rfl | exact all5 rfl hony1 hony2 rfl hony3) ?_; intro w4 hq4 hk4 hs4; have HB4 := Lib.hid hq4; have HK4 := Lib.hid hk4; clear hk4; obtain ⟨d40, d41, d42, d43⟩ := row4 hq4; clear hq4) | ((with_reducible show wpList _ _ _ (⟨some 24, _, _, _, _, _⟩ :: _) _ _); refine wpList_index_tab (d := 24) _ _ _ rfl 90 Try.underlying53 4 rfl _ _ _ _ q (by rfl) rfl k (by rfl) hlt2 ?_) | ((with_reducible show wpList _ _ _ (⟨some 25, _, _, _, _, _⟩ :: _) _ _); refine wpList_load_range (d := 25) _ _ rfl _ Try.underlying90 wr _ _ _ _ (by rfl) rfl rfl _ HQY.out HK4.out (by rfl) ?_) | ((with_reducible show wpList _ _ _ (⟨none, .store _ (.tmp 9) (.tmp 25), _, _, _, _⟩ :: _) _ _); refine wpList_store_new rfl 90 _ _ rfl w4 _ _ (by rfl) (by rfl) (by first | rfl | simp) _ _ rfl (by rfl) (by rfl) (by first | exact all2 rfl rfl | exact all4 rfl rfl rfl rfl | exact all5 rfl rfl rfl rfl hone | exact all3 rfl hone rfl | exact all5 rfl hone1 hone2 rfl hone3 | exact all5 rfl rfl rfl rfl hony | exact all3 rfl hony rfl | exact all5 rfl hony1 hony2 rfl hony3) ?_; intro w5 hq5 hk5 hs5; have HB5 := Lib.hid hq5; have HK5 := Lib.hid hk5; clear hk5; obtain ⟨d50, d51, d52, d53⟩ := row4 hq5; clear hq5; have HB45 := Lib.hid (row_keep HK5.out HB4.out); obtain ⟨d40, d41, d42, d43⟩ := row4 HB45.out) | (go_at_call 69; (with_reducible refine (HF.out x y _ _ _ (goodC.keep HLX2.out (HK4.out.trans HK5.out)) (goodC.keep HLY2.out (HK4.out.trans HK5.out))).mono ?_); rintro e w6 ⟨rfl, h6⟩; have HK6 := Lib.hid h6; clear h6; rw [HXY.out]))
          go_roundw
          case rel => exact ⟨k + 1, by omega, by go_num, all_next HA.out HXK.out HYK.out HXY.out, HK.out.trans (HK4.out.trans (HK5.out.trans HK6.out))⟩
          case measure => simp [intOf]; omega
        | false =>
          have HXY := Lib.hid hxy
          clear hxy
          go_wp2_with (first | ((with_reducible show wpList _ _ _ (⟨some 20, _, _, _, _, _⟩ :: _) _ _); refine wpList_index_tab (d := 20) _ _ _ rfl 90 Try.underlying53 4 rfl _ _ _ _ p (by rfl) rfl k (by rfl) hlt ?_) | ((with_reducible show wpList _ _ _ (⟨some 21, _, _, _, _, _⟩ :: _) _ _); refine wpList_load_range (d := 21) _ _ rfl _ Try.underlying90 wr _ _ _ _ (by rfl) rfl rfl _ HQX.out (Kp.refl wr) (by rfl) ?_) | ((with_reducible show wpList _ _ _ (⟨none, .store _ (.tmp 8) (.tmp 21), _, _, _, _⟩ :: _) _ _); refine wpList_store_new rfl 90 _ _ rfl wr _ _ (by rfl) (by rfl) (by first | rfl | simp) _ _ rfl (by rfl) (by rfl) (by first | exact all2 rfl rfl | exact all4 rfl rfl rfl rfl | exact all5 rfl rfl rfl rfl hone | exact all3 rfl hone rfl | exact all5 rfl hone1 hone2 rfl hone3 | exact all5 rfl rfl rfl rfl hony | exact all3 rfl hony rfl | exact all5 rfl hony1 hony2 rfl hony3) ?_; intro w4 hq4 hk4 hs4; have HB4 := Lib.hid hq4; have HK4 := Lib.hid hk4; clear hk4; obtain ⟨d40, d41, d42, d43⟩ := row4 hq4; clear hq4) | ((with_reducible show wpList _ _ _ (⟨some 24, _, _, _, _, _⟩ :: _) _ _); refine wpList_index_tab (d := 24) _ _ _ rfl 90 Try.underlying53 4 rfl _ _ _ _ q (by rfl) rfl k (by rfl) hlt2 ?_) | ((with_reducible show wpList _ _ _ (⟨some 25, _, _, _, _, _⟩ :: _) _ _); refine wpList_load_range (d := 25) _ _ rfl _ Try.underlying90 wr _ _ _ _ (by rfl) rfl rfl _ HQY.out HK4.out (by rfl) ?_) | ((with_reducible show wpList _ _ _ (⟨none, .store _ (.tmp 9) (.tmp 25), _, _, _, _⟩ :: _) _ _); refine wpList_store_new rfl 90 _ _ rfl w4 _ _ (by rfl) (by rfl) (by first | rfl | simp) _ _ rfl (by rfl) (by rfl) (by first | exact all2 rfl rfl | exact all4 rfl rfl rfl rfl | exact all5 rfl rfl rfl rfl hone | exact all3 rfl hone rfl | exact all5 rfl hone1 hone2 rfl hone3 | exact all5 rfl rfl rfl rfl hony | exact all3 rfl hony rfl | exact all5 rfl hony1 hony2 rfl hony3) ?_; intro w5 hq5 hk5 hs5; have HB5 := Lib.hid hq5; have HK5 := Lib.hid hk5; clear hk5; obtain ⟨d50, d51, d52, d53⟩ := row4 hq5; clear hq5; have HB45 := Lib.hid (row_keep HK5.out HB4.out); obtain ⟨d40, d41, d42, d43⟩ := row4 HB45.out) | (go_at_call 69; (with_reducible refine (HF.out x y _ _ _ (goodC.keep HLX2.out (HK4.out.trans HK5.out)) (goodC.keep HLY2.out (HK4.out.trans HK5.out))).mono ?_); rintro e w6 ⟨rfl, h6⟩; have HK6 := Lib.hid h6; clear h6; rw [HXY.out]))
          go_ret
          exact tell (sameL_bad HXK.out HYK.out HXY.out) (HK.out.trans (HK4.out.trans (HK5.out.trans HK6.out)))
      · go_wp2_with fail
        go_ret
        exact tell (sameL_all HL.out (fun i x y hx hy => HA.out i x y (by have := (List.getElem?_eq_some_iff.1 hx).1; omega) hx hy)) HK.out
  · have HL := Lib.hid hlen
    have hd : ((l.length : Int) != (m.length : Int)) = true := by simp; omega
    clear hlen
    go_enter Try.func68, Try.ntmps68
    go_wp2_with fail
    go_ret
    exact tell (sameL_len HL.out) (Kp.refl w)
set_option maxHeartbeats 1000000 in
set_option maxRecDepth 100000 in
theorem c_sameCase (x y : Cs) (cx cy : List Value) (w : World) (hx : LC w A0 x cx) (hy : LC w A0 y cy) :
    Calls Try.prog 69 #[.agg cx.toArray, .agg cy.toArray] w (Tell (sameCs x y) w) := by
  obtain ⟨rfl, _⟩ := hx
  obtain ⟨rfl, _⟩ := hy
  go_enter Try.func69, Try.ntmps69
  go_wp2_with fail
  all_goals go_ret
  all_goals exact tell (by simp [sameCs, *]) (((Kp.refl w).alloc _).alloc _)
set_option maxHeartbeats 1000000 in
set_option maxRecDepth 100000 in
theorem c_sameInstruction (x y : Ins) (cx cy : List Value) (w : World) (hx : LN w A0 x cx) (hy : LN w A0 y cy) :
    Calls Try.prog 54 #[.agg cx.toArray, .agg cy.toArray] w (Tell (sameIns x y) w) := by
  obtain ⟨Vx, rfl, hvx, _⟩ := hx
  obtain ⟨Vy, rfl, hvy, _⟩ := hy
  have k2 := ((Kp.refl w).alloc (.cells #[.int .i64 x.o, .int .i64 x.a, .int .i64 x.b, .int .u64 x.n, Vx] 55)).alloc (.cells #[.int .i64 y.o, .int .i64 y.a, .int .i64 y.b, .int .u64 y.n, Vy] 55)
  have HK0 := Lib.hid k2
  have HVx := Lib.hid (hvx.keep goodC k2)
  have HVy := Lib.hid (hvy.keep goodC k2)
  have r0 := row_keep ((Kp.refl _).alloc (.cells #[.int .i64 y.o, .int .i64 y.a, .int .i64 y.b, .int .u64 y.n, Vy] 55)) (heap_alloc_new w (.cells #[.int .i64 x.o, .int .i64 x.a, .int .i64 x.b, .int .u64 x.n, Vx] 55))
  have r1 : ((w.alloc (.cells #[.int .i64 x.o, .int .i64 x.a, .int .i64 x.b, .int .u64 x.n, Vx] 55)).alloc (.cells #[.int .i64 y.o, .int .i64 y.a, .int .i64 y.b, .int .u64 y.n, Vy] 55)).heap[w.heap.size + 1]? = some (.cells #[.int .i64 y.o, .int .i64 y.a, .int .i64 y.b, .int .u64 y.n, Vy] 55 (0, 0)) := by simpa using heap_alloc_new (w.alloc (.cells #[.int .i64 x.o, .int .i64 x.a, .int .i64 x.b, .int .u64 x.n, Vx] 55)) (.cells #[.int .i64 y.o, .int .i64 y.a, .int .i64 y.b, .int .u64 y.n, Vy] 55)
  have HR0 := Lib.hid r0
  have HR1 := Lib.hid r1
  clear k2 hvx hvy r0 r1
  obtain ⟨p0, p1, p2, p3, p4⟩ := row5 HR0.out
  obtain ⟨q0, q1, q2, q3, q4⟩ := row5 HR1.out
  cases g0 : (x.o == y.o) with
  | false =>
    go_enter Try.func54, Try.ntmps54
    go_wp2_with fail
    go_ret
    exact tell (by simp [sameIns, g0]) HK0.out
  | true =>
    cases g1 : (x.a == y.a) with
    | false =>
      go_enter Try.func54, Try.ntmps54
      go_wp2_with fail
      go_ret
      exact tell (by simp [sameIns, g0, g1]) HK0.out
    | true =>
      cases g2 : (x.b == y.b) with
      | false =>
        go_enter Try.func54, Try.ntmps54
        go_wp2_with fail
        go_ret
        exact tell (by simp [sameIns, g0, g1, g2]) HK0.out
      | true =>
        cases g3 : (x.n == y.n) with
        | false =>
          go_enter Try.func54, Try.ntmps54
          go_wp2_with fail
          go_ret
          exact tell (by simp [sameIns, g0, g1, g2, g3]) HK0.out
        | true =>
          cases s1 : sameL sameCs x.cs y.cs with
          | false =>
            have HG1 := Lib.hid s1
            clear s1
            go_enter Try.func54, Try.ntmps54
            go_wp2_with (first | (go_at_call 68; (with_reducible refine (eq_C x.cs y.cs _ _ _ HVx.out HVy.out c_sameCase).mono ?_); rintro e w1 ⟨rfl, h1⟩; have HT1 := Lib.hid (h1); have HK1 := Lib.hid h1; clear h1; obtain ⟨p0, p1, p2, p3, p4⟩ := row5 (row_keep HT1.out HR0.out); obtain ⟨q0, q1, q2, q3, q4⟩ := row5 (row_keep HT1.out HR1.out); rw [HG1.out]))
            go_ret
            exact tell (by simp [sameIns, g0, g1, g2, g3, HG1.out]) (HK0.out.trans HT1.out)
          | true =>
            have HG1 := Lib.hid s1
            clear s1
            go_enter Try.func54, Try.ntmps54
            go_wp2_with (first | (go_at_call 68; (with_reducible refine (eq_C x.cs y.cs _ _ _ HVx.out HVy.out c_sameCase).mono ?_); rintro e w1 ⟨rfl, h1⟩; have HT1 := Lib.hid (h1); have HK1 := Lib.hid h1; clear h1; obtain ⟨p0, p1, p2, p3, p4⟩ := row5 (row_keep HT1.out HR0.out); obtain ⟨q0, q1, q2, q3, q4⟩ := row5 (row_keep HT1.out HR1.out); rw [HG1.out]))
            go_ret
            exact tell (by simp [sameIns, g0, g1, g2, g3, HG1.out]) (HK0.out.trans HT1.out)
set_option maxHeartbeats 1000000 in
set_option maxRecDepth 100000 in
theorem c_Equal (l m : List Int) (v u : Value) (w : World) (hl : IL w A0 l v) (hm : IL w A0 m u) :
    Calls Try.prog 52 #[v, u] w (Tell (sameL eqI l m) w) := by
  obtain ⟨a1, q1, C1, rfl, _, hby1, _, ht1, hx1⟩ := hl
  obtain ⟨a2, q2, C2, rfl, _, hby2, _, ht2, hx2⟩ := hm
  have hc1 : l.length ≤ 140737488351232 := by omega
  have hc2 : m.length ≤ 140737488351232 := by omega
  have HT1 := Lib.hid ht1
  have HX1 := Lib.hid hx1
  have HT2 := Lib.hid ht2
  have HX2 := Lib.hid hx2
  clear ht1 hx1 ht2 hx2 hby1 hby2
  by_cases hlen : l.length = m.length
  · have HL := Lib.hid hlen
    have hd : ((l.length : Int) != (m.length : Int)) = false := by simp [hlen]
    clear hlen
    go_enter Try.func52, Try.ntmps52
    go_wp2_with fail
    go_loopw [13] (fun i wr => ∃ k : Nat, k ≤ l.length ∧ i = .int .i64 (k : Int) ∧ (∀ j x y, j < k → l[j]? = some x → m[j]? = some y → eqI x y = true) ∧ Kp w wr) (fun i _ => l.length - (intOf i).toNat)
    case atStart => exact ⟨0, by omega, rfl, fun j x y h => by omega, Kp.refl w⟩
    case round =>
      obtain ⟨k, hk, rfl, hall, hkp⟩ := hrel
      have HA := Lib.hid hall
      have HK := Lib.hid hkp
      clear hall hkp
      by_cases hlt : k < l.length
      · have hlt2 : k < m.length := by have := HL.out; omega
        obtain ⟨x, hxk⟩ : ∃ x, l[k]? = some x := ⟨_, List.getElem?_eq_getElem hlt⟩
        obtain ⟨y, hyk⟩ : ∃ y, m[k]? = some y := ⟨_, List.getElem?_eq_getElem hlt2⟩
        obtain ⟨b, p, rfl, hr⟩ := (HT1.out.keep HK.out).at (by omega)
        obtain ⟨c, q, rfl, hs⟩ := (HT2.out.keep HK.out).at (by omega)
        have c0 := hr k hlt 0 (.int .i64 x) (by rw [(HX1.out k x hxk).1]; rfl)
        have c1 := hs k hlt2 0 (.int .i64 y) (by rw [(HX2.out k y hyk).1]; rfl)
        simp only [Nat.add_zero, Nat.mul_one] at c0 c1
        have i0 := run_index_tab 33 3 Try.underlying33 1 (by kernel_rfl) b p l.length q1 k hlt
        have i1 := run_index_tab 33 3 Try.underlying33 1 (by kernel_rfl) c q m.length q2 k hlt2
        simp only [Nat.mul_one] at i0 i1
        have HXK := Lib.hid hxk
        have HYK := Lib.hid hyk
        clear hr hs hxk hyk
        cases hxy : eqI x y with
        | true =>
          have hd2 : (x != y) = false := by simpa [eqI] using hxy
          have HXY := Lib.hid hxy
          clear hxy
          go_wp2_with fail
          go_quiet (fail)
          go_wp2_with fail
          go_roundw
          case rel => exact ⟨k + 1, by omega, by go_num, all_next HA.out HXK.out HYK.out HXY.out, HK.out.drewN _⟩
          case measure => simp [intOf]; omega
        | false =>
          have hd2 : (x != y) = true := by simpa [eqI] using hxy
          have HXY := Lib.hid hxy
          clear hxy
          go_wp2_with fail
          go_quiet (fail)
          go_wp2_with fail
          go_ret
          exact tell (sameL_bad HXK.out HYK.out HXY.out) (HK.out.drewN _)
      · go_wp2_with fail
        go_ret
        exact tell (sameL_all HL.out (fun i x y hx hy => HA.out i x y (by have := (List.getElem?_eq_some_iff.1 hx).1; omega) hx hy)) HK.out
  · have HL := Lib.hid hlen
    have hd : ((l.length : Int) != (m.length : Int)) = true := by simp; omega
    clear hlen
    go_enter Try.func52, Try.ntmps52
    go_wp2_with fail
    go_ret
    exact tell (sameL_len HL.out) (Kp.refl w)
set_option maxHeartbeats 1000000 in
set_option maxRecDepth 100000 in
theorem c_sameShape (x y : Sh) (cx cy : List Value) (w : World) (hx : LS w A0 x cx) (hy : LS w A0 y cy) :
    Calls Try.prog 37 #[.agg cx.toArray, .agg cy.toArray] w (Tell (sameSh x y) w) := by
  obtain ⟨Vx, rfl, hvx, _⟩ := hx
  obtain ⟨Vy, rfl, hvy, _⟩ := hy
  have k2 := ((Kp.refl w).alloc (.cells #[.int .i64 x.k, Vx, .int .i64 x.r] 48)).alloc (.cells #[.int .i64 y.k, Vy, .int .i64 y.r] 48)
  have HK0 := Lib.hid k2
  have HVx := Lib.hid (hvx.keep goodI k2)
  have HVy := Lib.hid (hvy.keep goodI k2)
  have r0 := row_keep ((Kp.refl _).alloc (.cells #[.int .i64 y.k, Vy, .int .i64 y.r] 48)) (heap_alloc_new w (.cells #[.int .i64 x.k, Vx, .int .i64 x.r] 48))
  have r1 : ((w.alloc (.cells #[.int .i64 x.k, Vx, .int .i64 x.r] 48)).alloc (.cells #[.int .i64 y.k, Vy, .int .i64 y.r] 48)).heap[w.heap.size + 1]? = some (.cells #[.int .i64 y.k, Vy, .int .i64 y.r] 48 (0, 0)) := by simpa using heap_alloc_new (w.alloc (.cells #[.int .i64 x.k, Vx, .int .i64 x.r] 48)) (.cells #[.int .i64 y.k, Vy, .int .i64 y.r] 48)
  have HR0 := Lib.hid r0
  have HR1 := Lib.hid r1
  clear k2 hvx hvy r0 r1
  obtain ⟨p0, p1, p2⟩ := row3 HR0.out
  obtain ⟨q0, q1, q2⟩ := row3 HR1.out
  cases g0 : (x.k == y.k) with
  | false =>
    go_enter Try.func37, Try.ntmps37
    go_wp2_with fail
    go_ret
    exact tell (by simp [sameSh, g0]) HK0.out
  | true =>
    cases g1 : (x.r == y.r) with
    | false =>
      go_enter Try.func37, Try.ntmps37
      go_wp2_with fail
      go_ret
      exact tell (by simp [sameSh, g0, g1]) HK0.out
    | true =>
      cases s1 : sameL eqI x.l y.l with
      | false =>
        have HG1 := Lib.hid s1
        clear s1
        go_enter Try.func37, Try.ntmps37
        go_wp2_with (first | (go_at_call 52; (with_reducible refine (c_Equal x.l y.l _ _ _ HVx.out HVy.out).mono ?_); rintro e w1 ⟨rfl, h1⟩; have HT1 := Lib.hid (h1); have HK1 := Lib.hid h1; clear h1; obtain ⟨p0, p1, p2⟩ := row3 (row_keep HT1.out HR0.out); obtain ⟨q0, q1, q2⟩ := row3 (row_keep HT1.out HR1.out); rw [HG1.out]))
        go_ret
        exact tell (by simp [sameSh, g0, g1, HG1.out]) (HK0.out.trans HT1.out)
      | true =>
        have HG1 := Lib.hid s1
        clear s1
        go_enter Try.func37, Try.ntmps37
        go_wp2_with (first | (go_at_call 52; (with_reducible refine (c_Equal x.l y.l _ _ _ HVx.out HVy.out).mono ?_); rintro e w1 ⟨rfl, h1⟩; have HT1 := Lib.hid (h1); have HK1 := Lib.hid h1; clear h1; obtain ⟨p0, p1, p2⟩ := row3 (row_keep HT1.out HR0.out); obtain ⟨q0, q1, q2⟩ := row3 (row_keep HT1.out HR1.out); rw [HG1.out]))
        go_ret
        exact tell (by simp [sameSh, g0, g1, HG1.out]) (HK0.out.trans HT1.out)
set_option maxHeartbeats 1000000 in
set_option maxRecDepth 100000 in
theorem eq_H (l m : List Sh) (v u : Value) (w : World) (hl : SL w A0 l v) (hm : SL w A0 m u)
    (hf : ∀ (x y : Sh) (cx cy : List Value) (W : World), LS W A0 x cx → LS W A0 y cy → Calls Try.prog 37 #[.agg cx.toArray, .agg cy.toArray] W (Tell (sameSh x y) W)) :
    Calls Try.prog 36 #[v, u, .func (.func 37) #[] #[]] w (Tell (sameL sameSh l m) w) := by
  have hsz : (Try.prog.info? 48).map (·.size) = some 3 := by kernel_rfl
  obtain ⟨a1, q1, C1, rfl, _, hby1, _, ht1, hx1⟩ := hl
  obtain ⟨a2, q2, C2, rfl, _, hby2, _, ht2, hx2⟩ := hm
  have hc1 : l.length ≤ 140737488351232 := by omega
  have hc2 : m.length ≤ 140737488351232 := by omega
  have HT1 := Lib.hid ht1
  have HX1 := Lib.hid hx1
  have HT2 := Lib.hid ht2
  have HX2 := Lib.hid hx2
  have HF := Lib.hid hf
  clear ht1 hx1 ht2 hx2 hby1 hby2 hf hsz
  by_cases hlen : l.length = m.length
  · have HL := Lib.hid hlen
    have hd : ((l.length : Int) != (m.length : Int)) = false := by simp [hlen]
    clear hlen
    go_enter Try.func36, Try.ntmps36
    go_wp2_with fail
    go_loopw [17] (fun i wr => ∃ k : Nat, k ≤ l.length ∧ i = .int .i64 (k : Int) ∧ (∀ j x y, j < k → l[j]? = some x → m[j]? = some y → sameSh x y = true) ∧ Kp w wr) (fun i _ => l.length - (intOf i).toNat)
    case atStart => exact ⟨0, by omega, rfl, fun j x y h => by omega, Kp.refl w⟩
    case round =>
      obtain ⟨k, hk, rfl, hall, hkp⟩ := hrel
      have HA := Lib.hid hall
      have HK := Lib.hid hkp
      clear hall hkp
      by_cases hlt : k < l.length
      · have hlt2 : k < m.length := by have := HL.out; omega
        obtain ⟨x, hxk⟩ : ∃ x, l[k]? = some x := ⟨_, List.getElem?_eq_getElem hlt⟩
        obtain ⟨y, hyk⟩ : ∃ y, m[k]? = some y := ⟨_, List.getElem?_eq_getElem hlt2⟩
        obtain ⟨b, p, rfl, hr⟩ := (HT1.out.keep HK.out).at (by omega)
        obtain ⟨c, q, rfl, hs⟩ := (HT2.out.keep HK.out).at (by omega)
        have hrx := hr k hlt
        have hry := hs k hlt2
        have HLX := Lib.hid (goodS.keep (HX1.out k x hxk) HK.out)
        have HLY := Lib.hid (goodS.keep (HX2.out k y hyk) HK.out)
        obtain ⟨Vx, hcx, hvx, _⟩ := HLX.out
        obtain ⟨Vy, hcy, hvy, _⟩ := HLY.out
        rw [hcx] at hrx
        rw [hcy] at hry
        have hone := hvx.one
        have hony := hvy.one
        have HQX := Lib.hid hrx
        have HQY := Lib.hid hry
        have HLX2 := Lib.hid (show LS wr A0 x [.int .i64 x.k, Vx, .int .i64 x.r] by rw [← hcx]; exact HLX.out)
        have HLY2 := Lib.hid (show LS wr A0 y [.int .i64 y.k, Vy, .int .i64 y.r] by rw [← hcy]; exact HLY.out)
        clear HLX HLY
        have HXK := Lib.hid hxk
        have HYK := Lib.hid hyk
        clear hr hs hrx hry hxk hyk hcx hcy
        cases hxy : sameSh x y with
        | true =>
          have HXY := Lib.hid hxy
          clear hxy
          go_wp2_with (first | ((with_reducible show wpList _ _ _ (⟨some 20, _, _, _, _, _⟩ :: _) _ _); refine wpList_index_tab (d := 20) _ _ _ rfl 48 Try.underlying22 3 rfl _ _ _ _ p (by rfl) rfl k (by rfl) hlt ?_) | ((with_reducible show wpList _ _ _ (⟨some 21, _, _, _, _, _⟩ :: _) _ _); refine wpList_load_range (d := 21) _ _ rfl _ Try.underlying48 wr _ _ _ _ (by rfl) rfl rfl _ HQX.out (Kp.refl wr) (by rfl) ?_) | ((with_reducible show wpList _ _ _ (⟨none, .store _ (.tmp 8) (.tmp 21), _, _, _, _⟩ :: _) _ _); refine wpList_store_new rfl 48 _ _ rfl wr _ _ (by rfl) (by rfl) (by first | rfl | simp) _ _ rfl (by rfl) (by rfl) (by first | exact all2 rfl rfl | exact all4 rfl rfl rfl rfl | exact all5 rfl rfl rfl rfl hone | exact all3 rfl hone rfl | exact all5 rfl hone1 hone2 rfl hone3 | exact all5 rfl rfl rfl rfl hony | exact all3 rfl hony rfl | exact all5 rfl hony1 hony2 rfl hony3) ?_; intro w4 hq4 hk4 hs4; have HB4 := Lib.hid hq4; have HK4 := Lib.hid hk4; clear hk4; obtain ⟨d40, d41, d42⟩ := row3 hq4; clear hq4) | ((with_reducible show wpList _ _ _ (⟨some 24, _, _, _, _, _⟩ :: _) _ _); refine wpList_index_tab (d := 24) _ _ _ rfl 48 Try.underlying22 3 rfl _ _ _ _ q (by rfl) rfl k (by rfl) hlt2 ?_) | ((with_reducible show wpList _ _ _ (⟨some 25, _, _, _, _, _⟩ :: _) _ _); refine wpList_load_range (d := 25) _ _ rfl _ Try.underlying48 wr _ _ _ _ (by rfl) rfl rfl _ HQY.out HK4.out (by rfl) ?_) | ((with_reducible show wpList _ _ _ (⟨none, .store _ (.tmp 9) (.tmp 25), _, _, _, _⟩ :: _) _ _); refine wpList_store_new rfl 48 _ _ rfl w4 _ _ (by rfl) (by rfl) (by first | rfl | simp) _ _ rfl (by rfl) (by rfl) (by first | exact all2 rfl rfl | exact all4 rfl rfl rfl rfl | exact all5 rfl rfl rfl rfl hone | exact all3 rfl hone rfl | exact all5 rfl hone1 hone2 rfl hone3 | exact all5 rfl rfl rfl rfl hony | exact all3 rfl hony rfl | exact all5 rfl hony1 hony2 rfl hony3) ?_; intro w5 hq5 hk5 hs5; have HB5 := Lib.hid hq5; have HK5 := Lib.hid hk5; clear hk5; obtain ⟨d50, d51, d52⟩ := row3 hq5; clear hq5; have HB45 := Lib.hid (row_keep HK5.out HB4.out); obtain ⟨d40, d41, d42⟩ := row3 HB45.out) | (go_at_call 37; (with_reducible refine (HF.out x y _ _ _ (goodS.keep HLX2.out (HK4.out.trans HK5.out)) (goodS.keep HLY2.out (HK4.out.trans HK5.out))).mono ?_); rintro e w6 ⟨rfl, h6⟩; have HK6 := Lib.hid h6; clear h6; rw [HXY.out]))
          go_roundw
          case rel => exact ⟨k + 1, by omega, by go_num, all_next HA.out HXK.out HYK.out HXY.out, HK.out.trans (HK4.out.trans (HK5.out.trans HK6.out))⟩
          case measure => simp [intOf]; omega
        | false =>
          have HXY := Lib.hid hxy
          clear hxy
          go_wp2_with (first | ((with_reducible show wpList _ _ _ (⟨some 20, _, _, _, _, _⟩ :: _) _ _); refine wpList_index_tab (d := 20) _ _ _ rfl 48 Try.underlying22 3 rfl _ _ _ _ p (by rfl) rfl k (by rfl) hlt ?_) | ((with_reducible show wpList _ _ _ (⟨some 21, _, _, _, _, _⟩ :: _) _ _); refine wpList_load_range (d := 21) _ _ rfl _ Try.underlying48 wr _ _ _ _ (by rfl) rfl rfl _ HQX.out (Kp.refl wr) (by rfl) ?_) | ((with_reducible show wpList _ _ _ (⟨none, .store _ (.tmp 8) (.tmp 21), _, _, _, _⟩ :: _) _ _); refine wpList_store_new rfl 48 _ _ rfl wr _ _ (by rfl) (by rfl) (by first | rfl | simp) _ _ rfl (by rfl) (by rfl) (by first | exact all2 rfl rfl | exact all4 rfl rfl rfl rfl | exact all5 rfl rfl rfl rfl hone | exact all3 rfl hone rfl | exact all5 rfl hone1 hone2 rfl hone3 | exact all5 rfl rfl rfl rfl hony | exact all3 rfl hony rfl | exact all5 rfl hony1 hony2 rfl hony3) ?_; intro w4 hq4 hk4 hs4; have HB4 := Lib.hid hq4; have HK4 := Lib.hid hk4; clear hk4; obtain ⟨d40, d41, d42⟩ := row3 hq4; clear hq4) | ((with_reducible show wpList _ _ _ (⟨some 24, _, _, _, _, _⟩ :: _) _ _); refine wpList_index_tab (d := 24) _ _ _ rfl 48 Try.underlying22 3 rfl _ _ _ _ q (by rfl) rfl k (by rfl) hlt2 ?_) | ((with_reducible show wpList _ _ _ (⟨some 25, _, _, _, _, _⟩ :: _) _ _); refine wpList_load_range (d := 25) _ _ rfl _ Try.underlying48 wr _ _ _ _ (by rfl) rfl rfl _ HQY.out HK4.out (by rfl) ?_) | ((with_reducible show wpList _ _ _ (⟨none, .store _ (.tmp 9) (.tmp 25), _, _, _, _⟩ :: _) _ _); refine wpList_store_new rfl 48 _ _ rfl w4 _ _ (by rfl) (by rfl) (by first | rfl | simp) _ _ rfl (by rfl) (by rfl) (by first | exact all2 rfl rfl | exact all4 rfl rfl rfl rfl | exact all5 rfl rfl rfl rfl hone | exact all3 rfl hone rfl | exact all5 rfl hone1 hone2 rfl hone3 | exact all5 rfl rfl rfl rfl hony | exact all3 rfl hony rfl | exact all5 rfl hony1 hony2 rfl hony3) ?_; intro w5 hq5 hk5 hs5; have HB5 := Lib.hid hq5; have HK5 := Lib.hid hk5; clear hk5; obtain ⟨d50, d51, d52⟩ := row3 hq5; clear hq5; have HB45 := Lib.hid (row_keep HK5.out HB4.out); obtain ⟨d40, d41, d42⟩ := row3 HB45.out) | (go_at_call 37; (with_reducible refine (HF.out x y _ _ _ (goodS.keep HLX2.out (HK4.out.trans HK5.out)) (goodS.keep HLY2.out (HK4.out.trans HK5.out))).mono ?_); rintro e w6 ⟨rfl, h6⟩; have HK6 := Lib.hid h6; clear h6; rw [HXY.out]))
          go_ret
          exact tell (sameL_bad HXK.out HYK.out HXY.out) (HK.out.trans (HK4.out.trans (HK5.out.trans HK6.out)))
      · go_wp2_with fail
        go_ret
        exact tell (sameL_all HL.out (fun i x y hx hy => HA.out i x y (by have := (List.getElem?_eq_some_iff.1 hx).1; omega) hx hy)) HK.out
  · have HL := Lib.hid hlen
    have hd : ((l.length : Int) != (m.length : Int)) = true := by simp; omega
    clear hlen
    go_enter Try.func36, Try.ntmps36
    go_wp2_with fail
    go_ret
    exact tell (sameL_len HL.out) (Kp.refl w)
set_option maxHeartbeats 1000000 in
set_option maxRecDepth 100000 in
theorem eq_N (l m : List Ins) (v u : Value) (w : World) (hl : NL w A0 l v) (hm : NL w A0 m u)
    (hf : ∀ (x y : Ins) (cx cy : List Value) (W : World), LN W A0 x cx → LN W A0 y cy → Calls Try.prog 54 #[.agg cx.toArray, .agg cy.toArray] W (Tell (sameIns x y) W)) :
    Calls Try.prog 53 #[v, u, .func (.func 54) #[] #[]] w (Tell (sameL sameIns l m) w) := by
  have hsz : (Try.prog.info? 55).map (·.size) = some 5 := by kernel_rfl
  obtain ⟨a1, q1, C1, rfl, _, hby1, _, ht1, hx1⟩ := hl
  obtain ⟨a2, q2, C2, rfl, _, hby2, _, ht2, hx2⟩ := hm
  have hc1 : l.length ≤ 140737488351232 := by omega
  have hc2 : m.length ≤ 140737488351232 := by omega
  have HT1 := Lib.hid ht1
  have HX1 := Lib.hid hx1
  have HT2 := Lib.hid ht2
  have HX2 := Lib.hid hx2
  have HF := Lib.hid hf
  clear ht1 hx1 ht2 hx2 hby1 hby2 hf hsz
  by_cases hlen : l.length = m.length
  · have HL := Lib.hid hlen
    have hd : ((l.length : Int) != (m.length : Int)) = false := by simp [hlen]
    clear hlen
    go_enter Try.func53, Try.ntmps53
    go_wp2_with fail
    go_loopw [17] (fun i wr => ∃ k : Nat, k ≤ l.length ∧ i = .int .i64 (k : Int) ∧ (∀ j x y, j < k → l[j]? = some x → m[j]? = some y → sameIns x y = true) ∧ Kp w wr) (fun i _ => l.length - (intOf i).toNat)
    case atStart => exact ⟨0, by omega, rfl, fun j x y h => by omega, Kp.refl w⟩
    case round =>
      obtain ⟨k, hk, rfl, hall, hkp⟩ := hrel
      have HA := Lib.hid hall
      have HK := Lib.hid hkp
      clear hall hkp
      by_cases hlt : k < l.length
      · have hlt2 : k < m.length := by have := HL.out; omega
        obtain ⟨x, hxk⟩ : ∃ x, l[k]? = some x := ⟨_, List.getElem?_eq_getElem hlt⟩
        obtain ⟨y, hyk⟩ : ∃ y, m[k]? = some y := ⟨_, List.getElem?_eq_getElem hlt2⟩
        obtain ⟨b, p, rfl, hr⟩ := (HT1.out.keep HK.out).at (by omega)
        obtain ⟨c, q, rfl, hs⟩ := (HT2.out.keep HK.out).at (by omega)
        have hrx := hr k hlt
        have hry := hs k hlt2
        have HLX := Lib.hid (goodN.keep (HX1.out k x hxk) HK.out)
        have HLY := Lib.hid (goodN.keep (HX2.out k y hyk) HK.out)
        obtain ⟨Vx, hcx, hvx, _⟩ := HLX.out
        obtain ⟨Vy, hcy, hvy, _⟩ := HLY.out
        rw [hcx] at hrx
        rw [hcy] at hry
        have hone := hvx.one
        have hony := hvy.one
        have HQX := Lib.hid hrx
        have HQY := Lib.hid hry
        have HLX2 := Lib.hid (show LN wr A0 x [.int .i64 x.o, .int .i64 x.a, .int .i64 x.b, .int .u64 x.n, Vx] by rw [← hcx]; exact HLX.out)
        have HLY2 := Lib.hid (show LN wr A0 y [.int .i64 y.o, .int .i64 y.a, .int .i64 y.b, .int .u64 y.n, Vy] by rw [← hcy]; exact HLY.out)
        clear HLX HLY
        have HXK := Lib.hid hxk
        have HYK := Lib.hid hyk
        clear hr hs hrx hry hxk hyk hcx hcy
        cases hxy : sameIns x y with
        | true =>
          have HXY := Lib.hid hxy
          clear hxy
          go_wp2_with (first | ((with_reducible show wpList _ _ _ (⟨some 20, _, _, _, _, _⟩ :: _) _ _); refine wpList_index_tab (d := 20) _ _ _ rfl 55 Try.underlying49 5 rfl _ _ _ _ p (by rfl) rfl k (by rfl) hlt ?_) | ((with_reducible show wpList _ _ _ (⟨some 21, _, _, _, _, _⟩ :: _) _ _); refine wpList_load_range (d := 21) _ _ rfl _ Try.underlying55 wr _ _ _ _ (by rfl) rfl rfl _ HQX.out (Kp.refl wr) (by rfl) ?_) | ((with_reducible show wpList _ _ _ (⟨none, .store _ (.tmp 8) (.tmp 21), _, _, _, _⟩ :: _) _ _); refine wpList_store_new rfl 55 _ _ rfl wr _ _ (by rfl) (by rfl) (by first | rfl | simp) _ _ rfl (by rfl) (by rfl) (by first | exact all2 rfl rfl | exact all4 rfl rfl rfl rfl | exact all5 rfl rfl rfl rfl hone | exact all3 rfl hone rfl | exact all5 rfl hone1 hone2 rfl hone3 | exact all5 rfl rfl rfl rfl hony | exact all3 rfl hony rfl | exact all5 rfl hony1 hony2 rfl hony3) ?_; intro w4 hq4 hk4 hs4; have HB4 := Lib.hid hq4; have HK4 := Lib.hid hk4; clear hk4; obtain ⟨d40, d41, d42, d43, d44⟩ := row5 hq4; clear hq4) | ((with_reducible show wpList _ _ _ (⟨some 24, _, _, _, _, _⟩ :: _) _ _); refine wpList_index_tab (d := 24) _ _ _ rfl 55 Try.underlying49 5 rfl _ _ _ _ q (by rfl) rfl k (by rfl) hlt2 ?_) | ((with_reducible show wpList _ _ _ (⟨some 25, _, _, _, _, _⟩ :: _) _ _); refine wpList_load_range (d := 25) _ _ rfl _ Try.underlying55 wr _ _ _ _ (by rfl) rfl rfl _ HQY.out HK4.out (by rfl) ?_) | ((with_reducible show wpList _ _ _ (⟨none, .store _ (.tmp 9) (.tmp 25), _, _, _, _⟩ :: _) _ _); refine wpList_store_new rfl 55 _ _ rfl w4 _ _ (by rfl) (by rfl) (by first | rfl | simp) _ _ rfl (by rfl) (by rfl) (by first | exact all2 rfl rfl | exact all4 rfl rfl rfl rfl | exact all5 rfl rfl rfl rfl hone | exact all3 rfl hone rfl | exact all5 rfl hone1 hone2 rfl hone3 | exact all5 rfl rfl rfl rfl hony | exact all3 rfl hony rfl | exact all5 rfl hony1 hony2 rfl hony3) ?_; intro w5 hq5 hk5 hs5; have HB5 := Lib.hid hq5; have HK5 := Lib.hid hk5; clear hk5; obtain ⟨d50, d51, d52, d53, d54⟩ := row5 hq5; clear hq5; have HB45 := Lib.hid (row_keep HK5.out HB4.out); obtain ⟨d40, d41, d42, d43, d44⟩ := row5 HB45.out) | (go_at_call 54; (with_reducible refine (HF.out x y _ _ _ (goodN.keep HLX2.out (HK4.out.trans HK5.out)) (goodN.keep HLY2.out (HK4.out.trans HK5.out))).mono ?_); rintro e w6 ⟨rfl, h6⟩; have HK6 := Lib.hid h6; clear h6; rw [HXY.out]))
          go_roundw
          case rel => exact ⟨k + 1, by omega, by go_num, all_next HA.out HXK.out HYK.out HXY.out, HK.out.trans (HK4.out.trans (HK5.out.trans HK6.out))⟩
          case measure => simp [intOf]; omega
        | false =>
          have HXY := Lib.hid hxy
          clear hxy
          go_wp2_with (first | ((with_reducible show wpList _ _ _ (⟨some 20, _, _, _, _, _⟩ :: _) _ _); refine wpList_index_tab (d := 20) _ _ _ rfl 55 Try.underlying49 5 rfl _ _ _ _ p (by rfl) rfl k (by rfl) hlt ?_) | ((with_reducible show wpList _ _ _ (⟨some 21, _, _, _, _, _⟩ :: _) _ _); refine wpList_load_range (d := 21) _ _ rfl _ Try.underlying55 wr _ _ _ _ (by rfl) rfl rfl _ HQX.out (Kp.refl wr) (by rfl) ?_) | ((with_reducible show wpList _ _ _ (⟨none, .store _ (.tmp 8) (.tmp 21), _, _, _, _⟩ :: _) _ _); refine wpList_store_new rfl 55 _ _ rfl wr _ _ (by rfl) (by rfl) (by first | rfl | simp) _ _ rfl (by rfl) (by rfl) (by first | exact all2 rfl rfl | exact all4 rfl rfl rfl rfl | exact all5 rfl rfl rfl rfl hone | exact all3 rfl hone rfl | exact all5 rfl hone1 hone2 rfl hone3 | exact all5 rfl rfl rfl rfl hony | exact all3 rfl hony rfl | exact all5 rfl hony1 hony2 rfl hony3) ?_; intro w4 hq4 hk4 hs4; have HB4 := Lib.hid hq4; have HK4 := Lib.hid hk4; clear hk4; obtain ⟨d40, d41, d42, d43, d44⟩ := row5 hq4; clear hq4) | ((with_reducible show wpList _ _ _ (⟨some 24, _, _, _, _, _⟩ :: _) _ _); refine wpList_index_tab (d := 24) _ _ _ rfl 55 Try.underlying49 5 rfl _ _ _ _ q (by rfl) rfl k (by rfl) hlt2 ?_) | ((with_reducible show wpList _ _ _ (⟨some 25, _, _, _, _, _⟩ :: _) _ _); refine wpList_load_range (d := 25) _ _ rfl _ Try.underlying55 wr _ _ _ _ (by rfl) rfl rfl _ HQY.out HK4.out (by rfl) ?_) | ((with_reducible show wpList _ _ _ (⟨none, .store _ (.tmp 9) (.tmp 25), _, _, _, _⟩ :: _) _ _); refine wpList_store_new rfl 55 _ _ rfl w4 _ _ (by rfl) (by rfl) (by first | rfl | simp) _ _ rfl (by rfl) (by rfl) (by first | exact all2 rfl rfl | exact all4 rfl rfl rfl rfl | exact all5 rfl rfl rfl rfl hone | exact all3 rfl hone rfl | exact all5 rfl hone1 hone2 rfl hone3 | exact all5 rfl rfl rfl rfl hony | exact all3 rfl hony rfl | exact all5 rfl hony1 hony2 rfl hony3) ?_; intro w5 hq5 hk5 hs5; have HB5 := Lib.hid hq5; have HK5 := Lib.hid hk5; clear hk5; obtain ⟨d50, d51, d52, d53, d54⟩ := row5 hq5; clear hq5; have HB45 := Lib.hid (row_keep HK5.out HB4.out); obtain ⟨d40, d41, d42, d43, d44⟩ := row5 HB45.out) | (go_at_call 54; (with_reducible refine (HF.out x y _ _ _ (goodN.keep HLX2.out (HK4.out.trans HK5.out)) (goodN.keep HLY2.out (HK4.out.trans HK5.out))).mono ?_); rintro e w6 ⟨rfl, h6⟩; have HK6 := Lib.hid h6; clear h6; rw [HXY.out]))
          go_ret
          exact tell (sameL_bad HXK.out HYK.out HXY.out) (HK.out.trans (HK4.out.trans (HK5.out.trans HK6.out)))
      · go_wp2_with fail
        go_ret
        exact tell (sameL_all HL.out (fun i x y hx hy => HA.out i x y (by have := (List.getElem?_eq_some_iff.1 hx).1; omega) hx hy)) HK.out
  · have HL := Lib.hid hlen
    have hd : ((l.length : Int) != (m.length : Int)) = true := by simp; omega
    clear hlen
    go_enter Try.func53, Try.ntmps53
    go_wp2_with fail
    go_ret
    exact tell (sameL_len HL.out) (Kp.refl w)
set_option maxHeartbeats 1000000 in
set_option maxRecDepth 100000 in
theorem c_sameFunction (x y : Fu) (cx cy : List Value) (w : World) (hx : LF w A0 x cx) (hy : LF w A0 y cy) :
    Calls Try.prog 39 #[.agg cx.toArray, .agg cy.toArray] w (Tell (sameFu x y) w) := by
  obtain ⟨V1x, V2x, V3x, rfl, hv1x, hv2x, hv3x, _⟩ := hx
  obtain ⟨V1y, V2y, V3y, rfl, hv1y, hv2y, hv3y, _⟩ := hy
  have k2 := ((Kp.refl w).alloc (.cells #[.int .i64 x.p, V1x, V2x, .int .i64 x.r, V3x] 51)).alloc (.cells #[.int .i64 y.p, V1y, V2y, .int .i64 y.r, V3y] 51)
  have HK0 := Lib.hid k2
  have HV1x := Lib.hid (hv1x.keep goodI k2)
  have HV1y := Lib.hid (hv1y.keep goodI k2)
  have HV2x := Lib.hid (hv2x.keep goodI k2)
  have HV2y := Lib.hid (hv2y.keep goodI k2)
  have HV3x := Lib.hid (hv3x.keep goodN k2)
  have HV3y := Lib.hid (hv3y.keep goodN k2)
  have r0 := row_keep ((Kp.refl _).alloc (.cells #[.int .i64 y.p, V1y, V2y, .int .i64 y.r, V3y] 51)) (heap_alloc_new w (.cells #[.int .i64 x.p, V1x, V2x, .int .i64 x.r, V3x] 51))
  have r1 : ((w.alloc (.cells #[.int .i64 x.p, V1x, V2x, .int .i64 x.r, V3x] 51)).alloc (.cells #[.int .i64 y.p, V1y, V2y, .int .i64 y.r, V3y] 51)).heap[w.heap.size + 1]? = some (.cells #[.int .i64 y.p, V1y, V2y, .int .i64 y.r, V3y] 51 (0, 0)) := by simpa using heap_alloc_new (w.alloc (.cells #[.int .i64 x.p, V1x, V2x, .int .i64 x.r, V3x] 51)) (.cells #[.int .i64 y.p, V1y, V2y, .int .i64 y.r, V3y] 51)
  have HR0 := Lib.hid r0
  have HR1 := Lib.hid r1
  clear k2 hv1x hv1y hv2x hv2y hv3x hv3y r0 r1
  obtain ⟨p0, p1, p2, p3, p4⟩ := row5 HR0.out
  obtain ⟨q0, q1, q2, q3, q4⟩ := row5 HR1.out
  cases g0 : (x.p == y.p) with
  | false =>
    go_enter Try.func39, Try.ntmps39
    go_wp2_with fail
    go_ret
    exact tell (by simp [sameFu, g0]) HK0.out
  | true =>
    cases g1 : (x.r == y.r) with
    | false =>
      go_enter Try.func39, Try.ntmps39
      go_wp2_with fail
      go_ret
      exact tell (by simp [sameFu, g0, g1]) HK0.out
    | true =>
      cases s1 : sameL eqI x.lo y.lo with
      | false =>
        have HG1 := Lib.hid s1
        clear s1
        go_enter Try.func39, Try.ntmps39
        go_wp2_with (first | (go_at_call 52; (with_reducible refine (c_Equal x.lo y.lo _ _ _ HV1x.out HV1y.out).mono ?_); rintro e w1 ⟨rfl, h1⟩; have HT1 := Lib.hid (h1); have HK1 := Lib.hid h1; clear h1; obtain ⟨p0, p1, p2, p3, p4⟩ := row5 (row_keep HT1.out HR0.out); obtain ⟨q0, q1, q2, q3, q4⟩ := row5 (row_keep HT1.out HR1.out); rw [HG1.out]))
        go_ret
        exact tell (by simp [sameFu, g0, g1, HG1.out]) (HK0.out.trans HT1.out)
      | true =>
        have HG1 := Lib.hid s1
        clear s1
        cases s2 : sameL eqI x.ca y.ca with
        | false =>
          have HG2 := Lib.hid s2
          clear s2
          go_enter Try.func39, Try.ntmps39
          go_wp2_with (first | (go_at_call 52; (with_reducible refine (c_Equal x.lo y.lo _ _ _ HV1x.out HV1y.out).mono ?_); rintro e w1 ⟨rfl, h1⟩; have HT1 := Lib.hid (h1); have HK1 := Lib.hid h1; clear h1; obtain ⟨p0, p1, p2, p3, p4⟩ := row5 (row_keep HT1.out HR0.out); obtain ⟨q0, q1, q2, q3, q4⟩ := row5 (row_keep HT1.out HR1.out); rw [HG1.out]) | (go_at_call 52; (with_reducible refine (c_Equal x.ca y.ca _ _ _ (HV2x.out.keep goodI HT1.out) (HV2y.out.keep goodI HT1.out)).mono ?_); rintro e w2 ⟨rfl, h2⟩; have HT2 := Lib.hid (HT1.out.trans h2); have HK2 := Lib.hid h2; clear h2; obtain ⟨p0, p1, p2, p3, p4⟩ := row5 (row_keep HT2.out HR0.out); obtain ⟨q0, q1, q2, q3, q4⟩ := row5 (row_keep HT2.out HR1.out); rw [HG2.out]))
          go_ret
          exact tell (by simp [sameFu, g0, g1, HG1.out, HG2.out]) (HK0.out.trans HT2.out)
        | true =>
          have HG2 := Lib.hid s2
          clear s2
          cases s3 : sameL sameIns x.co y.co with
          | false =>
            have HG3 := Lib.hid s3
            clear s3
            go_enter Try.func39, Try.ntmps39
            go_wp2_with (first | (go_at_call 52; (with_reducible refine (c_Equal x.lo y.lo _ _ _ HV1x.out HV1y.out).mono ?_); rintro e w1 ⟨rfl, h1⟩; have HT1 := Lib.hid (h1); have HK1 := Lib.hid h1; clear h1; obtain ⟨p0, p1, p2, p3, p4⟩ := row5 (row_keep HT1.out HR0.out); obtain ⟨q0, q1, q2, q3, q4⟩ := row5 (row_keep HT1.out HR1.out); rw [HG1.out]) | (go_at_call 52; (with_reducible refine (c_Equal x.ca y.ca _ _ _ (HV2x.out.keep goodI HT1.out) (HV2y.out.keep goodI HT1.out)).mono ?_); rintro e w2 ⟨rfl, h2⟩; have HT2 := Lib.hid (HT1.out.trans h2); have HK2 := Lib.hid h2; clear h2; obtain ⟨p0, p1, p2, p3, p4⟩ := row5 (row_keep HT2.out HR0.out); obtain ⟨q0, q1, q2, q3, q4⟩ := row5 (row_keep HT2.out HR1.out); rw [HG2.out]) | (go_at_call 53; (with_reducible refine (eq_N x.co y.co _ _ _ (HV3x.out.keep goodN HT2.out) (HV3y.out.keep goodN HT2.out) c_sameInstruction).mono ?_); rintro e w3 ⟨rfl, h3⟩; have HT3 := Lib.hid (HT2.out.trans h3); have HK3 := Lib.hid h3; clear h3; obtain ⟨p0, p1, p2, p3, p4⟩ := row5 (row_keep HT3.out HR0.out); obtain ⟨q0, q1, q2, q3, q4⟩ := row5 (row_keep HT3.out HR1.out); rw [HG3.out]))
            go_ret
            exact tell (by simp [sameFu, g0, g1, HG1.out, HG2.out, HG3.out]) (HK0.out.trans HT3.out)
          | true =>
            have HG3 := Lib.hid s3
            clear s3
            go_enter Try.func39, Try.ntmps39
            go_wp2_with (first | (go_at_call 52; (with_reducible refine (c_Equal x.lo y.lo _ _ _ HV1x.out HV1y.out).mono ?_); rintro e w1 ⟨rfl, h1⟩; have HT1 := Lib.hid (h1); have HK1 := Lib.hid h1; clear h1; obtain ⟨p0, p1, p2, p3, p4⟩ := row5 (row_keep HT1.out HR0.out); obtain ⟨q0, q1, q2, q3, q4⟩ := row5 (row_keep HT1.out HR1.out); rw [HG1.out]) | (go_at_call 52; (with_reducible refine (c_Equal x.ca y.ca _ _ _ (HV2x.out.keep goodI HT1.out) (HV2y.out.keep goodI HT1.out)).mono ?_); rintro e w2 ⟨rfl, h2⟩; have HT2 := Lib.hid (HT1.out.trans h2); have HK2 := Lib.hid h2; clear h2; obtain ⟨p0, p1, p2, p3, p4⟩ := row5 (row_keep HT2.out HR0.out); obtain ⟨q0, q1, q2, q3, q4⟩ := row5 (row_keep HT2.out HR1.out); rw [HG2.out]) | (go_at_call 53; (with_reducible refine (eq_N x.co y.co _ _ _ (HV3x.out.keep goodN HT2.out) (HV3y.out.keep goodN HT2.out) c_sameInstruction).mono ?_); rintro e w3 ⟨rfl, h3⟩; have HT3 := Lib.hid (HT2.out.trans h3); have HK3 := Lib.hid h3; clear h3; obtain ⟨p0, p1, p2, p3, p4⟩ := row5 (row_keep HT3.out HR0.out); obtain ⟨q0, q1, q2, q3, q4⟩ := row5 (row_keep HT3.out HR1.out); rw [HG3.out]))
            go_ret
            exact tell (by simp [sameFu, g0, g1, HG1.out, HG2.out, HG3.out]) (HK0.out.trans HT3.out)
set_option maxHeartbeats 1000000 in
set_option maxRecDepth 100000 in
theorem eq_U (l m : List Fu) (v u : Value) (w : World) (hl : FL w A0 l v) (hm : FL w A0 m u)
    (hf : ∀ (x y : Fu) (cx cy : List Value) (W : World), LF W A0 x cx → LF W A0 y cy → Calls Try.prog 39 #[.agg cx.toArray, .agg cy.toArray] W (Tell (sameFu x y) W)) :
    Calls Try.prog 38 #[v, u, .func (.func 39) #[] #[]] w (Tell (sameL sameFu l m) w) := by
  have hsz : (Try.prog.info? 51).map (·.size) = some 5 := by kernel_rfl
  obtain ⟨a1, q1, C1, rfl, _, hby1, _, ht1, hx1⟩ := hl
  obtain ⟨a2, q2, C2, rfl, _, hby2, _, ht2, hx2⟩ := hm
  have hc1 : l.length ≤ 140737488351232 := by omega
  have hc2 : m.length ≤ 140737488351232 := by omega
  have HT1 := Lib.hid ht1
  have HX1 := Lib.hid hx1
  have HT2 := Lib.hid ht2
  have HX2 := Lib.hid hx2
  have HF := Lib.hid hf
  clear ht1 hx1 ht2 hx2 hby1 hby2 hf hsz
  by_cases hlen : l.length = m.length
  · have HL := Lib.hid hlen
    have hd : ((l.length : Int) != (m.length : Int)) = false := by simp [hlen]
    clear hlen
    go_enter Try.func38, Try.ntmps38
    go_wp2_with fail
    go_loopw [17] (fun i wr => ∃ k : Nat, k ≤ l.length ∧ i = .int .i64 (k : Int) ∧ (∀ j x y, j < k → l[j]? = some x → m[j]? = some y → sameFu x y = true) ∧ Kp w wr) (fun i _ => l.length - (intOf i).toNat)
    case atStart => exact ⟨0, by omega, rfl, fun j x y h => by omega, Kp.refl w⟩
    case round =>
      obtain ⟨k, hk, rfl, hall, hkp⟩ := hrel
      have HA := Lib.hid hall
      have HK := Lib.hid hkp
      clear hall hkp
      by_cases hlt : k < l.length
      · have hlt2 : k < m.length := by have := HL.out; omega
        obtain ⟨x, hxk⟩ : ∃ x, l[k]? = some x := ⟨_, List.getElem?_eq_getElem hlt⟩
        obtain ⟨y, hyk⟩ : ∃ y, m[k]? = some y := ⟨_, List.getElem?_eq_getElem hlt2⟩
        obtain ⟨b, p, rfl, hr⟩ := (HT1.out.keep HK.out).at (by omega)
        obtain ⟨c, q, rfl, hs⟩ := (HT2.out.keep HK.out).at (by omega)
        have hrx := hr k hlt
        have hry := hs k hlt2
        have HLX := Lib.hid (goodF.keep (HX1.out k x hxk) HK.out)
        have HLY := Lib.hid (goodF.keep (HX2.out k y hyk) HK.out)
        obtain ⟨V1x, V2x, V3x, hcx, hv1x, hv2x, hv3x, _⟩ := HLX.out
        obtain ⟨V1y, V2y, V3y, hcy, hv1y, hv2y, hv3y, _⟩ := HLY.out
        rw [hcx] at hrx
        rw [hcy] at hry
        have hone1 := hv1x.one
        have hone2 := hv2x.one
        have hone3 := hv3x.one
        have hony1 := hv1y.one
        have hony2 := hv2y.one
        have hony3 := hv3y.one
        have HQX := Lib.hid hrx
        have HQY := Lib.hid hry
        have HLX2 := Lib.hid (show LF wr A0 x [.int .i64 x.p, V1x, V2x, .int .i64 x.r, V3x] by rw [← hcx]; exact HLX.out)
        have HLY2 := Lib.hid (show LF wr A0 y [.int .i64 y.p, V1y, V2y, .int .i64 y.r, V3y] by rw [← hcy]; exact HLY.out)
        clear HLX HLY
        have HXK := Lib.hid hxk
        have HYK := Lib.hid hyk
        clear hr hs hrx hry hxk hyk hcx hcy
        cases hxy : sameFu x y with
        | true =>
          have HXY := Lib.hid hxy
          clear hxy
          go_wp2_with (first | ((with_reducible show wpList _ _ _ (⟨some 20, _, _, _, _, _⟩ :: _) _ _); refine wpList_index_tab (d := 20) _ _ _ rfl 51 Try.underlying23 5 rfl _ _ _ _ p (by rfl) rfl k (by rfl) hlt ?_) | ((with_reducible show wpList _ _ _ (⟨some 21, _, _, _, _, _⟩ :: _) _ _); refine wpList_load_range (d := 21) _ _ rfl _ Try.underlying51 wr _ _ _ _ (by rfl) rfl rfl _ HQX.out (Kp.refl wr) (by rfl) ?_) | ((with_reducible show wpList _ _ _ (⟨none, .store _ (.tmp 8) (.tmp 21), _, _, _, _⟩ :: _) _ _); refine wpList_store_new rfl 51 _ _ rfl wr _ _ (by rfl) (by rfl) (by first | rfl | simp) _ _ rfl (by rfl) (by rfl) (by first | exact all2 rfl rfl | exact all4 rfl rfl rfl rfl | exact all5 rfl rfl rfl rfl hone | exact all3 rfl hone rfl | exact all5 rfl hone1 hone2 rfl hone3 | exact all5 rfl rfl rfl rfl hony | exact all3 rfl hony rfl | exact all5 rfl hony1 hony2 rfl hony3) ?_; intro w4 hq4 hk4 hs4; have HB4 := Lib.hid hq4; have HK4 := Lib.hid hk4; clear hk4; obtain ⟨d40, d41, d42, d43, d44⟩ := row5 hq4; clear hq4) | ((with_reducible show wpList _ _ _ (⟨some 24, _, _, _, _, _⟩ :: _) _ _); refine wpList_index_tab (d := 24) _ _ _ rfl 51 Try.underlying23 5 rfl _ _ _ _ q (by rfl) rfl k (by rfl) hlt2 ?_) | ((with_reducible show wpList _ _ _ (⟨some 25, _, _, _, _, _⟩ :: _) _ _); refine wpList_load_range (d := 25) _ _ rfl _ Try.underlying51 wr _ _ _ _ (by rfl) rfl rfl _ HQY.out HK4.out (by rfl) ?_) | ((with_reducible show wpList _ _ _ (⟨none, .store _ (.tmp 9) (.tmp 25), _, _, _, _⟩ :: _) _ _); refine wpList_store_new rfl 51 _ _ rfl w4 _ _ (by rfl) (by rfl) (by first | rfl | simp) _ _ rfl (by rfl) (by rfl) (by first | exact all2 rfl rfl | exact all4 rfl rfl rfl rfl | exact all5 rfl rfl rfl rfl hone | exact all3 rfl hone rfl | exact all5 rfl hone1 hone2 rfl hone3 | exact all5 rfl rfl rfl rfl hony | exact all3 rfl hony rfl | exact all5 rfl hony1 hony2 rfl hony3) ?_; intro w5 hq5 hk5 hs5; have HB5 := Lib.hid hq5; have HK5 := Lib.hid hk5; clear hk5; obtain ⟨d50, d51, d52, d53, d54⟩ := row5 hq5; clear hq5; have HB45 := Lib.hid (row_keep HK5.out HB4.out); obtain ⟨d40, d41, d42, d43, d44⟩ := row5 HB45.out) | (go_at_call 39; (with_reducible refine (HF.out x y _ _ _ (goodF.keep HLX2.out (HK4.out.trans HK5.out)) (goodF.keep HLY2.out (HK4.out.trans HK5.out))).mono ?_); rintro e w6 ⟨rfl, h6⟩; have HK6 := Lib.hid h6; clear h6; rw [HXY.out]))
          go_roundw
          case rel => exact ⟨k + 1, by omega, by go_num, all_next HA.out HXK.out HYK.out HXY.out, HK.out.trans (HK4.out.trans (HK5.out.trans HK6.out))⟩
          case measure => simp [intOf]; omega
        | false =>
          have HXY := Lib.hid hxy
          clear hxy
          go_wp2_with (first | ((with_reducible show wpList _ _ _ (⟨some 20, _, _, _, _, _⟩ :: _) _ _); refine wpList_index_tab (d := 20) _ _ _ rfl 51 Try.underlying23 5 rfl _ _ _ _ p (by rfl) rfl k (by rfl) hlt ?_) | ((with_reducible show wpList _ _ _ (⟨some 21, _, _, _, _, _⟩ :: _) _ _); refine wpList_load_range (d := 21) _ _ rfl _ Try.underlying51 wr _ _ _ _ (by rfl) rfl rfl _ HQX.out (Kp.refl wr) (by rfl) ?_) | ((with_reducible show wpList _ _ _ (⟨none, .store _ (.tmp 8) (.tmp 21), _, _, _, _⟩ :: _) _ _); refine wpList_store_new rfl 51 _ _ rfl wr _ _ (by rfl) (by rfl) (by first | rfl | simp) _ _ rfl (by rfl) (by rfl) (by first | exact all2 rfl rfl | exact all4 rfl rfl rfl rfl | exact all5 rfl rfl rfl rfl hone | exact all3 rfl hone rfl | exact all5 rfl hone1 hone2 rfl hone3 | exact all5 rfl rfl rfl rfl hony | exact all3 rfl hony rfl | exact all5 rfl hony1 hony2 rfl hony3) ?_; intro w4 hq4 hk4 hs4; have HB4 := Lib.hid hq4; have HK4 := Lib.hid hk4; clear hk4; obtain ⟨d40, d41, d42, d43, d44⟩ := row5 hq4; clear hq4) | ((with_reducible show wpList _ _ _ (⟨some 24, _, _, _, _, _⟩ :: _) _ _); refine wpList_index_tab (d := 24) _ _ _ rfl 51 Try.underlying23 5 rfl _ _ _ _ q (by rfl) rfl k (by rfl) hlt2 ?_) | ((with_reducible show wpList _ _ _ (⟨some 25, _, _, _, _, _⟩ :: _) _ _); refine wpList_load_range (d := 25) _ _ rfl _ Try.underlying51 wr _ _ _ _ (by rfl) rfl rfl _ HQY.out HK4.out (by rfl) ?_) | ((with_reducible show wpList _ _ _ (⟨none, .store _ (.tmp 9) (.tmp 25), _, _, _, _⟩ :: _) _ _); refine wpList_store_new rfl 51 _ _ rfl w4 _ _ (by rfl) (by rfl) (by first | rfl | simp) _ _ rfl (by rfl) (by rfl) (by first | exact all2 rfl rfl | exact all4 rfl rfl rfl rfl | exact all5 rfl rfl rfl rfl hone | exact all3 rfl hone rfl | exact all5 rfl hone1 hone2 rfl hone3 | exact all5 rfl rfl rfl rfl hony | exact all3 rfl hony rfl | exact all5 rfl hony1 hony2 rfl hony3) ?_; intro w5 hq5 hk5 hs5; have HB5 := Lib.hid hq5; have HK5 := Lib.hid hk5; clear hk5; obtain ⟨d50, d51, d52, d53, d54⟩ := row5 hq5; clear hq5; have HB45 := Lib.hid (row_keep HK5.out HB4.out); obtain ⟨d40, d41, d42, d43, d44⟩ := row5 HB45.out) | (go_at_call 39; (with_reducible refine (HF.out x y _ _ _ (goodF.keep HLX2.out (HK4.out.trans HK5.out)) (goodF.keep HLY2.out (HK4.out.trans HK5.out))).mono ?_); rintro e w6 ⟨rfl, h6⟩; have HK6 := Lib.hid h6; clear h6; rw [HXY.out]))
          go_ret
          exact tell (sameL_bad HXK.out HYK.out HXY.out) (HK.out.trans (HK4.out.trans (HK5.out.trans HK6.out)))
      · go_wp2_with fail
        go_ret
        exact tell (sameL_all HL.out (fun i x y hx hy => HA.out i x y (by have := (List.getElem?_eq_some_iff.1 hx).1; omega) hx hy)) HK.out
  · have HL := Lib.hid hlen
    have hd : ((l.length : Int) != (m.length : Int)) = true := by simp; omega
    clear hlen
    go_enter Try.func38, Try.ntmps38
    go_wp2_with fail
    go_ret
    exact tell (sameL_len HL.out) (Kp.refl w)
set_option maxHeartbeats 1000000 in
set_option maxRecDepth 100000 in
theorem c_Same (x y : Mo) (cx cy : List Value) (w : World) (hx : LM w A0 x cx) (hy : LM w A0 y cy) :
    Calls Try.prog 21 #[.agg cx.toArray, .agg cy.toArray] w (Tell (sameMo x y) w) := by
  obtain ⟨V1x, V2x, rfl, hv1x, hv2x⟩ := hx
  obtain ⟨V1y, V2y, rfl, hv1y, hv2y⟩ := hy
  have k2 := ((Kp.refl w).alloc (.cells #[V1x, V2x] 25)).alloc (.cells #[V1y, V2y] 25)
  have HK0 := Lib.hid k2
  have HV1x := Lib.hid (hv1x.keep goodS k2)
  have HV1y := Lib.hid (hv1y.keep goodS k2)
  have HV2x := Lib.hid (hv2x.keep goodF k2)
  have HV2y := Lib.hid (hv2y.keep goodF k2)
  have r0 := row_keep ((Kp.refl _).alloc (.cells #[V1y, V2y] 25)) (heap_alloc_new w (.cells #[V1x, V2x] 25))
  have r1 : ((w.alloc (.cells #[V1x, V2x] 25)).alloc (.cells #[V1y, V2y] 25)).heap[w.heap.size + 1]? = some (.cells #[V1y, V2y] 25 (0, 0)) := by simpa using heap_alloc_new (w.alloc (.cells #[V1x, V2x] 25)) (.cells #[V1y, V2y] 25)
  have HR0 := Lib.hid r0
  have HR1 := Lib.hid r1
  clear k2 hv1x hv1y hv2x hv2y r0 r1
  obtain ⟨p0, p1⟩ := row2 HR0.out
  obtain ⟨q0, q1⟩ := row2 HR1.out
  cases s1 : sameL sameSh x.ty y.ty with
  | false =>
    have HG1 := Lib.hid s1
    clear s1
    go_enter Try.func21, Try.ntmps21
    go_wp2_with (first | (go_at_call 36; (with_reducible refine (eq_H x.ty y.ty _ _ _ HV1x.out HV1y.out c_sameShape).mono ?_); rintro e w1 ⟨rfl, h1⟩; have HT1 := Lib.hid (h1); have HK1 := Lib.hid h1; clear h1; obtain ⟨p0, p1⟩ := row2 (row_keep HT1.out HR0.out); obtain ⟨q0, q1⟩ := row2 (row_keep HT1.out HR1.out); rw [HG1.out]))
    go_ret
    exact tell (by simp [sameMo, HG1.out]) (HK0.out.trans HT1.out)
  | true =>
    have HG1 := Lib.hid s1
    clear s1
    cases s2 : sameL sameFu x.fu y.fu with
    | false =>
      have HG2 := Lib.hid s2
      clear s2
      go_enter Try.func21, Try.ntmps21
      go_wp2_with (first | (go_at_call 36; (with_reducible refine (eq_H x.ty y.ty _ _ _ HV1x.out HV1y.out c_sameShape).mono ?_); rintro e w1 ⟨rfl, h1⟩; have HT1 := Lib.hid (h1); have HK1 := Lib.hid h1; clear h1; obtain ⟨p0, p1⟩ := row2 (row_keep HT1.out HR0.out); obtain ⟨q0, q1⟩ := row2 (row_keep HT1.out HR1.out); rw [HG1.out]) | (go_at_call 38; (with_reducible refine (eq_U x.fu y.fu _ _ _ (HV2x.out.keep goodF HT1.out) (HV2y.out.keep goodF HT1.out) c_sameFunction).mono ?_); rintro e w2 ⟨rfl, h2⟩; have HT2 := Lib.hid (HT1.out.trans h2); have HK2 := Lib.hid h2; clear h2; obtain ⟨p0, p1⟩ := row2 (row_keep HT2.out HR0.out); obtain ⟨q0, q1⟩ := row2 (row_keep HT2.out HR1.out); rw [HG2.out]))
      go_ret
      exact tell (by simp [sameMo, HG1.out, HG2.out]) (HK0.out.trans HT2.out)
    | true =>
      have HG2 := Lib.hid s2
      clear s2
      go_enter Try.func21, Try.ntmps21
      go_wp2_with (first | (go_at_call 36; (with_reducible refine (eq_H x.ty y.ty _ _ _ HV1x.out HV1y.out c_sameShape).mono ?_); rintro e w1 ⟨rfl, h1⟩; have HT1 := Lib.hid (h1); have HK1 := Lib.hid h1; clear h1; obtain ⟨p0, p1⟩ := row2 (row_keep HT1.out HR0.out); obtain ⟨q0, q1⟩ := row2 (row_keep HT1.out HR1.out); rw [HG1.out]) | (go_at_call 38; (with_reducible refine (eq_U x.fu y.fu _ _ _ (HV2x.out.keep goodF HT1.out) (HV2y.out.keep goodF HT1.out) c_sameFunction).mono ?_); rintro e w2 ⟨rfl, h2⟩; have HT2 := Lib.hid (HT1.out.trans h2); have HK2 := Lib.hid h2; clear h2; obtain ⟨p0, p1⟩ := row2 (row_keep HT2.out HR0.out); obtain ⟨q0, q1⟩ := row2 (row_keep HT2.out HR1.out); rw [HG2.out]))
      go_ret
      exact tell (by simp [sameMo, HG1.out, HG2.out]) (HK0.out.trans HT2.out)
end Go.Proofs.Ytlhiaompcgdmfaa
