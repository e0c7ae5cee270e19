/- Which modules are sound in form, and the cells of a shape, by the program. Condition: the module lies in memory. -/
import Derived.Test.YtkkcoaecidjecaaE7
namespace Go.Proofs.Ytkkcoaecidjecaa
open Go.RowKit
set_option linter.unusedVariables false
set_option linter.unusedSimpArgs false
theorem codeN_take {l : List Fu} {k : Nat} {x : Fu} (h : l[k]? = some x) : codeN (l.take (k + 1)) = codeN (l.take k) + x.co.length := by
  rw [take_at h, codeN_append]; simp [codeN]
theorem fus_bad {l : List Fu} {n : Int} {k : Nat} {x : Fu} (h : l[k]? = some x) (hx : fuB n x = false) : fusB l n = false := by
  have : l.all (fuB n) = false := by
    rw [List.all_eq_false]
    exact ⟨x, List.mem_of_getElem? h, by rw [hx]; decide⟩
  unfold fusB
  rw [this]; simp
theorem fus_all {l : List Fu} {n : Int} (h0 : 1 ≤ l.length ∧ l.length ≤ 256) (h : ∀ (j : Nat) x, j < l.length → l[j]? = some x → fuB n x = true) : fusB l n = decide (codeN l ≤ 65536) := by
  have : l.all (fuB n) = true := by
    rw [List.all_eq_true]
    intro x hx
    obtain ⟨i, hi⟩ := List.mem_iff_getElem?.1 hx
    exact h i x (List.getElem?_eq_some_iff.1 hi).1 hi
  unfold fusB
  rw [this, decide_eq_true h0]; simp
set_option maxHeartbeats 4000000 in
set_option maxRecDepth 100000 in
theorem c_areFunctions (l : List Fu) (n : Int) (v : Value) (w : World) (h : FL w A0 l v) : Calls Try.prog 45 #[v, .int .i64 n] w (Tell (fusB l n) w) := by
  obtain ⟨a1, q1, C1, rfl, _, hby1, _, ht1, hx1⟩ := h
  have hc1 : l.length ≤ 140737488351232 := by omega
  have HT1 := Lib.hid ht1
  have HX1 := Lib.hid hx1
  clear ht1 hx1 hby1
  by_cases hlen : 1 ≤ l.length ∧ l.length ≤ 256
  · have g1 : ¬ ((l.length : Int) < 1) := by omega
    have g2 : ¬ ((l.length : Int) > 256) := by omega
    have HL := Lib.hid hlen
    clear hlen
    go_enter Try.func45, Try.ntmps45
    go_wp2_with fail
    go_loopw [5, 18] (fun y i wr => ∃ k : Nat, k ≤ l.length ∧ i = .int .i64 (k : Int) ∧ y = .int .i64 (codeN (l.take k) : Int) ∧ Hid (codeN (l.take k) ≤ k * 2513169434843) ∧ Hid (∀ (j : Nat) x, j < k → l[j]? = some x → fuB n x = true) ∧ Hid (Kp w wr)) (fun _ i _ => l.length - (intOf i).toNat)
    case atStart => exact ⟨0, by omega, rfl, rfl, Lib.hid (by simp [codeN]), Lib.hid (fun j x h => by omega), Lib.hid (Kp.refl w)⟩
    case round =>
      obtain ⟨k, hk, rfl, rfl, HN, HA, HK⟩ := hrel
      by_cases hlt : k < l.length
      · obtain ⟨x, hxk⟩ : ∃ x, l[k]? = some x := ⟨_, List.getElem?_eq_getElem hlt⟩
        obtain ⟨b, q, hab, hr⟩ := (HT1.out.keep HK.out).at (by omega)
        subst hab
        have hrk := hr k hlt
        have hls := HX1.out k x hxk
        obtain ⟨V1, V2, V3, hcx, hil1, hil2, hil3, ix1, ix2⟩ := hls
        rw [hcx] at hrk
        have hone1 := hil1.one
        have hone2 := hil2.one
        have hone3 := hil3.one
        have HQ := Lib.hid hrk
        have HXK := Lib.hid hxk
        have HI1 := Lib.hid hil1
        have HI2 := Lib.hid hil2
        obtain ⟨a3, q3, C3, rfl, _, hby3, _, _, _⟩ := id hil3
        obtain ⟨a2, q2, C2, rfl, _, hby2, _, _, _⟩ := id hil1
        have hc3 : x.co.length ≤ 2513169434843 := by omega
        have hc2 : x.lo.length ≤ 140737488351232 := by omega
        have hn0 := HN.out
        have hsum : codeN (l.take k) ≤ 256 * 2513169434843 := Nat.le_trans HN.out (Nat.mul_le_mul_right _ (by have := HL.out.2; omega))
        clear hr hrk hxk hcx hil1 hil2 hil3 hby3 hby2
        have HB1 : ∀ b, areB x.lo n 1024 = b → Hid (areB x.lo n 1024 = b) := fun _ h => Lib.hid h
        cases h1 : areB x.lo n 1024 with
        | false =>
          have HF1 := Lib.hid h1
          clear h1
          go_wp2_with (first | ((with_reducible show wpList _ _ _ (⟨some 20, _, _, _, _, _⟩ :: _) _ _); refine wpList_index_tab (d := 20) _ _ _ rfl 51 Try.underlying23 5 rfl _ _ _ _ q (by rfl) rfl k (by rfl) hlt ?_) | ((with_reducible show wpList _ _ _ (⟨some 21, _, _, _, _, _⟩ :: _) _ _); refine wpList_load_range (d := 21) _ _ rfl _ Try.underlying51 wr _ _ _ _ (by rfl) rfl rfl _ HQ.out (Kp.refl wr) (by rfl) ?_) | ((with_reducible show wpList _ _ _ (⟨none, .store _ (.tmp 7) (.tmp 21), _, _, _, _⟩ :: _) _ _); refine wpList_store_new rfl 51 _ _ rfl wr _ _ (by rfl) (by rfl) (by first | rfl | simp) _ _ rfl (by rfl) (by rfl) (by first | exact all2 rfl rfl | exact all4 rfl rfl rfl rfl | exact all5 rfl rfl rfl rfl hone | exact all3 rfl hone rfl | exact all5 rfl hone1 hone2 rfl hone3 | exact all5 rfl rfl rfl rfl hony | exact all3 rfl hony rfl | exact all5 rfl hony1 hony2 rfl hony3) ?_; intro w4 hq4 hk4 hs4; have HB4 := Lib.hid hq4; have HK4 := Lib.hid hk4; clear hk4; obtain ⟨d0, d1, d2, d3, d4⟩ := row5 hq4; clear hq4) | (go_at_call 65; (with_reducible refine (c_areShapes x.lo n 1024 _ w4 (HI1.out.keep goodI (HK.out.trans HK4.out))).mono ?_); rintro e w5 ⟨rfl, h5⟩; have HK5 := Lib.hid h5; have d0 := h5.cellv d0; have d1 := h5.cellv d1; have d2 := h5.cellv d2; have d3 := h5.cellv d3; have d4 := h5.cellv d4; clear h5; rw [HF1.out]))
          go_ret
          exact tell (fus_bad HXK.out (by simp [fuB, HF1.out])) (HK.out.trans (HK4.out.trans HK5.out))
        | true =>
          have HF1 := Lib.hid h1
          clear h1
          cases h2 : areB x.ca n 1024 with
          | false =>
            have HF2 := Lib.hid h2
            clear h2
            go_wp2_with (first | ((with_reducible show wpList _ _ _ (⟨some 20, _, _, _, _, _⟩ :: _) _ _); refine wpList_index_tab (d := 20) _ _ _ rfl 51 Try.underlying23 5 rfl _ _ _ _ q (by rfl) rfl k (by rfl) hlt ?_) | ((with_reducible show wpList _ _ _ (⟨some 21, _, _, _, _, _⟩ :: _) _ _); refine wpList_load_range (d := 21) _ _ rfl _ Try.underlying51 wr _ _ _ _ (by rfl) rfl rfl _ HQ.out (Kp.refl wr) (by rfl) ?_) | ((with_reducible show wpList _ _ _ (⟨none, .store _ (.tmp 7) (.tmp 21), _, _, _, _⟩ :: _) _ _); refine wpList_store_new rfl 51 _ _ rfl wr _ _ (by rfl) (by rfl) (by first | rfl | simp) _ _ rfl (by rfl) (by rfl) (by first | exact all2 rfl rfl | exact all4 rfl rfl rfl rfl | exact all5 rfl rfl rfl rfl hone | exact all3 rfl hone rfl | exact all5 rfl hone1 hone2 rfl hone3 | exact all5 rfl rfl rfl rfl hony | exact all3 rfl hony rfl | exact all5 rfl hony1 hony2 rfl hony3) ?_; intro w4 hq4 hk4 hs4; have HB4 := Lib.hid hq4; have HK4 := Lib.hid hk4; clear hk4; obtain ⟨d0, d1, d2, d3, d4⟩ := row5 hq4; clear hq4) | (go_at_call 65; (with_reducible refine (c_areShapes x.lo n 1024 _ w4 (HI1.out.keep goodI (HK.out.trans HK4.out))).mono ?_); rintro e w5 ⟨rfl, h5⟩; have HK5 := Lib.hid h5; have d0 := h5.cellv d0; have d1 := h5.cellv d1; have d2 := h5.cellv d2; have d3 := h5.cellv d3; have d4 := h5.cellv d4; clear h5; rw [HF1.out]) | (go_at_call 65; (with_reducible refine (c_areShapes x.ca n 1024 _ w5 (HI2.out.keep goodI (HK.out.trans (HK4.out.trans HK5.out)))).mono ?_); rintro e w6 ⟨rfl, h6⟩; have HK6 := Lib.hid h6; have d0 := h6.cellv d0; have d1 := h6.cellv d1; have d2 := h6.cellv d2; have d3 := h6.cellv d3; have d4 := h6.cellv d4; clear h6; rw [HF2.out]))
            go_ret
            exact tell (fus_bad HXK.out (by simp [fuB, HF2.out])) (HK.out.trans (HK4.out.trans (HK5.out.trans HK6.out)))
          | true =>
            have HF2 := Lib.hid h2
            clear h2
            by_cases h3 : x.p < 0
            · go_wp2_with (first | ((with_reducible show wpList _ _ _ (⟨some 20, _, _, _, _, _⟩ :: _) _ _); refine wpList_index_tab (d := 20) _ _ _ rfl 51 Try.underlying23 5 rfl _ _ _ _ q (by rfl) rfl k (by rfl) hlt ?_) | ((with_reducible show wpList _ _ _ (⟨some 21, _, _, _, _, _⟩ :: _) _ _); refine wpList_load_range (d := 21) _ _ rfl _ Try.underlying51 wr _ _ _ _ (by rfl) rfl rfl _ HQ.out (Kp.refl wr) (by rfl) ?_) | ((with_reducible show wpList _ _ _ (⟨none, .store _ (.tmp 7) (.tmp 21), _, _, _, _⟩ :: _) _ _); refine wpList_store_new rfl 51 _ _ rfl wr _ _ (by rfl) (by rfl) (by first | rfl | simp) _ _ rfl (by rfl) (by rfl) (by first | exact all2 rfl rfl | exact all4 rfl rfl rfl rfl | exact all5 rfl rfl rfl rfl hone | exact all3 rfl hone rfl | exact all5 rfl hone1 hone2 rfl hone3 | exact all5 rfl rfl rfl rfl hony | exact all3 rfl hony rfl | exact all5 rfl hony1 hony2 rfl hony3) ?_; intro w4 hq4 hk4 hs4; have HB4 := Lib.hid hq4; have HK4 := Lib.hid hk4; clear hk4; obtain ⟨d0, d1, d2, d3, d4⟩ := row5 hq4; clear hq4) | (go_at_call 65; (with_reducible refine (c_areShapes x.lo n 1024 _ w4 (HI1.out.keep goodI (HK.out.trans HK4.out))).mono ?_); rintro e w5 ⟨rfl, h5⟩; have HK5 := Lib.hid h5; have d0 := h5.cellv d0; have d1 := h5.cellv d1; have d2 := h5.cellv d2; have d3 := h5.cellv d3; have d4 := h5.cellv d4; clear h5; rw [HF1.out]) | (go_at_call 65; (with_reducible refine (c_areShapes x.ca n 1024 _ w5 (HI2.out.keep goodI (HK.out.trans (HK4.out.trans HK5.out)))).mono ?_); rintro e w6 ⟨rfl, h6⟩; have HK6 := Lib.hid h6; have d0 := h6.cellv d0; have d1 := h6.cellv d1; have d2 := h6.cellv d2; have d3 := h6.cellv d3; have d4 := h6.cellv d4; clear h6; rw [HF2.out]))
              go_ret
              exact tell (fus_bad HXK.out (by simp [fuB]; omega)) (HK.out.trans (HK4.out.trans (HK5.out.trans HK6.out)))
            · by_cases h4 : x.p > (x.lo.length : Int)
              · go_wp2_with (first | ((with_reducible show wpList _ _ _ (⟨some 20, _, _, _, _, _⟩ :: _) _ _); refine wpList_index_tab (d := 20) _ _ _ rfl 51 Try.underlying23 5 rfl _ _ _ _ q (by rfl) rfl k (by rfl) hlt ?_) | ((with_reducible show wpList _ _ _ (⟨some 21, _, _, _, _, _⟩ :: _) _ _); refine wpList_load_range (d := 21) _ _ rfl _ Try.underlying51 wr _ _ _ _ (by rfl) rfl rfl _ HQ.out (Kp.refl wr) (by rfl) ?_) | ((with_reducible show wpList _ _ _ (⟨none, .store _ (.tmp 7) (.tmp 21), _, _, _, _⟩ :: _) _ _); refine wpList_store_new rfl 51 _ _ rfl wr _ _ (by rfl) (by rfl) (by first | rfl | simp) _ _ rfl (by rfl) (by rfl) (by first | exact all2 rfl rfl | exact all4 rfl rfl rfl rfl | exact all5 rfl rfl rfl rfl hone | exact all3 rfl hone rfl | exact all5 rfl hone1 hone2 rfl hone3 | exact all5 rfl rfl rfl rfl hony | exact all3 rfl hony rfl | exact all5 rfl hony1 hony2 rfl hony3) ?_; intro w4 hq4 hk4 hs4; have HB4 := Lib.hid hq4; have HK4 := Lib.hid hk4; clear hk4; obtain ⟨d0, d1, d2, d3, d4⟩ := row5 hq4; clear hq4) | (go_at_call 65; (with_reducible refine (c_areShapes x.lo n 1024 _ w4 (HI1.out.keep goodI (HK.out.trans HK4.out))).mono ?_); rintro e w5 ⟨rfl, h5⟩; have HK5 := Lib.hid h5; have d0 := h5.cellv d0; have d1 := h5.cellv d1; have d2 := h5.cellv d2; have d3 := h5.cellv d3; have d4 := h5.cellv d4; clear h5; rw [HF1.out]) | (go_at_call 65; (with_reducible refine (c_areShapes x.ca n 1024 _ w5 (HI2.out.keep goodI (HK.out.trans (HK4.out.trans HK5.out)))).mono ?_); rintro e w6 ⟨rfl, h6⟩; have HK6 := Lib.hid h6; have d0 := h6.cellv d0; have d1 := h6.cellv d1; have d2 := h6.cellv d2; have d3 := h6.cellv d3; have d4 := h6.cellv d4; clear h6; rw [HF2.out]))
                go_ret
                exact tell (fus_bad HXK.out (by simp [fuB]; omega)) (HK.out.trans (HK4.out.trans (HK5.out.trans HK6.out)))
              · cases h5 : resB x.r n with
                | false =>
                  have HF5 := Lib.hid h5
                  clear h5
                  go_wp2_with (first | ((with_reducible show wpList _ _ _ (⟨some 20, _, _, _, _, _⟩ :: _) _ _); refine wpList_index_tab (d := 20) _ _ _ rfl 51 Try.underlying23 5 rfl _ _ _ _ q (by rfl) rfl k (by rfl) hlt ?_) | ((with_reducible show wpList _ _ _ (⟨some 21, _, _, _, _, _⟩ :: _) _ _); refine wpList_load_range (d := 21) _ _ rfl _ Try.underlying51 wr _ _ _ _ (by rfl) rfl rfl _ HQ.out (Kp.refl wr) (by rfl) ?_) | ((with_reducible show wpList _ _ _ (⟨none, .store _ (.tmp 7) (.tmp 21), _, _, _, _⟩ :: _) _ _); refine wpList_store_new rfl 51 _ _ rfl wr _ _ (by rfl) (by rfl) (by first | rfl | simp) _ _ rfl (by rfl) (by rfl) (by first | exact all2 rfl rfl | exact all4 rfl rfl rfl rfl | exact all5 rfl rfl rfl rfl hone | exact all3 rfl hone rfl | exact all5 rfl hone1 hone2 rfl hone3 | exact all5 rfl rfl rfl rfl hony | exact all3 rfl hony rfl | exact all5 rfl hony1 hony2 rfl hony3) ?_; intro w4 hq4 hk4 hs4; have HB4 := Lib.hid hq4; have HK4 := Lib.hid hk4; clear hk4; obtain ⟨d0, d1, d2, d3, d4⟩ := row5 hq4; clear hq4) | (go_at_call 65; (with_reducible refine (c_areShapes x.lo n 1024 _ w4 (HI1.out.keep goodI (HK.out.trans HK4.out))).mono ?_); rintro e w5 ⟨rfl, h5⟩; have HK5 := Lib.hid h5; have d0 := h5.cellv d0; have d1 := h5.cellv d1; have d2 := h5.cellv d2; have d3 := h5.cellv d3; have d4 := h5.cellv d4; clear h5; rw [HF1.out]) | (go_at_call 65; (with_reducible refine (c_areShapes x.ca n 1024 _ w5 (HI2.out.keep goodI (HK.out.trans (HK4.out.trans HK5.out)))).mono ?_); rintro e w6 ⟨rfl, h6⟩; have HK6 := Lib.hid h6; have d0 := h6.cellv d0; have d1 := h6.cellv d1; have d2 := h6.cellv d2; have d3 := h6.cellv d3; have d4 := h6.cellv d4; clear h6; rw [HF2.out]) | (go_at_call 66; (with_reducible refine (c_isResult x.r n w6).mono ?_); rintro e w7 ⟨rfl, h7⟩; have HK7 := Lib.hid h7; have d0 := h7.cellv d0; have d1 := h7.cellv d1; have d2 := h7.cellv d2; have d3 := h7.cellv d3; have d4 := h7.cellv d4; clear h7; rw [HF5.out]))
                  go_ret
                  exact tell (fus_bad HXK.out (by simp [fuB, HF5.out])) (HK.out.trans (HK4.out.trans (HK5.out.trans (HK6.out.trans HK7.out))))
                | true =>
                  have HF5 := Lib.hid h5
                  clear h5
                  have HFU : Hid (fuB n x = true) := Lib.hid (by simp [fuB, HF1.out, HF2.out, HF5.out]; omega)
                  go_wp2_with (first | ((with_reducible show wpList _ _ _ (⟨some 20, _, _, _, _, _⟩ :: _) _ _); refine wpList_index_tab (d := 20) _ _ _ rfl 51 Try.underlying23 5 rfl _ _ _ _ q (by rfl) rfl k (by rfl) hlt ?_) | ((with_reducible show wpList _ _ _ (⟨some 21, _, _, _, _, _⟩ :: _) _ _); refine wpList_load_range (d := 21) _ _ rfl _ Try.underlying51 wr _ _ _ _ (by rfl) rfl rfl _ HQ.out (Kp.refl wr) (by rfl) ?_) | ((with_reducible show wpList _ _ _ (⟨none, .store _ (.tmp 7) (.tmp 21), _, _, _, _⟩ :: _) _ _); refine wpList_store_new rfl 51 _ _ rfl wr _ _ (by rfl) (by rfl) (by first | rfl | simp) _ _ rfl (by rfl) (by rfl) (by first | exact all2 rfl rfl | exact all4 rfl rfl rfl rfl | exact all5 rfl rfl rfl rfl hone | exact all3 rfl hone rfl | exact all5 rfl hone1 hone2 rfl hone3 | exact all5 rfl rfl rfl rfl hony | exact all3 rfl hony rfl | exact all5 rfl hony1 hony2 rfl hony3) ?_; intro w4 hq4 hk4 hs4; have HB4 := Lib.hid hq4; have HK4 := Lib.hid hk4; clear hk4; obtain ⟨d0, d1, d2, d3, d4⟩ := row5 hq4; clear hq4) | (go_at_call 65; (with_reducible refine (c_areShapes x.lo n 1024 _ w4 (HI1.out.keep goodI (HK.out.trans HK4.out))).mono ?_); rintro e w5 ⟨rfl, h5⟩; have HK5 := Lib.hid h5; have d0 := h5.cellv d0; have d1 := h5.cellv d1; have d2 := h5.cellv d2; have d3 := h5.cellv d3; have d4 := h5.cellv d4; clear h5; rw [HF1.out]) | (go_at_call 65; (with_reducible refine (c_areShapes x.ca n 1024 _ w5 (HI2.out.keep goodI (HK.out.trans (HK4.out.trans HK5.out)))).mono ?_); rintro e w6 ⟨rfl, h6⟩; have HK6 := Lib.hid h6; have d0 := h6.cellv d0; have d1 := h6.cellv d1; have d2 := h6.cellv d2; have d3 := h6.cellv d3; have d4 := h6.cellv d4; clear h6; rw [HF2.out]) | (go_at_call 66; (with_reducible refine (c_isResult x.r n w6).mono ?_); rintro e w7 ⟨rfl, h7⟩; have HK7 := Lib.hid h7; have d0 := h7.cellv d0; have d1 := h7.cellv d1; have d2 := h7.cellv d2; have d3 := h7.cellv d3; have d4 := h7.cellv d4; clear h7; rw [HF5.out]))
                  go_roundw
                  case rel =>
                    refine ⟨k + 1, by omega, by go_num, by rw [codeN_take HXK.out]; simp, Lib.hid (by rw [codeN_take HXK.out, Nat.add_mul, Nat.one_mul]; omega), Lib.hid (fun j y hj hy => ?_), Lib.hid (HK.out.trans (HK4.out.trans (HK5.out.trans (HK6.out.trans HK7.out))))⟩
                    by_cases e : j = k
                    · subst e
                      have := HXK.out
                      rw [hy] at this
                      cases this
                      exact HFU.out
                    · exact HA.out j y (by omega) hy
                  case measure => simp [intOf]; omega
      · have HE : Hid (fusB l n = decide (codeN l ≤ 65536)) := Lib.hid (fus_all HL.out (fun j x hj hx => HA.out j x (by omega) hx))
        have e : k = l.length := by omega
        subst e
        rw [List.take_length]
        go_wp2_with fail
        go_ret
        exact tell (by rw [HE.out]; congr 1; simp only [eq_iff_iff]; omega) HK.out
  · have HL := Lib.hid hlen
    have HE : Hid (fusB l n = false) := Lib.hid (by unfold fusB; rw [decide_eq_false HL.out]; rfl)
    by_cases g1 : (l.length : Int) < 1
    · go_enter Try.func45, Try.ntmps45
      go_wp2_with fail
      go_ret
      exact tell HE.out (Kp.refl w)
    · have g2 : (l.length : Int) > 256 := by omega
      go_enter Try.func45, Try.ntmps45
      go_wp2_with fail
      go_ret
      exact tell HE.out (Kp.refl w)
end Go.Proofs.Ytkkcoaecidjecaa
