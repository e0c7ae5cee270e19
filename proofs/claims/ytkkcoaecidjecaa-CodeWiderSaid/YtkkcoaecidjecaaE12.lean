/- Which modules are sound in form, by the reference. Condition: the module lies in memory. -/
import Derived.Test.YtkkcoaecidjecaaE11
namespace Go.Proofs.Ytkkcoaecidjecaa
open Go.RowKit
set_option linter.unusedVariables false
set_option linter.unusedSimpArgs false
set_option maxHeartbeats 4000000 in
set_option maxRecDepth 100000 in
theorem c_shapes (l : List Int) (n : Int) (v : Value) (w : World) (hl : IL w A0 l v) :
    Calls Try.prog 29 #[v, .int .i64 n] w (Tell (areB l n 1024) w) := by
  obtain ⟨a1, q1, C1, rfl, _, hby1, _, ht1, hx1⟩ := hl
  have hc1 : l.length ≤ 140737488351232 := by omega
  have HT1 := Lib.hid ht1
  have HX1 := Lib.hid hx1
  clear ht1 hx1 hby1
  go_enter Try.func29, Try.ntmps29
  go_wp2_with fail
  go_loopw [5] (fun i wr => ∃ k : Nat, k ≤ l.length ∧ i = .int .i64 (k : Int) ∧ (∀ (j : Nat) x, j < k → l[j]? = some x → plB x n = true) ∧ Kp w wr) (fun i _ => l.length - (intOf i).toNat)
  case atStart => exact ⟨0, by omega, rfl, fun j x h => by omega, Kp.refl w⟩
  case round =>
    obtain ⟨k, hk, rfl, hall, hkp⟩ := hrel
    have HA := Lib.hid hall
    have HK := Lib.hid hkp
    clear hall hkp
    by_cases hlt : k < l.length
    · obtain ⟨x, hxk⟩ : ∃ x, l[k]? = some x := ⟨_, List.getElem?_eq_getElem hlt⟩
      obtain ⟨b, p, rfl, hr⟩ := (HT1.out.keep HK.out).at (by omega)
      have c0 := hr k hlt 0 (.int .i64 x) (by rw [(HX1.out k x hxk).1]; rfl)
      simp only [Nat.add_zero, Nat.mul_one] at c0
      have i0 := run_index_tab 33 3 Try.underlying33 1 (by kernel_rfl) b p l.length q1 k hlt
      simp only [Nat.mul_one] at i0
      have HXK := Lib.hid hxk
      clear hr hxk
      by_cases h0 : x < 0
      · go_wp2_with fail
        go_ret
        exact tell (areB_bad HXK.out (plB_lo h0)) HK.out
      · by_cases h1 : x ≥ n
        · go_wp2_with fail
          go_ret
          exact tell (areB_bad HXK.out (plB_hi h1)) HK.out
        · go_wp2_with fail
          go_roundw
          case rel => exact ⟨k + 1, by omega, by go_num, fun j y hj hy => by
            by_cases e : j = k
            · subst e
              have := HXK.out
              rw [hy] at this
              cases this
              simp [plB]; omega
            · exact HA.out j y (by omega) hy, HK.out⟩
          case measure => simp [intOf]; omega
    · by_cases hl : (l.length : Int) ≤ 1024
      · have HE := Lib.hid (areB_all (most := 1024) hl (fun j x hj hx => HA.out j x (by omega) hx))
        go_wp2_with fail
        go_ret
        exact tell HE.out HK.out
      · have HE : Hid (areB l n 1024 = false) := Lib.hid (by unfold areB; rw [decide_eq_false hl]; rfl)
        go_wp2_with fail
        go_ret
        exact tell HE.out HK.out
theorem all_take {l : List Fu} {k : Nat} {x : Fu} (n : Int) (h : l[k]? = some x) : (l.take (k + 1)).all (fuB n) = ((l.take k).all (fuB n) && fuB n x) := by
  rw [take_at h, List.all_append]; simp
theorem meas_isSome (m : Mo) : (measureP m).isSome = ((shapesP m.ty).isSome && fusB m.fu m.ty.length) := by
  unfold measureP
  cases shapesP m.ty with
  | none => rfl
  | some c => cases fusB m.fu m.ty.length <;> rfl
theorem shapes_isSome {l : List Sh} {b : Bool} {cv : Value} {w w' : World} (h : (widthsL l = none ∧ b = false ∧ cv = .slice none 0 0) ∨ ∃ c, widthsL l = some c ∧ b = decide (l.length ≤ 256) ∧ IL w' (From w.heap.size) c cv ∧ cellsOk c l.length) : b = (shapesP l).isSome := by
  unfold shapesP
  rcases h with ⟨h1, h2, _⟩ | ⟨c, h1, h2, _⟩
  · rw [h1, h2]; split <;> rfl
  · rw [h1, h2]
    by_cases h : l.length ≤ 256
    · rw [if_pos h, decide_eq_true h]; rfl
    · rw [if_neg h, decide_eq_false h]; rfl
theorem fus_fin {l : List Fu} {n s : Int} (hs : codeN l ≤ 9223372036854775807 → s = (codeN l : Int)) (hc : l.length ≤ 256 → codeN l ≤ 9223372036854775807) (ok : Bool) :
    (ok && fusB l n) = ((ok && l.all (fuB n)) && (decide (1 ≤ l.length) && (decide (l.length ≤ 256) && decide (s ≤ 65536)))) := by
  unfold fusB
  by_cases h : 1 ≤ l.length ∧ l.length ≤ 256
  · rw [decide_eq_true h, decide_eq_true h.1, decide_eq_true h.2, hs (hc h.2)]
    have : decide ((codeN l : Int) ≤ 65536) = decide (codeN l ≤ 65536) := by congr 1; simp only [eq_iff_iff]; omega
    rw [this]
    cases ok <;> cases l.all (fuB n) <;> simp
  · rw [decide_eq_false h]
    have : (decide (1 ≤ l.length) && (decide (l.length ≤ 256) && decide (s ≤ 65536))) = false := by
      by_cases h1 : 1 ≤ l.length
      · rw [decide_eq_false (show ¬ l.length ≤ 256 by omega)]; simp
      · rw [decide_eq_false h1]; simp
    rw [this]; simp
set_option maxHeartbeats 4000000 in
set_option maxRecDepth 100000 in
theorem c_Formed (m : Mo) (cs : List Value) (w : World) (h : LM w A0 m cs) : Calls Try.prog 14 #[.agg cs.toArray] w (Tell (measureP m).isSome w) := by
  obtain ⟨V1, V2, rfl, h1, h2⟩ := h
  have hr := heap_alloc_new w (.cells #[V1, V2] 25)
  obtain ⟨c0, c1⟩ := row2 hr
  have k0 := (Kp.refl w).alloc (.cells #[V1, V2] 25)
  have HK0 := Lib.hid k0
  have HB0 := Lib.hid hr
  have HS := Lib.hid (h1.keep goodS k0)
  have HCW := Lib.hid (c_Widths m.ty V1 _ HS.out)
  obtain ⟨a2, q2, C2, rfl, _, hby2, _, _, _⟩ := id h1
  have hc2 : m.ty.length ≤ 140737488351232 := by omega
  obtain ⟨a1, q1, C1, rfl, _, hby1, _, ht1, hx1⟩ := h2.keep goodF k0
  have hc1 : m.fu.length ≤ 1599289640356 := by omega
  have HT1 := Lib.hid ht1
  have HX1 := Lib.hid hx1
  clear hr h1 h2 k0 hby2 hby1 ht1 hx1
  go_enter Try.func14, Try.ntmps14
  go_wp2_with (first | (go_at_call 15; (with_reducible refine HCW.out.mono ?_); rintro e w1 ⟨cv, okw, rfl, hk1, hsum⟩; have HOW := Lib.hid (shapes_isSome hsum); have HK1 := Lib.hid hk1; have b0 := hk1.cellv c0; have b1 := hk1.cellv c1; clear c0 c1; have HB1 := Lib.hid (row_keep hk1 HB0.out); clear hk1 hsum))
  go_loopw [4, 5, 7] (fun y z i wr => ∃ (k : Nat) (qb : Bool) (s : Int), k ≤ m.fu.length ∧ i = .int .i64 (k : Int) ∧ y = .bool qb ∧ z = .int .i64 s ∧ Hid (qb = (okw && (m.fu.take k).all (fuB m.ty.length))) ∧ Hid (codeN (m.fu.take k) ≤ 9223372036854775807 → s = (codeN (m.fu.take k) : Int)) ∧ Hid (codeN (m.fu.take k) ≤ k * 2513169434843) ∧ Hid (Kp w1 wr)) (fun _ _ i _ => m.fu.length - (intOf i).toNat)
  case atStart => exact ⟨0, okw, 0, by omega, rfl, rfl, rfl, Lib.hid (by simp), Lib.hid (fun _ => rfl), Lib.hid (by simp [codeN]), Lib.hid (Kp.refl _)⟩
  case round =>
    obtain ⟨k, qb, s, hk, rfl, rfl, rfl, HQB, HSU, HN, HK⟩ := hrel
    have e0 := HK.out.cellv b0
    have e1 := HK.out.cellv b1
    clear b0 b1
    by_cases hlt : k < m.fu.length
    · obtain ⟨x, hxk⟩ : ∃ x, m.fu[k]? = some x := ⟨_, List.getElem?_eq_getElem hlt⟩
      obtain ⟨b, q, hab, hr⟩ := (HT1.out.keep (HK1.out.trans HK.out)).at (by omega)
      subst hab
      have hrk := hr k hlt
      have hls := HX1.out k x hxk
      obtain ⟨V1, V2, V3, hcx, hil1, hil2, hil3, ix1, ix2⟩ := hls
      rw [hcx] at hrk
      have hone1 := hil1.one
      have hone2 := hil2.one
      have hone3 := hil3.one
      have HQ := Lib.hid hrk
      have HXK := Lib.hid hxk
      have HI1 := Lib.hid hil1
      have HI2 := Lib.hid hil2
      obtain ⟨a3, q3, C3, rfl, _, hby3, _, _, _⟩ := id hil3
      obtain ⟨a2', q2', C2', rfl, _, hby2, _, _, _⟩ := id hil1
      have hc3 : x.co.length ≤ 2513169434843 := by omega
      have hc2 : x.lo.length ≤ 140737488351232 := by omega
      clear hr hrk hxk hcx hil1 hil2 hil3 hby3 hby2
      have HNX : Hid (codeN (m.fu.take (k + 1)) ≤ (k + 1) * 2513169434843) := Lib.hid (by rw [codeN_take HXK.out, Nat.add_mul, Nat.one_mul]; have := HN.out; omega)
      have HSX : Hid (∀ s', s' = wrap64 (s + (x.co.length : Int)) → codeN (m.fu.take (k + 1)) ≤ 9223372036854775807 → s' = (codeN (m.fu.take (k + 1)) : Int)) := Lib.hid (fun s' hs' hle => by
        rw [codeN_take HXK.out] at hle ⊢
        have := HSU.out (by omega)
        subst this
        rw [hs', ← IntWalk.i64_left, IntKind.wrap_i64]
        omega)
      cases qb with
      | false =>
        go_wp2_with (first | ((with_reducible show wpList _ _ _ (⟨some 28, _, _, _, _, _⟩ :: _) _ _); refine wpList_index_tab (d := 28) _ _ _ rfl 51 Try.underlying23 5 rfl _ _ _ _ q (by rfl) rfl k (by rfl) hlt ?_) | ((with_reducible show wpList _ _ _ (⟨some 29, _, _, _, _, _⟩ :: _) _ _); refine wpList_load_range (d := 29) _ _ rfl _ Try.underlying51 wr _ _ _ _ (by rfl) rfl rfl _ HQ.out (Kp.refl wr) (by rfl) ?_) | ((with_reducible show wpList _ _ _ (⟨none, .store _ (.tmp 8) (.tmp 29), _, _, _, _⟩ :: _) _ _); refine wpList_store_new rfl 51 _ _ rfl wr _ _ (by rfl) (by rfl) (by first | rfl | simp) _ _ rfl (by rfl) (by rfl) (by first | exact all2 rfl rfl | exact all4 rfl rfl rfl rfl | exact all5 rfl rfl rfl rfl hone | exact all3 rfl hone rfl | exact all5 rfl hone1 hone2 rfl hone3 | exact all5 rfl rfl rfl rfl hony | exact all3 rfl hony rfl | exact all5 rfl hony1 hony2 rfl hony3) ?_; intro w4 hq4 hk4 hs4; have HB4 := Lib.hid hq4; have HK4 := Lib.hid hk4; clear hk4; obtain ⟨d0, d1, d2, d3, d4⟩ := row5 hq4; clear hq4))
        go_roundw
        case rel => exact ⟨k + 1, false, _, by omega, by go_num, rfl, rfl, Lib.hid (by rw [all_take _ HXK.out, ← Bool.and_assoc, ← HQB.out]; rfl), Lib.hid (HSX.out _ (by rfl)), HNX, Lib.hid (HK.out.trans HK4.out)⟩
        case measure => simp [intOf]; omega
      | true =>
        have HQX : Hid (∀ q', q' = fuB m.ty.length x → q' = (okw && (m.fu.take (k + 1)).all (fuB m.ty.length))) := Lib.hid (fun q' hq => by rw [all_take _ HXK.out, ← Bool.and_assoc, ← HQB.out, hq]; rfl)
        cases h1 : areB x.lo m.ty.length 1024 with
        | false =>
          have HF1 := Lib.hid h1
          clear h1
          go_wp2_with (first | ((with_reducible show wpList _ _ _ (⟨some 28, _, _, _, _, _⟩ :: _) _ _); refine wpList_index_tab (d := 28) _ _ _ rfl 51 Try.underlying23 5 rfl _ _ _ _ q (by rfl) rfl k (by rfl) hlt ?_) | ((with_reducible show wpList _ _ _ (⟨some 29, _, _, _, _, _⟩ :: _) _ _); refine wpList_load_range (d := 29) _ _ rfl _ Try.underlying51 wr _ _ _ _ (by rfl) rfl rfl _ HQ.out (Kp.refl wr) (by rfl) ?_) | ((with_reducible show wpList _ _ _ (⟨none, .store _ (.tmp 8) (.tmp 29), _, _, _, _⟩ :: _) _ _); refine wpList_store_new rfl 51 _ _ rfl wr _ _ (by rfl) (by rfl) (by first | rfl | simp) _ _ rfl (by rfl) (by rfl) (by first | exact all2 rfl rfl | exact all4 rfl rfl rfl rfl | exact all5 rfl rfl rfl rfl hone | exact all3 rfl hone rfl | exact all5 rfl hone1 hone2 rfl hone3 | exact all5 rfl rfl rfl rfl hony | exact all3 rfl hony rfl | exact all5 rfl hony1 hony2 rfl hony3) ?_; intro w4 hq4 hk4 hs4; have HB4 := Lib.hid hq4; have HK4 := Lib.hid hk4; clear hk4; obtain ⟨d0, d1, d2, d3, d4⟩ := row5 hq4; clear hq4) | (go_at_call 29; (with_reducible refine (c_shapes x.lo m.ty.length _ w4 (HI1.out.keep goodI (HK1.out.trans (HK.out.trans HK4.out)))).mono ?_); rintro e w5 ⟨rfl, h5⟩; have HK5 := Lib.hid h5; have d0 := h5.cellv d0; have d1 := h5.cellv d1; have d2 := h5.cellv d2; have d3 := h5.cellv d3; have d4 := h5.cellv d4; clear h5; rw [HF1.out]))
          go_roundw
          case rel => exact ⟨k + 1, false, _, by omega, by go_num, rfl, rfl, Lib.hid (HQX.out _ (by simp [fuB, HF1.out])), Lib.hid (HSX.out _ (by rfl)), HNX, Lib.hid (HK.out.trans (HK4.out.trans HK5.out))⟩
          case measure => simp [intOf]; omega
        | true =>
          have HF1 := Lib.hid h1
          clear h1
          cases h2 : areB x.ca m.ty.length 1024 with
          | false =>
            have HF2 := Lib.hid h2
            clear h2
            go_wp2_with (first | ((with_reducible show wpList _ _ _ (⟨some 28, _, _, _, _, _⟩ :: _) _ _); refine wpList_index_tab (d := 28) _ _ _ rfl 51 Try.underlying23 5 rfl _ _ _ _ q (by rfl) rfl k (by rfl) hlt ?_) | ((with_reducible show wpList _ _ _ (⟨some 29, _, _, _, _, _⟩ :: _) _ _); refine wpList_load_range (d := 29) _ _ rfl _ Try.underlying51 wr _ _ _ _ (by rfl) rfl rfl _ HQ.out (Kp.refl wr) (by rfl) ?_) | ((with_reducible show wpList _ _ _ (⟨none, .store _ (.tmp 8) (.tmp 29), _, _, _, _⟩ :: _) _ _); refine wpList_store_new rfl 51 _ _ rfl wr _ _ (by rfl) (by rfl) (by first | rfl | simp) _ _ rfl (by rfl) (by rfl) (by first | exact all2 rfl rfl | exact all4 rfl rfl rfl rfl | exact all5 rfl rfl rfl rfl hone | exact all3 rfl hone rfl | exact all5 rfl hone1 hone2 rfl hone3 | exact all5 rfl rfl rfl rfl hony | exact all3 rfl hony rfl | exact all5 rfl hony1 hony2 rfl hony3) ?_; intro w4 hq4 hk4 hs4; have HB4 := Lib.hid hq4; have HK4 := Lib.hid hk4; clear hk4; obtain ⟨d0, d1, d2, d3, d4⟩ := row5 hq4; clear hq4) | (go_at_call 29; (with_reducible refine (c_shapes x.lo m.ty.length _ w4 (HI1.out.keep goodI (HK1.out.trans (HK.out.trans HK4.out)))).mono ?_); rintro e w5 ⟨rfl, h5⟩; have HK5 := Lib.hid h5; have d0 := h5.cellv d0; have d1 := h5.cellv d1; have d2 := h5.cellv d2; have d3 := h5.cellv d3; have d4 := h5.cellv d4; clear h5; rw [HF1.out]) | (go_at_call 29; (with_reducible refine (c_shapes x.ca m.ty.length _ w5 (HI2.out.keep goodI (HK1.out.trans (HK.out.trans (HK4.out.trans HK5.out))))).mono ?_); rintro e w6 ⟨rfl, h6⟩; have HK6 := Lib.hid h6; have d0 := h6.cellv d0; have d1 := h6.cellv d1; have d2 := h6.cellv d2; have d3 := h6.cellv d3; have d4 := h6.cellv d4; clear h6; rw [HF2.out]))
            go_roundw
            case rel => exact ⟨k + 1, false, _, by omega, by go_num, rfl, rfl, Lib.hid (HQX.out _ (by simp [fuB, HF2.out])), Lib.hid (HSX.out _ (by rfl)), HNX, Lib.hid (HK.out.trans (HK4.out.trans (HK5.out.trans HK6.out)))⟩
            case measure => simp [intOf]; omega
          | true =>
            have HF2 := Lib.hid h2
            clear h2
            by_cases hall : (0 ≤ x.p ∧ x.p ≤ (x.lo.length : Int)) ∧ 0 ≤ x.r ∧ x.r ≤ (m.ty.length : Int)
            · obtain ⟨⟨g1, g2⟩, g3, g4⟩ := hall
              go_wp2_with (first | ((with_reducible show wpList _ _ _ (⟨some 28, _, _, _, _, _⟩ :: _) _ _); refine wpList_index_tab (d := 28) _ _ _ rfl 51 Try.underlying23 5 rfl _ _ _ _ q (by rfl) rfl k (by rfl) hlt ?_) | ((with_reducible show wpList _ _ _ (⟨some 29, _, _, _, _, _⟩ :: _) _ _); refine wpList_load_range (d := 29) _ _ rfl _ Try.underlying51 wr _ _ _ _ (by rfl) rfl rfl _ HQ.out (Kp.refl wr) (by rfl) ?_) | ((with_reducible show wpList _ _ _ (⟨none, .store _ (.tmp 8) (.tmp 29), _, _, _, _⟩ :: _) _ _); refine wpList_store_new rfl 51 _ _ rfl wr _ _ (by rfl) (by rfl) (by first | rfl | simp) _ _ rfl (by rfl) (by rfl) (by first | exact all2 rfl rfl | exact all4 rfl rfl rfl rfl | exact all5 rfl rfl rfl rfl hone | exact all3 rfl hone rfl | exact all5 rfl hone1 hone2 rfl hone3 | exact all5 rfl rfl rfl rfl hony | exact all3 rfl hony rfl | exact all5 rfl hony1 hony2 rfl hony3) ?_; intro w4 hq4 hk4 hs4; have HB4 := Lib.hid hq4; have HK4 := Lib.hid hk4; clear hk4; obtain ⟨d0, d1, d2, d3, d4⟩ := row5 hq4; clear hq4) | (go_at_call 29; (with_reducible refine (c_shapes x.lo m.ty.length _ w4 (HI1.out.keep goodI (HK1.out.trans (HK.out.trans HK4.out)))).mono ?_); rintro e w5 ⟨rfl, h5⟩; have HK5 := Lib.hid h5; have d0 := h5.cellv d0; have d1 := h5.cellv d1; have d2 := h5.cellv d2; have d3 := h5.cellv d3; have d4 := h5.cellv d4; clear h5; rw [HF1.out]) | (go_at_call 29; (with_reducible refine (c_shapes x.ca m.ty.length _ w5 (HI2.out.keep goodI (HK1.out.trans (HK.out.trans (HK4.out.trans HK5.out))))).mono ?_); rintro e w6 ⟨rfl, h6⟩; have HK6 := Lib.hid h6; have d0 := h6.cellv d0; have d1 := h6.cellv d1; have d2 := h6.cellv d2; have d3 := h6.cellv d3; have d4 := h6.cellv d4; clear h6; rw [HF2.out]))
              go_roundw
              case rel => exact ⟨k + 1, true, _, by omega, by go_num, rfl, rfl, Lib.hid (HQX.out _ (by simp [fuB, HF1.out, HF2.out, resB]; omega)), Lib.hid (HSX.out _ (by rfl)), HNX, Lib.hid (HK.out.trans (HK4.out.trans (HK5.out.trans HK6.out)))⟩
              case measure => simp [intOf]; omega
            · have HFN : Hid (fuB m.ty.length x = false) := Lib.hid (by
                cases e : fuB (m.ty.length : Int) x with
                | false => rfl
                | true => exact absurd (by simp [fuB, HF1.out, HF2.out, resB] at e; omega) hall)
              by_cases g1 : 0 ≤ x.p
              · by_cases g2 : x.p ≤ (x.lo.length : Int)
                · by_cases g3 : 0 ≤ x.r
                  · have g4 : ¬ x.r ≤ (m.ty.length : Int) := fun h => hall ⟨⟨g1, g2⟩, g3, h⟩
                    go_wp2_with (first | ((with_reducible show wpList _ _ _ (⟨some 28, _, _, _, _, _⟩ :: _) _ _); refine wpList_index_tab (d := 28) _ _ _ rfl 51 Try.underlying23 5 rfl _ _ _ _ q (by rfl) rfl k (by rfl) hlt ?_) | ((with_reducible show wpList _ _ _ (⟨some 29, _, _, _, _, _⟩ :: _) _ _); refine wpList_load_range (d := 29) _ _ rfl _ Try.underlying51 wr _ _ _ _ (by rfl) rfl rfl _ HQ.out (Kp.refl wr) (by rfl) ?_) | ((with_reducible show wpList _ _ _ (⟨none, .store _ (.tmp 8) (.tmp 29), _, _, _, _⟩ :: _) _ _); refine wpList_store_new rfl 51 _ _ rfl wr _ _ (by rfl) (by rfl) (by first | rfl | simp) _ _ rfl (by rfl) (by rfl) (by first | exact all2 rfl rfl | exact all4 rfl rfl rfl rfl | exact all5 rfl rfl rfl rfl hone | exact all3 rfl hone rfl | exact all5 rfl hone1 hone2 rfl hone3 | exact all5 rfl rfl rfl rfl hony | exact all3 rfl hony rfl | exact all5 rfl hony1 hony2 rfl hony3) ?_; intro w4 hq4 hk4 hs4; have HB4 := Lib.hid hq4; have HK4 := Lib.hid hk4; clear hk4; obtain ⟨d0, d1, d2, d3, d4⟩ := row5 hq4; clear hq4) | (go_at_call 29; (with_reducible refine (c_shapes x.lo m.ty.length _ w4 (HI1.out.keep goodI (HK1.out.trans (HK.out.trans HK4.out)))).mono ?_); rintro e w5 ⟨rfl, h5⟩; have HK5 := Lib.hid h5; have d0 := h5.cellv d0; have d1 := h5.cellv d1; have d2 := h5.cellv d2; have d3 := h5.cellv d3; have d4 := h5.cellv d4; clear h5; rw [HF1.out]) | (go_at_call 29; (with_reducible refine (c_shapes x.ca m.ty.length _ w5 (HI2.out.keep goodI (HK1.out.trans (HK.out.trans (HK4.out.trans HK5.out))))).mono ?_); rintro e w6 ⟨rfl, h6⟩; have HK6 := Lib.hid h6; have d0 := h6.cellv d0; have d1 := h6.cellv d1; have d2 := h6.cellv d2; have d3 := h6.cellv d3; have d4 := h6.cellv d4; clear h6; rw [HF2.out]))
                    go_roundw
                    case rel => exact ⟨k + 1, _, _, by omega, by go_num, rfl, rfl, Lib.hid (HQX.out _ (by rw [HFN.out]; first | rfl | (simp; omega))), Lib.hid (HSX.out _ (by rfl)), HNX, Lib.hid (HK.out.trans (HK4.out.trans (HK5.out.trans HK6.out)))⟩
                    case measure => simp [intOf]; omega
                  · go_wp2_with (first | ((with_reducible show wpList _ _ _ (⟨some 28, _, _, _, _, _⟩ :: _) _ _); refine wpList_index_tab (d := 28) _ _ _ rfl 51 Try.underlying23 5 rfl _ _ _ _ q (by rfl) rfl k (by rfl) hlt ?_) | ((with_reducible show wpList _ _ _ (⟨some 29, _, _, _, _, _⟩ :: _) _ _); refine wpList_load_range (d := 29) _ _ rfl _ Try.underlying51 wr _ _ _ _ (by rfl) rfl rfl _ HQ.out (Kp.refl wr) (by rfl) ?_) | ((with_reducible show wpList _ _ _ (⟨none, .store _ (.tmp 8) (.tmp 29), _, _, _, _⟩ :: _) _ _); refine wpList_store_new rfl 51 _ _ rfl wr _ _ (by rfl) (by rfl) (by first | rfl | simp) _ _ rfl (by rfl) (by rfl) (by first | exact all2 rfl rfl | exact all4 rfl rfl rfl rfl | exact all5 rfl rfl rfl rfl hone | exact all3 rfl hone rfl | exact all5 rfl hone1 hone2 rfl hone3 | exact all5 rfl rfl rfl rfl hony | exact all3 rfl hony rfl | exact all5 rfl hony1 hony2 rfl hony3) ?_; intro w4 hq4 hk4 hs4; have HB4 := Lib.hid hq4; have HK4 := Lib.hid hk4; clear hk4; obtain ⟨d0, d1, d2, d3, d4⟩ := row5 hq4; clear hq4) | (go_at_call 29; (with_reducible refine (c_shapes x.lo m.ty.length _ w4 (HI1.out.keep goodI (HK1.out.trans (HK.out.trans HK4.out)))).mono ?_); rintro e w5 ⟨rfl, h5⟩; have HK5 := Lib.hid h5; have d0 := h5.cellv d0; have d1 := h5.cellv d1; have d2 := h5.cellv d2; have d3 := h5.cellv d3; have d4 := h5.cellv d4; clear h5; rw [HF1.out]) | (go_at_call 29; (with_reducible refine (c_shapes x.ca m.ty.length _ w5 (HI2.out.keep goodI (HK1.out.trans (HK.out.trans (HK4.out.trans HK5.out))))).mono ?_); rintro e w6 ⟨rfl, h6⟩; have HK6 := Lib.hid h6; have d0 := h6.cellv d0; have d1 := h6.cellv d1; have d2 := h6.cellv d2; have d3 := h6.cellv d3; have d4 := h6.cellv d4; clear h6; rw [HF2.out]))
                    go_roundw
                    case rel => exact ⟨k + 1, false, _, by omega, by go_num, rfl, rfl, Lib.hid (HQX.out _ HFN.out.symm), Lib.hid (HSX.out _ (by rfl)), HNX, Lib.hid (HK.out.trans (HK4.out.trans (HK5.out.trans HK6.out)))⟩
                    case measure => simp [intOf]; omega
                · go_wp2_with (first | ((with_reducible show wpList _ _ _ (⟨some 28, _, _, _, _, _⟩ :: _) _ _); refine wpList_index_tab (d := 28) _ _ _ rfl 51 Try.underlying23 5 rfl _ _ _ _ q (by rfl) rfl k (by rfl) hlt ?_) | ((with_reducible show wpList _ _ _ (⟨some 29, _, _, _, _, _⟩ :: _) _ _); refine wpList_load_range (d := 29) _ _ rfl _ Try.underlying51 wr _ _ _ _ (by rfl) rfl rfl _ HQ.out (Kp.refl wr) (by rfl) ?_) | ((with_reducible show wpList _ _ _ (⟨none, .store _ (.tmp 8) (.tmp 29), _, _, _, _⟩ :: _) _ _); refine wpList_store_new rfl 51 _ _ rfl wr _ _ (by rfl) (by rfl) (by first | rfl | simp) _ _ rfl (by rfl) (by rfl) (by first | exact all2 rfl rfl | exact all4 rfl rfl rfl rfl | exact all5 rfl rfl rfl rfl hone | exact all3 rfl hone rfl | exact all5 rfl hone1 hone2 rfl hone3 | exact all5 rfl rfl rfl rfl hony | exact all3 rfl hony rfl | exact all5 rfl hony1 hony2 rfl hony3) ?_; intro w4 hq4 hk4 hs4; have HB4 := Lib.hid hq4; have HK4 := Lib.hid hk4; clear hk4; obtain ⟨d0, d1, d2, d3, d4⟩ := row5 hq4; clear hq4) | (go_at_call 29; (with_reducible refine (c_shapes x.lo m.ty.length _ w4 (HI1.out.keep goodI (HK1.out.trans (HK.out.trans HK4.out)))).mono ?_); rintro e w5 ⟨rfl, h5⟩; have HK5 := Lib.hid h5; have d0 := h5.cellv d0; have d1 := h5.cellv d1; have d2 := h5.cellv d2; have d3 := h5.cellv d3; have d4 := h5.cellv d4; clear h5; rw [HF1.out]) | (go_at_call 29; (with_reducible refine (c_shapes x.ca m.ty.length _ w5 (HI2.out.keep goodI (HK1.out.trans (HK.out.trans (HK4.out.trans HK5.out))))).mono ?_); rintro e w6 ⟨rfl, h6⟩; have HK6 := Lib.hid h6; have d0 := h6.cellv d0; have d1 := h6.cellv d1; have d2 := h6.cellv d2; have d3 := h6.cellv d3; have d4 := h6.cellv d4; clear h6; rw [HF2.out]))
                  go_roundw
                  case rel => exact ⟨k + 1, false, _, by omega, by go_num, rfl, rfl, Lib.hid (HQX.out _ HFN.out.symm), Lib.hid (HSX.out _ (by rfl)), HNX, Lib.hid (HK.out.trans (HK4.out.trans (HK5.out.trans HK6.out)))⟩
                  case measure => simp [intOf]; omega
              · go_wp2_with (first | ((with_reducible show wpList _ _ _ (⟨some 28, _, _, _, _, _⟩ :: _) _ _); refine wpList_index_tab (d := 28) _ _ _ rfl 51 Try.underlying23 5 rfl _ _ _ _ q (by rfl) rfl k (by rfl) hlt ?_) | ((with_reducible show wpList _ _ _ (⟨some 29, _, _, _, _, _⟩ :: _) _ _); refine wpList_load_range (d := 29) _ _ rfl _ Try.underlying51 wr _ _ _ _ (by rfl) rfl rfl _ HQ.out (Kp.refl wr) (by rfl) ?_) | ((with_reducible show wpList _ _ _ (⟨none, .store _ (.tmp 8) (.tmp 29), _, _, _, _⟩ :: _) _ _); refine wpList_store_new rfl 51 _ _ rfl wr _ _ (by rfl) (by rfl) (by first | rfl | simp) _ _ rfl (by rfl) (by rfl) (by first | exact all2 rfl rfl | exact all4 rfl rfl rfl rfl | exact all5 rfl rfl rfl rfl hone | exact all3 rfl hone rfl | exact all5 rfl hone1 hone2 rfl hone3 | exact all5 rfl rfl rfl rfl hony | exact all3 rfl hony rfl | exact all5 rfl hony1 hony2 rfl hony3) ?_; intro w4 hq4 hk4 hs4; have HB4 := Lib.hid hq4; have HK4 := Lib.hid hk4; clear hk4; obtain ⟨d0, d1, d2, d3, d4⟩ := row5 hq4; clear hq4) | (go_at_call 29; (with_reducible refine (c_shapes x.lo m.ty.length _ w4 (HI1.out.keep goodI (HK1.out.trans (HK.out.trans HK4.out)))).mono ?_); rintro e w5 ⟨rfl, h5⟩; have HK5 := Lib.hid h5; have d0 := h5.cellv d0; have d1 := h5.cellv d1; have d2 := h5.cellv d2; have d3 := h5.cellv d3; have d4 := h5.cellv d4; clear h5; rw [HF1.out]) | (go_at_call 29; (with_reducible refine (c_shapes x.ca m.ty.length _ w5 (HI2.out.keep goodI (HK1.out.trans (HK.out.trans (HK4.out.trans HK5.out))))).mono ?_); rintro e w6 ⟨rfl, h6⟩; have HK6 := Lib.hid h6; have d0 := h6.cellv d0; have d1 := h6.cellv d1; have d2 := h6.cellv d2; have d3 := h6.cellv d3; have d4 := h6.cellv d4; clear h6; rw [HF2.out]))
                go_roundw
                case rel => exact ⟨k + 1, false, _, by omega, by go_num, rfl, rfl, Lib.hid (HQX.out _ HFN.out.symm), Lib.hid (HSX.out _ (by rfl)), HNX, Lib.hid (HK.out.trans (HK4.out.trans (HK5.out.trans HK6.out)))⟩
                case measure => simp [intOf]; omega
    · have e : k = m.fu.length := by omega
      subst e
      have HFIN : Hid ((measureP m).isSome = (qb && (decide (1 ≤ m.fu.length) && (decide (m.fu.length ≤ 256) && decide (s ≤ 65536))))) := Lib.hid (by
        have h1 := HSU.out
        have h2 := HQB.out
        rw [List.take_length] at h1 h2
        rw [meas_isSome, ← HOW.out, h2]
        exact fus_fin h1 (fun h => by have := HN.out; rw [List.take_length] at this; have := Nat.mul_le_mul_right 2513169434843 h; omega) okw)
      cases qb with
      | false =>
        go_wp2_with fail
        go_ret
        exact tell (by rw [HFIN.out]; rfl) (HK0.out.trans (HK1.out.trans HK.out))
      | true =>
        go_wp2_with fail
        all_goals go_ret
        all_goals exact tell (by rw [HFIN.out, Bool.true_and]; rw [Bool.eq_iff_iff]; simp only [Bool.and_eq_true, decide_eq_true_eq, Bool.false_eq_true, iff_false, iff_true]; omega) (HK0.out.trans (HK1.out.trans HK.out))
end Go.Proofs.Ytkkcoaecidjecaa
