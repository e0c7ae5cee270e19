/- The walk of CodeForms. Condition: the module lies in memory. -/
import Derived.Test.YtkkcoaecidjecaaE12
import Derived.Test.YtkkcoaecidjecaaO1
import Derived.Test.YtkkcoaecidjecaaC0
namespace Go.Proofs.Ytkkcoaecidjecaa
open Go.RowKit
set_option linter.unusedVariables false
set_option linter.unusedSimpArgs false
theorem meas_widths {m : Mo} {c : List Int} (h : measureP m = some c) : widthsL m.ty = some c := by
  unfold measureP shapesP at h
  by_cases hl : m.ty.length ≤ 256
  · rw [if_pos hl] at h
    cases hw : widthsL m.ty with
    | none => rw [hw] at h; cases h
    | some d =>
      rw [hw] at h
      simp only at h
      split at h
      · cases h; rfl
      · cases h
  · rw [if_neg hl] at h; cases h
theorem widthsR_some {l : List Sh} {c : List Int} {cv : Value} {b : Bool} {w w' : World} (h : (widthsL l = none ∧ b = false ∧ cv = .slice none 0 0) ∨ ∃ c, widthsL l = some c ∧ b = decide (l.length ≤ 256) ∧ IL w' (From w.heap.size) c cv ∧ cellsOk c l.length) (hc : widthsL l = some c) : IL w' (From w.heap.size) c cv := by
  rcases h with ⟨h, _⟩ | ⟨d, h, _, hil, _⟩
  · rw [hc] at h; cases h
  · rw [hc] at h; cases h; exact hil
set_option maxHeartbeats 4000000 in
set_option maxRecDepth 100000 in
theorem law_CodeForms (m : Mo) (v1 v2 : Value) (t : Int) (w : World) (hx : LM w A0 m [v1, v2]) (ht : -9223372036854775808 ≤ t ∧ t ≤ 9223372036854775807) :
    Calls Try.prog 3 #[.agg #[v1, v2], .int .i64 t] w fun e w' => e = .returned (.bool true) ∧ Kp w w' := by
  have hr := heap_alloc_new w (.cells #[v1, v2] 25)
  obtain ⟨m0, m1⟩ := row2 hr
  have k0 := (Kp.refl w).alloc (.cells #[v1, v2] 25)
  have HK0 := Lib.hid k0
  have HX := Lib.hid (goodM.keep hx k0)
  have HXF : Hid (∀ W, Kp w W → LM W A0 m [v1, v2]) := Lib.hid (fun W h => goodM.keep hx h)
  have HSF : Hid (∀ W, Kp w W → SL W A0 m.ty v1) := Lib.hid (fun W hk => by
    obtain ⟨a, b, hab, h1, _⟩ := goodM.keep hx hk
    simp only [List.cons.injEq] at hab
    obtain ⟨rfl, _⟩ := hab
    exact h1)
  clear hr hx k0
  cases hm : measureP m with
  | none =>
    have HCE : Hid (cellsP m t = (0, 1)) := Lib.hid (by simp [cellsP, hm])
    have HCH : Hid (checkE m = 1) := Lib.hid (by simp [checkE, hm])
    have HFO : Hid ((measureP m).isSome = false) := Lib.hid (by rw [hm]; rfl)
    clear hm
    go_enter Try.func3, Try.ntmps3
    go_wp2_with (first | (go_at_call 11; (with_reducible refine (c_Own m v1 v2 _ HX.out).mono ?_); rintro e w1 ⟨z1, z2, rfl, hl, hk⟩; have HL1 := Lib.hid (goodM.weak hl (A0_le _)); have HK1 := Lib.hid (HK0.out.trans hk); replace m0 := hk.cellv m0; replace m1 := hk.cellv m1; clear hl hk) | (go_at_call 10; (with_reducible refine (c_Cells m _ _ w1 HL1.out).mono ?_); rintro e w2 ⟨rfl, hk⟩; rw [HCE.out]; have HK2 := Lib.hid (HK1.out.trans hk); replace m0 := hk.cellv m0; replace m1 := hk.cellv m1; clear hk) | (go_at_call 11; (with_reducible refine (c_Own m v1 v2 w2 (HXF.out _ HK2.out)).mono ?_); rintro e w3 ⟨z3, z4, rfl, hl, hk⟩; have HL3 := Lib.hid (goodM.weak hl (A0_le _)); have HK3 := Lib.hid (HK2.out.trans hk); replace m0 := hk.cellv m0; replace m1 := hk.cellv m1; clear hl hk) | (go_at_call 12; (with_reducible refine (c_Check m _ w3 HL3.out).mono ?_); rintro e w4 ⟨rfl, hk⟩; rw [HCH.out]; have HK4 := Lib.hid (HK3.out.trans hk); replace m0 := hk.cellv m0; replace m1 := hk.cellv m1; clear hk) | (go_at_call 13; (with_reducible refine (c_answers w4).mono ?_); rintro e w5 ⟨rfl, hk⟩; have HK5 := Lib.hid (HK4.out.trans hk); replace m0 := hk.cellv m0; replace m1 := hk.cellv m1; clear hk) | (go_at_call 14; (with_reducible refine (c_Formed m _ w5 (HXF.out _ HK5.out)).mono ?_); rintro e w6 ⟨rfl, hk⟩; rw [HFO.out]; have HK6 := Lib.hid (HK5.out.trans hk); replace m0 := hk.cellv m0; replace m1 := hk.cellv m1; clear hk))
    go_ret
    exact ⟨rfl, HK6.out⟩
  | some c =>
    have HCH : Hid (checkE m = 0) := Lib.hid (by simp [checkE, hm])
    have HFO : Hid ((measureP m).isSome = true) := Lib.hid (by rw [hm]; rfl)
    have HWL := Lib.hid (meas_widths hm)
    by_cases h0 : t < 0
    · have HCE : Hid (cellsP m t = (0, 16)) := Lib.hid (by simp [cellsP, hm, plB_lo h0])
      clear hm
      go_enter Try.func3, Try.ntmps3
      go_wp2_with (first | (go_at_call 11; (with_reducible refine (c_Own m v1 v2 _ HX.out).mono ?_); rintro e w1 ⟨z1, z2, rfl, hl, hk⟩; have HL1 := Lib.hid (goodM.weak hl (A0_le _)); have HK1 := Lib.hid (HK0.out.trans hk); replace m0 := hk.cellv m0; replace m1 := hk.cellv m1; clear hl hk) | (go_at_call 10; (with_reducible refine (c_Cells m _ _ w1 HL1.out).mono ?_); rintro e w2 ⟨rfl, hk⟩; rw [HCE.out]; have HK2 := Lib.hid (HK1.out.trans hk); replace m0 := hk.cellv m0; replace m1 := hk.cellv m1; clear hk) | (go_at_call 11; (with_reducible refine (c_Own m v1 v2 w2 (HXF.out _ HK2.out)).mono ?_); rintro e w3 ⟨z3, z4, rfl, hl, hk⟩; have HL3 := Lib.hid (goodM.weak hl (A0_le _)); have HK3 := Lib.hid (HK2.out.trans hk); replace m0 := hk.cellv m0; replace m1 := hk.cellv m1; clear hl hk) | (go_at_call 12; (with_reducible refine (c_Check m _ w3 HL3.out).mono ?_); rintro e w4 ⟨rfl, hk⟩; rw [HCH.out]; have HK4 := Lib.hid (HK3.out.trans hk); replace m0 := hk.cellv m0; replace m1 := hk.cellv m1; clear hk) | (go_at_call 13; (with_reducible refine (c_answers w4).mono ?_); rintro e w5 ⟨rfl, hk⟩; have HK5 := Lib.hid (HK4.out.trans hk); replace m0 := hk.cellv m0; replace m1 := hk.cellv m1; clear hk) | (go_at_call 14; (with_reducible refine (c_Formed m _ w5 (HXF.out _ HK5.out)).mono ?_); rintro e w6 ⟨rfl, hk⟩; rw [HFO.out]; have HK6 := Lib.hid (HK5.out.trans hk); replace m0 := hk.cellv m0; replace m1 := hk.cellv m1; clear hk) | (go_at_call 15; (with_reducible refine (c_Widths m.ty v1 w6 (HSF.out w6 HK6.out)).mono ?_); rintro e w7 ⟨cv, bb, rfl, hk, hsum⟩; have hil := widthsR_some hsum HWL.out; have HK7 := Lib.hid (HK6.out.trans hk); replace m0 := hk.cellv m0; replace m1 := hk.cellv m1; obtain ⟨a2, q2, C2, rfl, _, hby2, _, ht2, hx2⟩ := hil; have hc2 : c.length ≤ 140737488351232 := (by omega); clear hsum hk hby2 ht2 hx2))
      go_ret
      exact ⟨rfl, HK7.out⟩
    · by_cases h1 : t ≥ (c.length : Int)
      · have HCE : Hid (cellsP m t = (0, 16)) := Lib.hid (by simp [cellsP, hm, plB_hi h1])
        clear hm
        go_enter Try.func3, Try.ntmps3
        go_wp2_with (first | (go_at_call 11; (with_reducible refine (c_Own m v1 v2 _ HX.out).mono ?_); rintro e w1 ⟨z1, z2, rfl, hl, hk⟩; have HL1 := Lib.hid (goodM.weak hl (A0_le _)); have HK1 := Lib.hid (HK0.out.trans hk); replace m0 := hk.cellv m0; replace m1 := hk.cellv m1; clear hl hk) | (go_at_call 10; (with_reducible refine (c_Cells m _ _ w1 HL1.out).mono ?_); rintro e w2 ⟨rfl, hk⟩; rw [HCE.out]; have HK2 := Lib.hid (HK1.out.trans hk); replace m0 := hk.cellv m0; replace m1 := hk.cellv m1; clear hk) | (go_at_call 11; (with_reducible refine (c_Own m v1 v2 w2 (HXF.out _ HK2.out)).mono ?_); rintro e w3 ⟨z3, z4, rfl, hl, hk⟩; have HL3 := Lib.hid (goodM.weak hl (A0_le _)); have HK3 := Lib.hid (HK2.out.trans hk); replace m0 := hk.cellv m0; replace m1 := hk.cellv m1; clear hl hk) | (go_at_call 12; (with_reducible refine (c_Check m _ w3 HL3.out).mono ?_); rintro e w4 ⟨rfl, hk⟩; rw [HCH.out]; have HK4 := Lib.hid (HK3.out.trans hk); replace m0 := hk.cellv m0; replace m1 := hk.cellv m1; clear hk) | (go_at_call 13; (with_reducible refine (c_answers w4).mono ?_); rintro e w5 ⟨rfl, hk⟩; have HK5 := Lib.hid (HK4.out.trans hk); replace m0 := hk.cellv m0; replace m1 := hk.cellv m1; clear hk) | (go_at_call 14; (with_reducible refine (c_Formed m _ w5 (HXF.out _ HK5.out)).mono ?_); rintro e w6 ⟨rfl, hk⟩; rw [HFO.out]; have HK6 := Lib.hid (HK5.out.trans hk); replace m0 := hk.cellv m0; replace m1 := hk.cellv m1; clear hk) | (go_at_call 15; (with_reducible refine (c_Widths m.ty v1 w6 (HSF.out w6 HK6.out)).mono ?_); rintro e w7 ⟨cv, bb, rfl, hk, hsum⟩; have hil := widthsR_some hsum HWL.out; have HK7 := Lib.hid (HK6.out.trans hk); replace m0 := hk.cellv m0; replace m1 := hk.cellv m1; obtain ⟨a2, q2, C2, rfl, _, hby2, _, ht2, hx2⟩ := hil; have hc2 : c.length ≤ 140737488351232 := (by omega); clear hsum hk hby2 ht2 hx2))
        go_ret
        exact ⟨rfl, HK7.out⟩
      · obtain ⟨j, rfl⟩ : ∃ j : Nat, t = (j : Int) := ⟨t.toNat, by omega⟩
        have hj : j < c.length := by omega
        obtain ⟨x, hxk⟩ : ∃ x, c[j]? = some x := ⟨_, List.getElem?_eq_getElem hj⟩
        have HCE : Hid (cellsP m (j : Int) = (x, 0)) := Lib.hid (by
          have hp : plB (j : Int) c.length = true := by simp [plB]; omega
          simp [cellsP, hm, hp, getI, hxk])
        have HXK := Lib.hid hxk
        clear hm hxk
        go_enter Try.func3, Try.ntmps3
        go_wp2_with (first | (go_at_call 11; (with_reducible refine (c_Own m v1 v2 _ HX.out).mono ?_); rintro e w1 ⟨z1, z2, rfl, hl, hk⟩; have HL1 := Lib.hid (goodM.weak hl (A0_le _)); have HK1 := Lib.hid (HK0.out.trans hk); replace m0 := hk.cellv m0; replace m1 := hk.cellv m1; clear hl hk) | (go_at_call 10; (with_reducible refine (c_Cells m _ _ w1 HL1.out).mono ?_); rintro e w2 ⟨rfl, hk⟩; rw [HCE.out]; have HK2 := Lib.hid (HK1.out.trans hk); replace m0 := hk.cellv m0; replace m1 := hk.cellv m1; clear hk) | (go_at_call 11; (with_reducible refine (c_Own m v1 v2 w2 (HXF.out _ HK2.out)).mono ?_); rintro e w3 ⟨z3, z4, rfl, hl, hk⟩; have HL3 := Lib.hid (goodM.weak hl (A0_le _)); have HK3 := Lib.hid (HK2.out.trans hk); replace m0 := hk.cellv m0; replace m1 := hk.cellv m1; clear hl hk) | (go_at_call 12; (with_reducible refine (c_Check m _ w3 HL3.out).mono ?_); rintro e w4 ⟨rfl, hk⟩; rw [HCH.out]; have HK4 := Lib.hid (HK3.out.trans hk); replace m0 := hk.cellv m0; replace m1 := hk.cellv m1; clear hk) | (go_at_call 13; (with_reducible refine (c_answers w4).mono ?_); rintro e w5 ⟨rfl, hk⟩; have HK5 := Lib.hid (HK4.out.trans hk); replace m0 := hk.cellv m0; replace m1 := hk.cellv m1; clear hk) | (go_at_call 14; (with_reducible refine (c_Formed m _ w5 (HXF.out _ HK5.out)).mono ?_); rintro e w6 ⟨rfl, hk⟩; rw [HFO.out]; have HK6 := Lib.hid (HK5.out.trans hk); replace m0 := hk.cellv m0; replace m1 := hk.cellv m1; clear hk) | (go_at_call 15; (with_reducible refine (c_Widths m.ty v1 w6 (HSF.out w6 HK6.out)).mono ?_); rintro e w7 ⟨cv, bb, rfl, hk, hsum⟩; have hil := widthsR_some hsum HWL.out; have HK7 := Lib.hid (HK6.out.trans hk); replace m0 := hk.cellv m0; replace m1 := hk.cellv m1; obtain ⟨a2, q2, C2, rfl, _, hby2, _, ht2, hx2⟩ := hil; have hc2 : c.length ≤ 140737488351232 := (by omega); obtain ⟨b, p, rfl, hr⟩ := ht2.at (by omega); have c3 := hr j hj 0 (.int .i64 x) (by rw [(hx2 j _ HXK.out).1]; rfl); simp only [Nat.add_zero, Nat.mul_one] at c3; have i0 := run_index_tab 33 3 Try.underlying33 1 (by kernel_rfl) b p c.length q2 j hj; simp only [Nat.mul_one] at i0; clear hr; clear hsum hk hby2 ht2 hx2))
        go_ret
        exact ⟨rfl, HK7.out⟩
end Go.Proofs.Ytkkcoaecidjecaa
