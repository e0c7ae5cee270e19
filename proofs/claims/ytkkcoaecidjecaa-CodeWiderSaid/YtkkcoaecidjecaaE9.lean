/- Which modules are sound in form, and the cells of a shape: the three calls. Condition: the module lies in memory. -/
import Derived.Test.YtkkcoaecidjecaaE8
namespace Go.Proofs.Ytkkcoaecidjecaa
open Go.RowKit
set_option linter.unusedVariables false
set_option linter.unusedSimpArgs false
/-- What comes of a module: the cells of its shapes, or that it is not sound. -/
def MeasR (m : Mo) (w : World) (e : Ending) (w' : World) : Prop :=
  ∃ cv q, e = .returned (.tuple #[cv, .int .i64 q]) ∧ Kp w w' ∧ ((q = 1 ∧ measureP m = none ∧ cv = .slice none 0 0) ∨ (q = 0 ∧ ∃ c, measureP m = some c ∧ IL w' (From w.heap.size) c cv ∧ cellsOk c m.ty.length))
theorem meas_none {m : Mo} {cv : Value} {q : Int} {w w' : World} (h : (q = 1 ∧ measureP m = none ∧ cv = .slice none 0 0) ∨ (q = 0 ∧ ∃ c, measureP m = some c ∧ IL w' (From w.heap.size) c cv ∧ cellsOk c m.ty.length)) (hm : measureP m = none) : q = 1 ∧ cv = .slice none 0 0 := by
  rcases h with ⟨a, _, b⟩ | ⟨_, c, hc, _⟩
  · exact ⟨a, b⟩
  · rw [hm] at hc; cases hc
theorem meas_some {m : Mo} {cv : Value} {q : Int} {w w' : World} {c : List Int} (h : (q = 1 ∧ measureP m = none ∧ cv = .slice none 0 0) ∨ (q = 0 ∧ ∃ c, measureP m = some c ∧ IL w' (From w.heap.size) c cv ∧ cellsOk c m.ty.length)) (hm : measureP m = some c) : q = 0 ∧ IL w' (From w.heap.size) c cv := by
  rcases h with ⟨_, a, _⟩ | ⟨h0, c', hc, hil, _⟩
  · rw [hm] at a; cases a
  · rw [hm] at hc; cases hc; exact ⟨h0, hil⟩
set_option maxHeartbeats 4000000 in
set_option maxRecDepth 100000 in
theorem c_measure (m : Mo) (cs : List Value) (w : World) (h : LM w A0 m cs) : Calls Try.prog 27 #[.agg cs.toArray] w (MeasR m w) := by
  obtain ⟨V1, V2, rfl, h1, h2⟩ := h
  have hr := heap_alloc_new w (.cells #[V1, V2] 25)
  obtain ⟨c0, c1⟩ := row2 hr
  have k0 := (Kp.refl w).alloc (.cells #[V1, V2] 25)
  have HK0 := Lib.hid k0
  have HS := Lib.hid (h1.keep goodS k0)
  have HF := Lib.hid (h2.keep goodF k0)
  have HCS := Lib.hid (c_measureShapes m.ty V1 _ HS.out)
  obtain ⟨a1, q1, C1, rfl, _, hby1, _, _, _⟩ := id h1
  have hc1 : m.ty.length ≤ 140737488351232 := by omega
  clear hr h1 h2 k0 hby1
  go_enter Try.func27, Try.ntmps27
  go_wp2_with (first | (go_at_call 44; (with_reducible refine HCS.out.mono ?_); rintro e w1 ⟨cv, bb, rfl, hk1, hsum⟩; have HSUM := Lib.hid hsum; have HK1 := Lib.hid hk1; have c0 := hk1.cellv c0; have c1 := hk1.cellv c1; clear hk1 hsum; cases bb) | (go_at_call 45; (with_reducible refine (c_areFunctions m.fu m.ty.length V2 w1 (HF.out.keep goodF HK1.out)).mono ?_); rintro e w2 ⟨rfl, h2⟩; have HK2 := Lib.hid h2; clear h2; cases hfb : fusB m.fu m.ty.length <;> (have HFB := Lib.hid hfb; clear hfb)))
  · go_ret2
    rcases HSUM.out with ⟨_, hn, _⟩ | ⟨hb, _⟩
    · exact ⟨_, _, rfl, HK0.out.trans HK1.out, .inl ⟨rfl, by simp [measureP, hn], rfl⟩⟩
    · cases hb
  · go_ret2
    rcases HSUM.out with ⟨hb, _⟩ | ⟨_, c, hc, hil, hok⟩
    · cases hb
    · exact ⟨_, _, rfl, HK0.out.trans (HK1.out.trans HK2.out), .inl ⟨rfl, by simp [measureP, hc, HFB.out], rfl⟩⟩
  · go_ret2
    rcases HSUM.out with ⟨hb, _⟩ | ⟨_, c, hc, hil, hok⟩
    · cases hb
    · exact ⟨_, _, rfl, HK0.out.trans (HK1.out.trans HK2.out), .inr ⟨rfl, c, by simp [measureP, hc, HFB.out], (hil.keep goodI HK2.out).weak goodI (From_le (by simp)), hok⟩⟩
/-- What Check tells. -/
def checkE (m : Mo) : Int := if (measureP m).isSome = true then 0 else 1
set_option maxHeartbeats 4000000 in
set_option maxRecDepth 100000 in
theorem c_Check (m : Mo) (cs : List Value) (w : World) (h : LM w A0 m cs) : Calls Try.prog 12 #[.agg cs.toArray] w (fun e w' => e = .returned (.int .i64 (checkE m)) ∧ Kp w w') := by
  obtain ⟨V1, V2, rfl, h1, h2⟩ := id h
  have hr := heap_alloc_new w (.cells #[V1, V2] 25)
  obtain ⟨c0, c1⟩ := row2 hr
  have k0 := (Kp.refl w).alloc (.cells #[V1, V2] 25)
  have HK0 := Lib.hid k0
  have HM := Lib.hid (goodM.keep h k0)
  clear hr h1 h2 k0 h
  go_enter Try.func12, Try.ntmps12
  go_wp2_with (go_at_call 27; (with_reducible refine (c_measure m _ _ HM.out).mono ?_); rintro e w1 ⟨cv, q, rfl, hk1, hsum⟩; have HSUM := Lib.hid hsum; have HK1 := Lib.hid hk1; clear hk1 hsum)
  go_ret
  rcases HSUM.out with ⟨hq, hn, _⟩ | ⟨hq, c, hc, _, _⟩
  · exact ⟨by rw [show checkE m = 1 by simp [checkE, hn], hq]; rfl, HK0.out.trans HK1.out⟩
  · exact ⟨by rw [show checkE m = 0 by simp [checkE, hc], hq]; rfl, HK0.out.trans HK1.out⟩
/-- What Cells tells. -/
def cellsP (m : Mo) (t : Int) : Int × Int := match measureP m with
  | none => (0, 1)
  | some c => if plB t c.length = true then (getI c t, 0) else (0, 16)
set_option maxHeartbeats 4000000 in
set_option maxRecDepth 100000 in
theorem c_Cells (m : Mo) (t : Int) (cs : List Value) (w : World) (h : LM w A0 m cs) : Calls Try.prog 10 #[.agg cs.toArray, .int .i64 t] w (fun e w' => e = .returned (.tuple #[.int .i64 (cellsP m t).1, .int .i64 (cellsP m t).2]) ∧ Kp w w') := by
  obtain ⟨V1, V2, rfl, h1, h2⟩ := id h
  have hr := heap_alloc_new w (.cells #[V1, V2] 25)
  obtain ⟨c0, c1⟩ := row2 hr
  have k0 := (Kp.refl w).alloc (.cells #[V1, V2] 25)
  have HK0 := Lib.hid k0
  have HM := Lib.hid (goodM.keep h k0)
  clear hr h1 h2 k0 h
  cases hm : measureP m with
  | none =>
    have HMP := Lib.hid hm
    clear hm
    go_enter Try.func10, Try.ntmps10
    go_wp2_with (go_at_call 27; (with_reducible refine (c_measure m _ _ HM.out).mono ?_); rintro e w1 ⟨cv, q, rfl, hk1, hsum⟩; obtain ⟨rfl, rfl⟩ := meas_none hsum HMP.out; have HK1 := Lib.hid hk1; clear hk1 hsum)
    go_ret2
    exact ⟨by simp [cellsP, HMP.out], HK0.out.trans HK1.out⟩
  | some c =>
    have HMP := Lib.hid hm
    clear hm
    cases hp : plB t c.length with
    | false =>
      have HP := Lib.hid hp
      clear hp
      go_enter Try.func10, Try.ntmps10
      go_wp2_with (first | (go_at_call 27; (with_reducible refine (c_measure m _ _ HM.out).mono ?_); rintro e w1 ⟨cv, q, rfl, hk1, hsum⟩; obtain ⟨rfl, hil⟩ := meas_some hsum HMP.out; clear hsum; obtain ⟨a2, q2, C2, rfl, _, hby2, _, ht2, hx2⟩ := hil; have hc2 : c.length ≤ 140737488351232 := (by omega); have HK1 := Lib.hid hk1; clear hk1 hby2 ht2 hx2) | (go_at_call 28; (with_reducible refine (c_isPlace t _ _).mono ?_); rintro e w2 ⟨rfl, h2⟩; have HK2 := Lib.hid h2; clear h2; rw [HP.out]))
      go_ret2
      exact ⟨by simp [cellsP, HMP.out, HP.out], HK0.out.trans (HK1.out.trans HK2.out)⟩
    | true =>
      have hpt : 0 ≤ t ∧ t < (c.length : Int) := by simpa [plB] using hp
      obtain ⟨j, rfl⟩ : ∃ j : Nat, t = (j : Int) := ⟨t.toNat, by omega⟩
      have hj : j < c.length := by omega
      obtain ⟨x, hxk⟩ : ∃ x, c[j]? = some x := ⟨_, List.getElem?_eq_getElem hj⟩
      have HXG : Hid (getI c (j : Int) = x) := Lib.hid (by simp [getI, hxk])
      have HXK := Lib.hid hxk
      have HP := Lib.hid hp
      clear hp hxk
      go_enter Try.func10, Try.ntmps10
      go_wp2_with (first | (go_at_call 27; (with_reducible refine (c_measure m _ _ HM.out).mono ?_); rintro e w1 ⟨cv, q, rfl, hk1, hsum⟩; obtain ⟨rfl, hil⟩ := meas_some hsum HMP.out; clear hsum; obtain ⟨a2, q2, C2, rfl, _, hby2, _, ht2, hx2⟩ := hil; have hc2 : c.length ≤ 140737488351232 := (by omega); obtain ⟨b, p, rfl, hr⟩ := ht2.at (by omega); have c3 := hr j hj 0 (.int .i64 x) (by rw [(hx2 j _ HXK.out).1]; rfl); simp only [Nat.add_zero, Nat.mul_one] at c3; have i0 := run_index_tab 33 3 Try.underlying33 1 (by kernel_rfl) b p c.length q2 j hj; simp only [Nat.mul_one] at i0; have HK1 := Lib.hid hk1; clear hk1 hby2 hx2 hr) | (go_at_call 28; (with_reducible refine (c_isPlace _ _ _).mono ?_); rintro e w2 ⟨rfl, h2⟩; have HK2 := Lib.hid h2; have c3 := h2.cellv c3; clear h2; rw [HP.out]))
      go_ret2
      exact ⟨by simp [cellsP, HMP.out, HP.out, HXG.out], HK0.out.trans (HK1.out.trans HK2.out)⟩
end Go.Proofs.Ytkkcoaecidjecaa
