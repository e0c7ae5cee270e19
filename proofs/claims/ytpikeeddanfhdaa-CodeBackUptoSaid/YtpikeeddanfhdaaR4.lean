/- Bytes of the reference. Condition: the module lies in memory, and is of less than 100000000000 numbers. -/
import Derived.Test.YtpikeeddanfhdaaR3
import Derived.Test.YtpikeeddanfhdaaW4
namespace Go.Proofs.Ytpikeeddanfhdaa
open Go.RowKit
set_option linter.unusedVariables false
set_option linter.unusedSimpArgs false
theorem encR_ref (m : Mo) {o : Ou} (h : o = putsR ([], false) (itMo m)) : encR m = (if o.2 = true then ([], 1) else if 1048576 < o.1.length then ([], 6) else (o.1, 0)) := by
  have h0 := puts_off (itMo m) ([], false) ([], false) rfl
  rw [encR]
  rw [← h] at h0
  cases hq : (puts ([], false) (itMo m)).2 with
  | true => rw [← h0.1, hq]; rfl
  | false =>
    have h1 := h0.2 rfl hq
    rw [← h0.1, hq, h1]
set_option maxHeartbeats 1600000 in
set_option maxRecDepth 100000 in
theorem c_Bytes (m : Mo) (v1 v2 : Value) (w : World) (hl : LM w A0 m [v1, v2]) (hb : (itMo m).length ≤ 100000000000) :
    Calls Try.prog 17 #[.agg #[v1, v2]] w (EncP m w) := by
  obtain ⟨_, _, he, h1, h2⟩ := hl
  simp only [List.cons.injEq, and_true] at he
  obtain ⟨rfl, rfl⟩ := he
  obtain ⟨a1, q1, C1, rfl, _, hby1, _, ht1, hx1⟩ := (h1.below goodS (Nat.le_refl _)).weak goodS (und_of (n := w.heap.size) (fun b hb => hb.2))
  obtain ⟨a2, q2, C2, rfl, _, hby2, _, ht2, hx2⟩ := (h2.below goodF (Nat.le_refl _)).weak goodF (und_of (n := w.heap.size) (fun b hb => hb.2))
  have hcap1 : m.ty.length ≤ 140737488351232 := by omega
  have hcap2 : m.fu.length ≤ 140737488351232 := by omega
  have b1 : i64 (m.ty.length : Int) := i64_lenB (b := 40) (by omega) hby1
  have b2 : i64 (m.fu.length : Int) := i64_lenB (b := 88) (by omega) hby2
  have k2 := ((Kp.refl w).alloc (.cells #[.slice a1 m.ty.length q1, .slice a2 m.fu.length q2] 25)).alloc (.cells #[.slice none 0 0, .bool false] 67)
  have hr := row_keep ((Kp.refl _).alloc (.cells #[.slice none 0 0, .bool false] 67)) (heap_alloc_new w (.cells #[.slice a1 m.ty.length q1, .slice a2 m.fu.length q2] 25))
  obtain ⟨m0, m1⟩ := row2 hr
  have HR : Hid (RW ((w.alloc (.cells #[.slice a1 m.ty.length q1, .slice a2 m.fu.length q2] 25)).alloc (.cells #[.slice none 0 0, .bool false] 67)) (w.heap.size + 1) (w.heap.size + 2) ([], false)) :=
    Lib.hid ⟨by omega, by simp, .slice none 0 0, by simpa using heap_alloc_new (w.alloc (.cells #[.slice a1 m.ty.length q1, .slice a2 m.fu.length q2] 25)) (.cells #[.slice none 0 0, .bool false] 67), by simpa [bys] using World.ownsRow_nil _ _ _ _⟩
  obtain ⟨o0, ho0⟩ : ∃ o0 : Ou, o0 = ([], false) := ⟨_, rfl⟩
  have hlen0 : o0.1.length ≤ 0 := by rw [ho0]; exact Nat.le_refl _
  rw [← ho0] at HR
  have HO0 := Lib.hid ho0
  clear ho0
  have HW0 := Lib.hid HR.out
  obtain ⟨p, hp⟩ : ∃ p, p = w.heap.size + 1 := ⟨_, rfl⟩
  obtain ⟨B, hB⟩ : ∃ B, B = w.heap.size + 2 := ⟨_, rfl⟩
  have HFM : Hid (Far ((w.alloc (.cells #[.slice a1 m.ty.length q1, .slice a2 m.fu.length q2] 25)).alloc (.cells #[.slice none 0 0, .bool false] 67)) (w.heap.size + 1) w.heap.size) := Lib.hid ⟨by simp; omega, by omega, fun e => by have := (HR.out.rows e).1; omega⟩
  have HK := Lib.hid k2
  have HF := Lib.hid (WF.refl (w.heap.size + 1) ((w.alloc (.cells #[.slice a1 m.ty.length q1, .slice a2 m.fu.length q2] 25)).alloc (.cells #[.slice none 0 0, .bool false] 67)))
  have HO := Lib.hid (show o0 = putsR o0 [] from rfl)
  rw [show (itMo m).length = 2 + (m.ty.flatMap itSh).length + (m.fu.flatMap itFu).length by simp [itMo]; omega] at hb
  have HT1 := Lib.hid ht1
  have HX1 := Lib.hid hx1
  have HT2 := Lib.hid ht2
  have HX2 := Lib.hid hx2
  clear h1 h2 k2 hr ht1 hx1 ht2 hx2 hby1 hby2 hp hB p B
  have HFM0 := Lib.hid HFM.out
  have M0 := Lib.hid m0
  have M1 := Lib.hid m1
  go_enter Try.func17, Try.ntmps17
  go_wp2_with ((go_at_call 27; (with_reducible refine (c_small _ _ _ _ _ _ HR.out (by omega) (by decide) (by assumption)).mono ?_); rintro e w1 ⟨rfl, o1, ho1, hl1, h1, h2⟩; simp only [List.length_cons, List.length_nil] at hl1; have HF := Lib.hid (HF.out.trans h2); replace m0 := h2.cellv m0 HFM.out; replace m1 := h2.cellv m1 HFM.out; have HFM := Lib.hid (HFM.out.wf h2); have HO := Lib.hid (putsR_step HO.out ho1.out); have HR := Lib.hid h1; clear h1 h2 ho1))
  go_loopw [5] (fun i wr => ∃ (k : Nat) (o2 : Ou), k ≤ m.ty.length ∧ i = .int .i64 (k : Int) ∧ Hid (o2 = putsR o0 ([lenI m.ty.length] ++ (m.ty.take k).flatMap itSh)) ∧ RW wr (w.heap.size + 1) (w.heap.size + 2) o2 ∧ WF (w.heap.size + 1) ((w.alloc (.cells #[.slice a1 m.ty.length q1, .slice a2 m.fu.length q2] 25)).alloc (.cells #[.slice none 0 0, .bool false] 67)) wr) (fun i _ => m.ty.length - (intOf i).toNat)
  case atStart => exact ⟨0, _, by omega, rfl, Lib.hid (HO.out.trans (by simp [lenI])), HR.out, HF.out⟩
  case round =>
    obtain ⟨k, o2, hk, rfl, ho2, h1, h2⟩ := hrel
    have HR2 := Lib.hid h1
    have HG := Lib.hid h2
    have m0' := h2.cellv M0.out HFM0.out
    have m1' := h2.cellv M1.out HFM0.out
    have hl2 : o2.1.length ≤ o0.1.length + 10 * ([lenI m.ty.length] ++ (m.ty.take k).flatMap itSh).length := by rw [ho2.out]; exact putsR_len _ _
    rw [show ([lenI m.ty.length] ++ (m.ty.take k).flatMap itSh).length = 1 + ((m.ty.take k).flatMap itSh).length by simp; omega] at hl2
    clear h1 h2 HR HF HO m0 m1 HFM hl1
    have m0 := m0'
    have m1 := m1'
    have HFM := Lib.hid (HFM0.out.wf HG.out)
    clear m0' m1'
    by_cases hlt : k < m.ty.length
    · obtain ⟨x, hxk⟩ : ∃ x, m.ty[k]? = some x := ⟨_, List.getElem?_eq_getElem hlt⟩
      have hsum := flat_sum (f := itSh) hxk
      rw [show (itSh x).length = (itInts x.l).length + 2 by simp [itSh]] at hsum
      obtain ⟨Vx, hcx, hvx, ix1, ix2⟩ := HX1.out k x hxk
      obtain ⟨b, q, rfl, hr⟩ := (und_tab (HT1.out.keep HK.out) (HW0.out.und_rows (by omega)) HG.out).at (by omega)
      have hrk := hr k hlt
      rw [hcx] at hrk
      obtain ⟨d0, d1, d2⟩ := range3 hrk
      have hbn : b < w.heap.size := by
        obtain ⟨_, hbb⟩ := HT1.out
        obtain ⟨b', o', he, hS, _⟩ := hbb (by omega)
        cases he
        exact hS
      have HFB := Lib.hid (HR2.out.far_und (n := w.heap.size) (by omega) hbn (lt_of_cell d0))
      have HV := Lib.hid (HW0.out.undR goodI (n := w.heap.size) (by omega) (hvx.keep goodI HK.out) HG.out)
      have i0 := run_index_tab 22 48 Try.underlying22 3 (by kernel_rfl) b q m.ty.length q1 k hlt
      have HKX := Lib.hid hxk
      have HR := Lib.hid HR2.out
      have m0 := HG.out.cellv M0.out HFM0.out
      have m1 := HG.out.cellv M1.out HFM0.out
      have HFM := Lib.hid (HFM0.out.wf HG.out)
      have HF := Lib.hid (WF.refl (w.heap.size + 1) wr)
      have HO := Lib.hid (show o2 = putsR o2 [] from rfl)
      clear hr hcx hrk hxk hvx hbn
      go_wp2_with (first | (go_at_call 27; (with_reducible refine (c_small _ _ _ _ _ _ HR.out (by omega) (by decide) (by assumption)).mono ?_); rintro e w1 ⟨rfl, o1, ho1, hl1, h1, h2⟩; simp only [List.length_cons, List.length_nil] at hl1; have HV := Lib.hid (HV.out.turn goodI h2.fr h2.sz (fun b _ (hb : b < w.heap.size) e => by have := HR.out.und_rows (n := w.heap.size) (by omega) b e; omega)); have HF := Lib.hid (HF.out.trans h2); replace m0 := h2.cellv m0 HFM.out; replace m1 := h2.cellv m1 HFM.out; have HFM := Lib.hid (HFM.out.wf h2); replace d0 := h2.cellv d0 HFB.out; replace d1 := h2.cellv d1 HFB.out; replace d2 := h2.cellv d2 HFB.out; have HFB := Lib.hid (HFB.out.wf h2); have HO := Lib.hid (putsR_step HO.out ho1.out); have HR := Lib.hid h1; clear h1 h2 ho1) | (go_at_call 28; (with_reducible refine (c_rints _ _ w.heap.size _ x.l _ _ HR.out (by omega) HV.out (by omega)).mono ?_); rintro e w1 ⟨rfl, o1, ho1, hl1, h1, h2⟩; have HV := Lib.hid (HV.out.turn goodI h2.fr h2.sz (fun b _ (hb : b < w.heap.size) e => by have := HR.out.und_rows (n := w.heap.size) (by omega) b e; omega)); have HF := Lib.hid (HF.out.trans h2); replace m0 := h2.cellv m0 HFM.out; replace m1 := h2.cellv m1 HFM.out; have HFM := Lib.hid (HFM.out.wf h2); replace d0 := h2.cellv d0 HFB.out; replace d1 := h2.cellv d1 HFB.out; replace d2 := h2.cellv d2 HFB.out; have HFB := Lib.hid (HFB.out.wf h2); have HO := Lib.hid (putsR_step HO.out ho1.out); have HR := Lib.hid h1; clear h1 h2 ho1))
      go_roundw
      case rel => exact ⟨k + 1, _, by omega, by go_num, Lib.hid (flat_nextR ho2.out HKX.out (HO.out.trans (by simp [itSh]))), HR.out, HG.out.trans HF.out⟩
      case measure => simp [intOf]; omega
    · have HR := Lib.hid HR2.out
      have HF := Lib.hid HG.out
      have HO := Lib.hid (show o2 = putsR o0 ([lenI m.ty.length] ++ m.ty.flatMap itSh) by rw [ho2.out, List.take_of_length_le (by omega)])
      rw [List.take_of_length_le (by omega)] at hl2
      clear HR2 HG ho2
      go_wp2_with ((go_at_call 27; (with_reducible refine (c_small _ _ _ _ _ _ HR.out (by omega) (by decide) (by assumption)).mono ?_); rintro e w1 ⟨rfl, o1, ho1, hl1, h1, h2⟩; simp only [List.length_cons, List.length_nil] at hl1; have HF := Lib.hid (HF.out.trans h2); replace m0 := h2.cellv m0 HFM.out; replace m1 := h2.cellv m1 HFM.out; have HFM := Lib.hid (HFM.out.wf h2); have HO := Lib.hid (putsR_step HO.out ho1.out); have HR := Lib.hid h1; clear h1 h2 ho1))
      clear HFM m0 m1
      go_loopw [6] (fun i wr => ∃ (k : Nat) (o2 : Ou), k ≤ m.fu.length ∧ i = .int .i64 (k : Int) ∧ Hid (o2 = putsR o0 ([lenI m.ty.length] ++ m.ty.flatMap itSh ++ [lenI m.fu.length] ++ (m.fu.take k).flatMap itFu)) ∧ RW wr (w.heap.size + 1) (w.heap.size + 2) o2 ∧ WF (w.heap.size + 1) ((w.alloc (.cells #[.slice a1 m.ty.length q1, .slice a2 m.fu.length q2] 25)).alloc (.cells #[.slice none 0 0, .bool false] 67)) wr) (fun i _ => m.fu.length - (intOf i).toNat)
      case atStart => exact ⟨0, _, by omega, rfl, Lib.hid (HO.out.trans (by simp [lenI])), HR.out, HF.out⟩
      case round =>
        obtain ⟨k2, o3, hk2, rfl, ho3, h1, h2⟩ := hrel
        have HR3 := Lib.hid h1
        have HG := Lib.hid h2
        have m0 := h2.cellv M0.out HFM0.out
        have m1 := h2.cellv M1.out HFM0.out
        have hl3 : o3.1.length ≤ o0.1.length + 10 * ([lenI m.ty.length] ++ m.ty.flatMap itSh ++ [lenI m.fu.length] ++ (m.fu.take k2).flatMap itFu).length := by rw [ho3.out]; exact putsR_len _ _
        rw [show ([lenI m.ty.length] ++ m.ty.flatMap itSh ++ [lenI m.fu.length] ++ (m.fu.take k2).flatMap itFu).length = 2 + (m.ty.flatMap itSh).length + ((m.fu.take k2).flatMap itFu).length by simp; omega] at hl3
        clear h1 h2 HR HF HO
        have HFM := Lib.hid (HFM0.out.wf HG.out)
        by_cases hlt2 : k2 < m.fu.length
        · obtain ⟨x, hxk⟩ : ∃ x, m.fu[k2]? = some x := ⟨_, List.getElem?_eq_getElem hlt2⟩
          have hsum := flat_sum (f := itFu) hxk
          rw [show (itFu x).length = 2 + (itInts x.lo).length + (itInts x.ca).length + (lenI x.co.length :: x.co.flatMap itIns).length by simp [itFu]; omega] at hsum
          obtain ⟨Vx1, Vx2, Vx3, hcx, hv1, hv2, hv3, ix1, ix2⟩ := HX2.out k2 x hxk
          obtain ⟨b, q, rfl, hr⟩ := (und_tab (HT2.out.keep HK.out) (HW0.out.und_rows (by omega)) HG.out).at (by omega)
          have hrk := hr k2 hlt2
          rw [hcx] at hrk
          have hone1 := hv1.one
          have hone2 := hv2.one
          have hone3 := hv3.one
          have HV1 := Lib.hid (HW0.out.undR goodI (n := w.heap.size) (by omega) (hv1.keep goodI HK.out) HG.out)
          have HV2 := Lib.hid (HW0.out.undR goodI (n := w.heap.size) (by omega) (hv2.keep goodI HK.out) HG.out)
          have HV3 := Lib.hid (HW0.out.undR goodN (n := w.heap.size) (by omega) (hv3.keep goodN HK.out) HG.out)
          have HQ := Lib.hid hrk
          have HKX := Lib.hid hxk
          have m0 := HG.out.cellv M0.out HFM0.out
          have m1 := HG.out.cellv M1.out HFM0.out
          have HFM := Lib.hid (HFM0.out.wf HG.out)
          have HO := Lib.hid (show o3 = putsR o3 [] from rfl)
          clear hr hcx hrk hxk hv1 hv2 hv3
          go_wp2_with (first | ((with_reducible show wpList _ _ _ (⟨some 61, _, _, _, _, _⟩ :: _) _ _); refine wpList_index_tab (d := 61) _ _ _ rfl 51 Try.underlying23 5 rfl _ _ _ _ q (by rfl) rfl k2 (by rfl) hlt2 ?_) | ((with_reducible show wpList _ _ _ (⟨some 62, _, _, _, _, _⟩ :: _) _ _); refine wpList_load_range (d := 62) _ _ rfl _ Try.underlying51 wr _ _ _ _ (by rfl) rfl rfl _ HQ.out (Kp.refl wr) (by rfl) ?_) | ((with_reducible show wpList _ _ _ (⟨none, .store _ (.tmp 7) (.tmp 62), _, _, _, _⟩ :: _) _ _); refine wpList_store_new rfl 51 _ _ rfl wr _ _ (by rfl) (by rfl) (by first | rfl | simp) _ _ rfl (by rfl) (by rfl) (by first | exact all2 rfl rfl | exact all4 rfl rfl rfl rfl | exact all5 rfl rfl rfl rfl hone | exact all3 rfl hone rfl | exact all5 rfl hone1 hone2 rfl hone3 | exact all5 rfl rfl rfl rfl hony | exact all3 rfl hony rfl | exact all5 rfl hony1 hony2 rfl hony3) ?_; intro w4 hq4 hk4 hs4; have HF := Lib.hid (Kp.wf hk4 HR3.out.lt); have HFX := Lib.hid (HR3.out.far_box hk4 hs4); have HR := Lib.hid (HR3.out.keep hk4); have m0 := hk4.cellv m0; have m1 := hk4.cellv m1; have HFM := Lib.hid (HFM.out.wf (Kp.wf hk4 HR3.out.lt)); have HV1 := Lib.hid (HV1.out.keep goodI hk4); have HV2 := Lib.hid (HV2.out.keep goodI hk4); have HV3 := Lib.hid (HV3.out.keep goodN hk4); clear hk4; obtain ⟨e0, e1, e2, e3, e4⟩ := row5 hq4; clear hq4) | (go_at_call 27; (with_reducible refine (c_small _ _ _ _ _ _ HR.out (by omega) (by decide) (by assumption)).mono ?_); rintro e w1 ⟨rfl, o1, ho1, hl1, h1, h2⟩; simp only [List.length_cons, List.length_nil] at hl1; have HV1 := Lib.hid (HV1.out.turn goodI h2.fr h2.sz (fun b _ (hb : b < w.heap.size) e => by have := HR.out.und_rows (n := w.heap.size) (by omega) b e; omega)); have HV2 := Lib.hid (HV2.out.turn goodI h2.fr h2.sz (fun b _ (hb : b < w.heap.size) e => by have := HR.out.und_rows (n := w.heap.size) (by omega) b e; omega)); have HV3 := Lib.hid (HV3.out.turn goodN h2.fr h2.sz (fun b _ (hb : b < w.heap.size) e => by have := HR.out.und_rows (n := w.heap.size) (by omega) b e; omega)); have HF := Lib.hid (HF.out.trans h2); replace m0 := h2.cellv m0 HFM.out; replace m1 := h2.cellv m1 HFM.out; have HFM := Lib.hid (HFM.out.wf h2); replace e0 := h2.cellv e0 HFX.out; replace e1 := h2.cellv e1 HFX.out; replace e2 := h2.cellv e2 HFX.out; replace e3 := h2.cellv e3 HFX.out; replace e4 := h2.cellv e4 HFX.out; have HFX := Lib.hid (HFX.out.wf h2); have HO := Lib.hid (putsR_step HO.out ho1.out); have HR := Lib.hid h1; clear h1 h2 ho1) | (go_at_call 28; (with_reducible refine (c_rints _ _ w.heap.size _ x.lo Vx1 _ HR.out (by omega) HV1.out (by omega)).mono ?_); rintro e w1 ⟨rfl, o1, ho1, hl1, h1, h2⟩; have HV1 := Lib.hid (HV1.out.turn goodI h2.fr h2.sz (fun b _ (hb : b < w.heap.size) e => by have := HR.out.und_rows (n := w.heap.size) (by omega) b e; omega)); have HV2 := Lib.hid (HV2.out.turn goodI h2.fr h2.sz (fun b _ (hb : b < w.heap.size) e => by have := HR.out.und_rows (n := w.heap.size) (by omega) b e; omega)); have HV3 := Lib.hid (HV3.out.turn goodN h2.fr h2.sz (fun b _ (hb : b < w.heap.size) e => by have := HR.out.und_rows (n := w.heap.size) (by omega) b e; omega)); have HF := Lib.hid (HF.out.trans h2); replace m0 := h2.cellv m0 HFM.out; replace m1 := h2.cellv m1 HFM.out; have HFM := Lib.hid (HFM.out.wf h2); replace e0 := h2.cellv e0 HFX.out; replace e1 := h2.cellv e1 HFX.out; replace e2 := h2.cellv e2 HFX.out; replace e3 := h2.cellv e3 HFX.out; replace e4 := h2.cellv e4 HFX.out; have HFX := Lib.hid (HFX.out.wf h2); have HO := Lib.hid (putsR_step HO.out ho1.out); have HR := Lib.hid h1; clear h1 h2 ho1) | (go_at_call 28; (with_reducible refine (c_rints _ _ w.heap.size _ x.ca Vx2 _ HR.out (by omega) HV2.out (by omega)).mono ?_); rintro e w1 ⟨rfl, o1, ho1, hl1, h1, h2⟩; have HV1 := Lib.hid (HV1.out.turn goodI h2.fr h2.sz (fun b _ (hb : b < w.heap.size) e => by have := HR.out.und_rows (n := w.heap.size) (by omega) b e; omega)); have HV2 := Lib.hid (HV2.out.turn goodI h2.fr h2.sz (fun b _ (hb : b < w.heap.size) e => by have := HR.out.und_rows (n := w.heap.size) (by omega) b e; omega)); have HV3 := Lib.hid (HV3.out.turn goodN h2.fr h2.sz (fun b _ (hb : b < w.heap.size) e => by have := HR.out.und_rows (n := w.heap.size) (by omega) b e; omega)); have HF := Lib.hid (HF.out.trans h2); replace m0 := h2.cellv m0 HFM.out; replace m1 := h2.cellv m1 HFM.out; have HFM := Lib.hid (HFM.out.wf h2); replace e0 := h2.cellv e0 HFX.out; replace e1 := h2.cellv e1 HFX.out; replace e2 := h2.cellv e2 HFX.out; replace e3 := h2.cellv e3 HFX.out; replace e4 := h2.cellv e4 HFX.out; have HFX := Lib.hid (HFX.out.wf h2); have HO := Lib.hid (putsR_step HO.out ho1.out); have HR := Lib.hid h1; clear h1 h2 ho1) | (go_at_call 29; (with_reducible refine (c_rcode _ _ w.heap.size _ x.co _ _ HR.out (by omega) HV3.out (by omega)).mono ?_); rintro e w1 ⟨rfl, o1, ho1, hl1, h1, h2⟩; have HV1 := Lib.hid (HV1.out.turn goodI h2.fr h2.sz (fun b _ (hb : b < w.heap.size) e => by have := HR.out.und_rows (n := w.heap.size) (by omega) b e; omega)); have HV2 := Lib.hid (HV2.out.turn goodI h2.fr h2.sz (fun b _ (hb : b < w.heap.size) e => by have := HR.out.und_rows (n := w.heap.size) (by omega) b e; omega)); have HV3 := Lib.hid (HV3.out.turn goodN h2.fr h2.sz (fun b _ (hb : b < w.heap.size) e => by have := HR.out.und_rows (n := w.heap.size) (by omega) b e; omega)); have HF := Lib.hid (HF.out.trans h2); replace m0 := h2.cellv m0 HFM.out; replace m1 := h2.cellv m1 HFM.out; have HFM := Lib.hid (HFM.out.wf h2); replace e0 := h2.cellv e0 HFX.out; replace e1 := h2.cellv e1 HFX.out; replace e2 := h2.cellv e2 HFX.out; replace e3 := h2.cellv e3 HFX.out; replace e4 := h2.cellv e4 HFX.out; have HFX := Lib.hid (HFX.out.wf h2); have HO := Lib.hid (putsR_step HO.out ho1.out); have HR := Lib.hid h1; clear h1 h2 ho1))
          go_roundw
          case rel => exact ⟨k2 + 1, _, by omega, by go_num, Lib.hid (flat_nextR ho3.out HKX.out (HO.out.trans (by simp [itFu, lenI]))), HR.out, HG.out.trans HF.out⟩
          case measure => simp [intOf]; omega
        · have HEN := Lib.hid (encR_ref m (o := o3) (by rw [ho3.out, List.take_of_length_le (by omega), HO0.out]; simp [itMo]))
          have HKE := Lib.hid (HW0.out.old HG.out HK.out (by omega))
          rw [List.take_of_length_le (by omega)] at hl3
          obtain ⟨_, _, vb, hrow, hown⟩ := HR3.out
          obtain ⟨g0, g1⟩ := row2 hrow
          have HBL := Lib.hid (bl_of_owns hown (by omega))
          obtain ⟨av, cv, _, rfl, _⟩ := HBL.out
          clear hrow hown
          go_wp2_with fail
          · rename_i hq
            have HE : encR m = ([], 1) := by rw [HEN.out, if_pos hq]
            go_ret2
            exact ⟨.slice none 0 0, by simp only [HE]; rfl, by simp only [HE]; exact bl_nil _ _, HKE.out⟩
          · have hq' : ¬ o3.2 = true := by first | assumption | (intro h; simp_all; done)
            have hr' : 1048576 < o3.1.length := by omega
            have HE : encR m = ([], 6) := by rw [HEN.out, if_neg hq', if_pos hr']
            go_ret2
            exact ⟨.slice none 0 0, by simp only [HE]; rfl, by simp only [HE]; exact bl_nil _ _, HKE.out⟩
          · have hq' : ¬ o3.2 = true := by first | assumption | (intro h; simp_all; done)
            have hr' : ¬ 1048576 < o3.1.length := by omega
            have HE : encR m = (o3.1, 0) := by rw [HEN.out, if_neg hq', if_neg hr']
            go_ret2
            refine ⟨_, by simp only [HE]; rfl, ?_, HKE.out⟩
            simp only [HE]
            exact HBL.out.weak goodB (From_le (by omega))
end Go.Proofs.Ytpikeeddanfhdaa
