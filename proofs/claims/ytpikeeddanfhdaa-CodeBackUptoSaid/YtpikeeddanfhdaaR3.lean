/- What the reference's writer does with instructions. Condition: the writer lies in a block of its own, what is written elsewhere. -/
import Derived.Test.YtpikeeddanfhdaaR2
import Derived.Test.YtpikeeddanfhdaaW3
import Derived.Test.YtpikeeddanfhdaaS2
namespace Go.Proofs.Ytpikeeddanfhdaa
open Go.RowKit
set_option linter.unusedVariables false
set_option linter.unusedSimpArgs false
theorem RW.far_box {w w4 : World} {p B : Nat} {o : Ou} (h : RW w p B o) (hk : Kp w w4) (hlt : w.heap.size < w4.heap.size) : Far w4 p w.heap.size := by
  refine ⟨hlt, by have := h.lt; omega, fun hr => ?_⟩
  obtain ⟨_, _, v, h5, h6⟩ := h
  have := (h6.lt _ ((rowAt_of (row_keep hk h5) rfl).1 hr)).2
  omega
theorem flat_nextR {α : Type} {f : α → List It} {l : List α} {k : Nat} {x : α} {o o2 o3 : Ou} {ahead : List It} (h : o2 = putsR o (ahead ++ (l.take k).flatMap f)) (hx : l[k]? = some x) (h3 : o3 = putsR o2 (f x)) : o3 = putsR o (ahead ++ (l.take (k + 1)).flatMap f) := by
  rw [putsR_step h h3, take_flat f l hx, List.append_assoc]
set_option maxHeartbeats 1600000 in
set_option maxRecDepth 100000 in
theorem c_rcode (p B n : Nat) (o : Ou) (l : List Ins) (v : Value) (w : World) (h : RW w p B o) (hn : n ≤ p) (hl : NL w (Und n) l v) (hb : o.1.length + 10 * (lenI l.length :: l.flatMap itIns).length ≤ 1099511627776) :
    Calls Try.prog 29 #[.pointer (some ⟨p, 0, none⟩), v] w (WQ p B o (lenI l.length :: l.flatMap itIns) w) := by
  obtain ⟨a, c, C, rfl, hlc, hby, hC, ht, hx⟩ := hl
  rw [List.length_cons] at hb
  have b0 : i64 (l.length : Int) := i64_lenB (b := 56) (by omega) hby
  have hcap : l.length ≤ 140737488351232 := by omega
  have HT := Lib.hid ht
  have HX := Lib.hid hx
  have HW := Lib.hid h
  have HR := Lib.hid h
  have HF := Lib.hid (WF.refl p w)
  have HO := Lib.hid (show o = putsR o [] from rfl)
  clear ht hx h hC hlc hby
  go_enter Try.func29, Try.ntmps29
  go_wp2_with ((go_at_call 27; (with_reducible refine (c_small p B _ _ _ _ HR.out (by omega) (by decide) (by assumption)).mono ?_); rintro e w1 ⟨rfl, o1, ho1, hl1, h1, h2⟩; simp only [List.length_cons, List.length_nil] at hl1; have HF := Lib.hid (HF.out.trans h2); have HO := Lib.hid (putsR_step HO.out ho1.out); have HR := Lib.hid h1; clear h1 h2 ho1))
  go_loopw [4] (fun i wr => ∃ (k : Nat) (o2 : Ou), k ≤ l.length ∧ i = .int .i64 (k : Int) ∧ Hid (o2 = putsR o ([lenI l.length] ++ (l.take k).flatMap itIns)) ∧ RW wr p B o2 ∧ WF p w wr) (fun i _ => l.length - (intOf i).toNat)
  case atStart => exact ⟨0, _, by omega, rfl, Lib.hid (HO.out.trans (by simp [lenI])), HR.out, HF.out⟩
  case round =>
    obtain ⟨k, o2, hk, rfl, ho2, h1, h2⟩ := hrel
    have HR2 := Lib.hid h1
    have HG := Lib.hid h2
    clear h1 h2 HR HF HO
    by_cases hlt : k < l.length
    · obtain ⟨x, hxk⟩ : ∃ x, l[k]? = some x := ⟨_, List.getElem?_eq_getElem hlt⟩
      have hsum := flat_sum (f := itIns) hxk
      have hl2 : o2.1.length ≤ o.1.length + 10 * ([lenI l.length] ++ (l.take k).flatMap itIns).length := by rw [ho2.out]; exact putsR_len _ _
      rw [show ([lenI l.length] ++ (l.take k).flatMap itIns).length = 1 + ((l.take k).flatMap itIns).length by simp; omega] at hl2
      rw [show (itIns x).length = 5 + (x.cs.flatMap itCase).length by simp [itIns]; omega] at hsum
      obtain ⟨_, hcx, ⟨a4, q4, C4, rfl, _, hb4, _, ht4, hx4⟩, ix1, ix2, ix3, ix4, ix5⟩ := HX.out k x hxk
      have b4 : i64 (x.cs.length : Int) := i64_lenB (b := 32) (by omega) hb4
      have hcap4 : x.cs.length ≤ 140737488351232 := by omega
      obtain ⟨b, q, rfl, hr⟩ := (und_tab HT.out (HW.out.und_rows hn) HG.out).at (by omega)
      have hrk := hr k hlt
      rw [hcx] at hrk
      obtain ⟨d0, d1, d2, d3, d4⟩ := range5 hrk
      have hbn : b < n := by
        obtain ⟨_, hbb⟩ := HT.out
        obtain ⟨b', o', he, hS, _⟩ := hbb (by omega)
        cases he
        exact hS
      have HFB := Lib.hid (HR2.out.far_und hn hbn (lt_of_cell d0))
      have i0 := run_index_tab 49 55 Try.underlying49 5 (by kernel_rfl) b q l.length c k hlt
      have HT4 := Lib.hid ht4
      have HX4 := Lib.hid hx4
      have HK := Lib.hid hxk
      have HR := Lib.hid HR2.out
      have HF := Lib.hid (WF.refl p wr)
      have HO := Lib.hid (show o2 = putsR o2 [] from rfl)
      obtain ⟨wq, hwq⟩ : ∃ wq, wq = wr := ⟨_, rfl⟩
      subst hwq
      have D4 := Lib.hid d4
      have HFQ := Lib.hid HFB.out
      clear hr hcx hrk hxk ht4 hx4 hb4 hbn
      go_wp2_with (first | (go_at_call 27; (with_reducible refine (c_small p B _ _ _ _ HR.out (by omega) (by decide) (by assumption)).mono ?_); rintro e w1 ⟨rfl, o1, ho1, hl1, h1, h2⟩; simp only [List.length_cons, List.length_nil] at hl1; have HF := Lib.hid (HF.out.trans h2); replace d0 := h2.cellv d0 HFB.out; replace d1 := h2.cellv d1 HFB.out; replace d2 := h2.cellv d2 HFB.out; replace d3 := h2.cellv d3 HFB.out; replace d4 := h2.cellv d4 HFB.out; have HFB := Lib.hid (HFB.out.wf h2); have HO := Lib.hid (putsR_step HO.out ho1.out); have HR := Lib.hid h1; clear h1 h2 ho1) | (go_at_call 45; (with_reducible refine (c_rnumI p B _ _ x.n.toNat _ HR.out (by omega) (by omega) (by first | rfl | omega)).mono ?_); rintro e w1 ⟨rfl, o1, ho1, hl1, h1, h2⟩; simp only [List.length_cons, List.length_nil] at hl1; have HF := Lib.hid (HF.out.trans h2); replace d0 := h2.cellv d0 HFB.out; replace d1 := h2.cellv d1 HFB.out; replace d2 := h2.cellv d2 HFB.out; replace d3 := h2.cellv d3 HFB.out; replace d4 := h2.cellv d4 HFB.out; have HFB := Lib.hid (HFB.out.wf h2); have HO := Lib.hid (putsR_step HO.out ho1.out); have HR := Lib.hid h1; clear h1 h2 ho1))
      have hp5 : Hid (o1 = putsR o2 [.sm x.o 0, .sm x.a (-1), .sm x.b (-1), .nu x.n.toNat, lenI x.cs.length]) := Lib.hid (HO.out.trans (by simp [lenI]))
      have hl5 : o1.1.length ≤ o2.1.length + 50 := by have := putsR_len [.sm x.o 0, .sm x.a (-1), .sm x.b (-1), .nu x.n.toNat, lenI x.cs.length] o2; rw [← hp5.out] at this; simpa using this
      go_loopw [5] (fun i wr => ∃ (j : Nat) (o3 : Ou), j ≤ x.cs.length ∧ i = .int .i64 (j : Int) ∧ Hid (o3 = putsR o2 ([.sm x.o 0, .sm x.a (-1), .sm x.b (-1), .nu x.n.toNat, lenI x.cs.length] ++ (x.cs.take j).flatMap itCase)) ∧ RW wr p B o3 ∧ WF p wq wr) (fun i _ => x.cs.length - (intOf i).toNat)
      case atStart => exact ⟨0, _, by omega, rfl, Lib.hid (hp5.out.trans (by simp)), HR.out, HF.out⟩
      case round =>
        obtain ⟨j, o3, hj, rfl, ho3, h1, h2⟩ := hrel
        have HA := Lib.hid h1
        have HGI := Lib.hid h2
        clear h1 h2 HR HO hl5 hp5
        obtain ⟨wi, hwi⟩ : ∃ wi, wi = wr := ⟨_, rfl⟩
        subst hwi
        have d4' := HGI.out.cellv D4.out HFQ.out
        clear d0 d1 d2 d3 d4 HF HFB
        have d4 := d4'
        clear d4'
        have HFI := Lib.hid (HFQ.out.wf HGI.out)
        by_cases hlt4 : j < x.cs.length
        · obtain ⟨z, hzk⟩ : ∃ z, x.cs[j]? = some z := ⟨_, List.getElem?_eq_getElem hlt4⟩
          have hsum2 := flat_sum (f := itCase) hzk
          have hl3 : o3.1.length ≤ o2.1.length + 10 * ([.sm x.o 0, .sm x.a (-1), .sm x.b (-1), .nu x.n.toNat, lenI x.cs.length] ++ (x.cs.take j).flatMap itCase).length := by rw [ho3.out]; exact putsR_len _ _
          rw [show ([.sm x.o 0, .sm x.a (-1), .sm x.b (-1), .nu x.n.toNat, lenI x.cs.length] ++ (x.cs.take j).flatMap itCase).length = 5 + ((x.cs.take j).flatMap itCase).length by simp; omega] at hl3
          rw [show (itCase z).length = 4 from rfl] at hsum2
          obtain ⟨hcz, iz1, iz2, iz3⟩ := HX4.out j z hzk
          obtain ⟨b3, q3, rfl, hr3⟩ := (und_tab HT4.out (HW.out.und_rows hn) (HG.out.trans HGI.out)).at (by omega)
          have hrz := hr3 j hlt4
          rw [hcz] at hrz
          have HQZ := Lib.hid hrz
          have i1 := run_index_tab 53 90 Try.underlying53 4 (by kernel_rfl) b3 q3 x.cs.length q4 j hlt4
          have HKZ := Lib.hid hzk
          have HO := Lib.hid (show o3 = putsR o3 [] from rfl)
          clear hr3 hrz hzk hcz
          cases hzs : z.s with
          | false =>
            rw [hzs] at HQZ
            go_wp2_with (first | ((with_reducible show wpList _ _ _ (⟨some 70, _, _, _, _, _⟩ :: _) _ _); refine wpList_load_range (d := 70) _ _ rfl _ Try.underlying90 wi _ _ _ _ (by rfl) rfl rfl _ HQZ.out (Kp.refl wi) (by rfl) ?_) | ((with_reducible show wpList _ _ _ (⟨none, .store _ (.tmp 6) (.tmp 70), _, _, _, _⟩ :: _) _ _); refine wpList_store_new rfl 90 _ _ rfl wi _ _ (by rfl) (by rfl) (by first | rfl | simp) _ _ rfl (by rfl) (by rfl) (by first | exact all2 rfl rfl | exact all4 rfl rfl rfl rfl | exact all5 rfl rfl rfl rfl hone | exact all3 rfl hone rfl | exact all5 rfl hone1 hone2 rfl hone3 | exact all5 rfl rfl rfl rfl hony | exact all3 rfl hony rfl | exact all5 rfl hony1 hony2 rfl hony3) ?_; intro w9 hq9 hk9 hs9; have HF := Lib.hid (HGI.out.trans (Kp.wf hk9 HA.out.lt)); have HFX := Lib.hid (HA.out.far_box hk9 hs9); have HFB := Lib.hid (HFI.out.wf (Kp.wf hk9 HA.out.lt)); have HR := Lib.hid (HA.out.keep hk9); replace d4 := hk9.cellv d4; clear hk9; obtain ⟨e0, e1, e2, e3⟩ := row4 hq9; clear hq9) | (go_at_call 45; (with_reducible refine (c_rnumI p B _ _ 0 _ HR.out (by omega) (by omega) (by first | rfl | omega)).mono ?_); rintro e w1 ⟨rfl, o1, ho1, hl1, h1, h2⟩; simp only [List.length_cons, List.length_nil] at hl1; have HF := Lib.hid (HF.out.trans h2); replace d4 := h2.cellv d4 HFB.out; have HFB := Lib.hid (HFB.out.wf h2); replace e0 := h2.cellv e0 HFX.out; replace e1 := h2.cellv e1 HFX.out; replace e2 := h2.cellv e2 HFX.out; replace e3 := h2.cellv e3 HFX.out; have HFX := Lib.hid (HFX.out.wf h2); have HO := Lib.hid (putsR_step HO.out ho1.out); have HR := Lib.hid h1; clear h1 h2 ho1) | (go_at_call 27; (with_reducible refine (c_small p B _ _ _ _ HR.out (by omega) (by decide) (by assumption)).mono ?_); rintro e w1 ⟨rfl, o1, ho1, hl1, h1, h2⟩; simp only [List.length_cons, List.length_nil] at hl1; have HF := Lib.hid (HF.out.trans h2); replace d4 := h2.cellv d4 HFB.out; have HFB := Lib.hid (HFB.out.wf h2); replace e0 := h2.cellv e0 HFX.out; replace e1 := h2.cellv e1 HFX.out; replace e2 := h2.cellv e2 HFX.out; replace e3 := h2.cellv e3 HFX.out; have HFX := Lib.hid (HFX.out.wf h2); have HO := Lib.hid (putsR_step HO.out ho1.out); have HR := Lib.hid h1; clear h1 h2 ho1))
            go_roundw
            case rel => exact ⟨j + 1, o1, by omega, by go_num, Lib.hid (flat_nextR ho3.out HKZ.out (HO.out.trans (by rw [itCase, hzs]; rfl))), HR.out, HF.out⟩
            case measure => simp [intOf]; omega
          | true =>
            rw [hzs] at HQZ
            go_wp2_with (first | ((with_reducible show wpList _ _ _ (⟨some 70, _, _, _, _, _⟩ :: _) _ _); refine wpList_load_range (d := 70) _ _ rfl _ Try.underlying90 wi _ _ _ _ (by rfl) rfl rfl _ HQZ.out (Kp.refl wi) (by rfl) ?_) | ((with_reducible show wpList _ _ _ (⟨none, .store _ (.tmp 6) (.tmp 70), _, _, _, _⟩ :: _) _ _); refine wpList_store_new rfl 90 _ _ rfl wi _ _ (by rfl) (by rfl) (by first | rfl | simp) _ _ rfl (by rfl) (by rfl) (by first | exact all2 rfl rfl | exact all4 rfl rfl rfl rfl | exact all5 rfl rfl rfl rfl hone | exact all3 rfl hone rfl | exact all5 rfl hone1 hone2 rfl hone3 | exact all5 rfl rfl rfl rfl hony | exact all3 rfl hony rfl | exact all5 rfl hony1 hony2 rfl hony3) ?_; intro w9 hq9 hk9 hs9; have HF := Lib.hid (HGI.out.trans (Kp.wf hk9 HA.out.lt)); have HFX := Lib.hid (HA.out.far_box hk9 hs9); have HFB := Lib.hid (HFI.out.wf (Kp.wf hk9 HA.out.lt)); have HR := Lib.hid (HA.out.keep hk9); replace d4 := hk9.cellv d4; clear hk9; obtain ⟨e0, e1, e2, e3⟩ := row4 hq9; clear hq9) | (go_at_call 45; (with_reducible refine (c_rnumI p B _ _ 1 _ HR.out (by omega) (by omega) (by first | rfl | omega)).mono ?_); rintro e w1 ⟨rfl, o1, ho1, hl1, h1, h2⟩; simp only [List.length_cons, List.length_nil] at hl1; have HF := Lib.hid (HF.out.trans h2); replace d4 := h2.cellv d4 HFB.out; have HFB := Lib.hid (HFB.out.wf h2); replace e0 := h2.cellv e0 HFX.out; replace e1 := h2.cellv e1 HFX.out; replace e2 := h2.cellv e2 HFX.out; replace e3 := h2.cellv e3 HFX.out; have HFX := Lib.hid (HFX.out.wf h2); have HO := Lib.hid (putsR_step HO.out ho1.out); have HR := Lib.hid h1; clear h1 h2 ho1) | (go_at_call 27; (with_reducible refine (c_small p B _ _ _ _ HR.out (by omega) (by decide) (by assumption)).mono ?_); rintro e w1 ⟨rfl, o1, ho1, hl1, h1, h2⟩; simp only [List.length_cons, List.length_nil] at hl1; have HF := Lib.hid (HF.out.trans h2); replace d4 := h2.cellv d4 HFB.out; have HFB := Lib.hid (HFB.out.wf h2); replace e0 := h2.cellv e0 HFX.out; replace e1 := h2.cellv e1 HFX.out; replace e2 := h2.cellv e2 HFX.out; replace e3 := h2.cellv e3 HFX.out; have HFX := Lib.hid (HFX.out.wf h2); have HO := Lib.hid (putsR_step HO.out ho1.out); have HR := Lib.hid h1; clear h1 h2 ho1))
            go_roundw
            case rel => exact ⟨j + 1, o1, by omega, by go_num, Lib.hid (flat_nextR ho3.out HKZ.out (HO.out.trans (by rw [itCase, hzs]; rfl))), HR.out, HF.out⟩
            case measure => simp [intOf]; omega
        · go_wp2_with fail
          go_roundw
          case rel => exact ⟨k + 1, o3, by omega, by go_num, Lib.hid (flat_nextR ho2.out HK.out (by rw [ho3.out, List.take_of_length_le (by omega)]; rfl)), HA.out, HG.out.trans HGI.out⟩
          case measure => simp [intOf]; omega
    · go_wp2_with fail
      refine end_none (by rfl) (by rfl) (WQ.of ?_ HR2.out HG.out)
      rw [ho2.out, List.take_of_length_le (by omega)]
      rfl
end Go.Proofs.Ytpikeeddanfhdaa
