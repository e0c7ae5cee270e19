/- The cells of all shapes, by the program. Condition: the shapes lie in memory. -/
import Derived.Test.YtkkcoaecidjecaaE6
import Derived.Test.YtkkcoaecidjecaaO0
import Derived.Deep.DeepCutAuto
namespace Go.Proofs.Ytkkcoaecidjecaa
open Go.RowKit
set_option linter.unusedVariables false
set_option linter.unusedSimpArgs false
def cntS (seen : List Sh) (s : Sh) : Nat := (seen.filter (sameSh s)).length
/-- What the map holds: how often each shape has come. -/
def FK (f : Value → Option Value) (seen : List Sh) : Prop := ∀ s : Sh, (f (keyV s)).getD (.int .i64 0) = .int .i64 (cntS seen s)
theorem sameSh_self (s : Sh) : sameSh s s = true := (sameSh_iff s s).2 rfl
theorem fk_next {f : Value → Option Value} {seen : List Sh} {x : Sh} {q : Int} (h : FK f seen) (hq : q = (cntS seen x : Int) + 1) : FK (vput f (keyV x) (.int .i64 q)) (seen ++ [x]) := by
  intro s
  by_cases e : s = x
  · subst e
    rw [vput_same, hq]
    simp [cntS, sameSh_self]
  · rw [vput_other f _ (fun e2 => e (keyV_inj e2)), h s]
    have : sameSh s x = false := by
      cases hs : sameSh s x with
      | false => rfl
      | true => exact absurd ((sameSh_iff s x).1 hs) e
    simp [cntS, this]
theorem cnt_any (seen : List Sh) (s : Sh) : seen.any (sameSh s) = decide (0 < cntS seen s) := by
  cases h : seen.any (sameSh s) with
  | false =>
    rw [List.any_eq_false] at h
    have : seen.filter (sameSh s) = [] := List.filter_eq_nil_iff.2 h
    simp [cntS, this]
  | true =>
    rw [List.any_eq_true] at h
    obtain ⟨x, hx, hs⟩ := h
    have : x ∈ seen.filter (sameSh s) := List.mem_filter.2 ⟨hx, hs⟩
    have := List.length_pos_of_mem this
    exact (decide_eq_true this).symm
theorem cnt_le (seen : List Sh) (s : Sh) : cntS seen s ≤ seen.length := List.length_filter_le _ _
theorem okI_of {w : World} {B : Sel} {s : Sh} {cs : List Value} (h : LS w B s cs) : okI s := by
  obtain ⟨v, _, hv, h1, h2⟩ := h
  refine ⟨h1, h2, fun x hx => ?_⟩
  obtain ⟨a, c, C, _, _, _, _, _, hl⟩ := hv
  obtain ⟨i, hi⟩ := List.mem_iff_getElem?.1 hx
  exact (hl i x hi).2
/-- What comes of the shapes: their cells, or that one of them is not sound. -/
def ShapesR (l : List Sh) (w : World) (e : Ending) (w' : World) : Prop :=
  ∃ cv b, e = .returned (.tuple #[cv, .bool b]) ∧ Kp w w' ∧ ((b = false ∧ shapesP l = none ∧ cv = .slice none 0 0) ∨ (b = true ∧ ∃ c, shapesP l = some c ∧ IL w' (From w.heap.size) c cv ∧ cellsOk c l.length))
theorem shapes_no {l : List Sh} {w w' : World} (hk : Kp w w') (h : shapesP l = none) : ShapesR l w (.returned (.tuple #[.slice none 0 0, .bool false])) w' := ⟨_, _, rfl, hk, .inl ⟨rfl, h, rfl⟩⟩
theorem shapes_if {l : List Sh} (hl : l.length ≤ 256) : shapesP l = widthsL l := if_pos hl
theorem MapV.ke {P : Program} {t : TypeId} {b n g : Nat} {f : Value → Option Value} {w w' : World} (h : MapV w P t b n f) (hk : Ke g w w') (hb : b ≠ g) : MapV w' P t b n f := h.blk (hk.2.2.2.2 b h.lt hb)
theorem Ke.grown {b : Nat} {w w' w'' : World} {row : Option Nat} (h : Ke b w w') (g : w'.grownBy w'' row) (hr : ∀ k, row = some k → w.heap.size ≤ k) : Ke b w w'' :=
  ⟨g.os.trans h.1, g.tape.trans h.2.1, g.output.trans h.2.2.1, Nat.le_trans h.2.2.2.1 g.size, fun k hk hb => (g.block k (Nat.lt_of_lt_of_le hk h.2.2.2.1) (fun e => by have := hr k e.symm; omega)).trans (h.2.2.2.2 k hk hb)⟩
theorem wpList_mapV_get {P : Program} {ops : Array Oper} {rest : List Oper} {a : Act} {w : World} {Q : Exit → Act → World → Prop} {d : Tmp} {op : Op} {ty : TypeId} {pos : String} {af : Array Edge} (m x : Operand) (t k e : TypeId) (hop : op = Op.lookup t m x false) (K : Maps.Keyed P k) (ht : P.underlying t = some (.map k e))
    (z : Value) (hz : ∀ w, (zeroValue e).run P w = .ok z w) (b n : Nat) (f : Value → Option Value) (hm : a.eval m = .map (some b)) (h : MapV w P k b n f) (s : Value) (hx : a.eval x = s) (key : ∃ l, keyOf P k s = some l) (u : Value) (hu : (f s).getD z = u)
    (hK : wpList P ops Q rest (a.put (some d) u) w) : wpList P ops Q (⟨some d, op, ty, pos, af, none⟩ :: rest) a w := by
  subst hop
  obtain ⟨l, key⟩ := key
  refine wpList_plain rfl fun K' hK' => ?_
  subst hu
  unfold Oper.wp
  simp [execOp, hm, hx, (mapV_look h K ht (hz w) key).2, Result.andThen]
  exact hK' _ _ hK
set_option maxHeartbeats 4000000 in
set_option maxRecDepth 100000 in
theorem c_measureShapes (l : List Sh) (v : Value) (w : World) (h : SL w A0 l v) : Calls Try.prog 44 #[v] w (ShapesR l w) := by
  obtain ⟨iI, hI, hI2⟩ := Option.map_eq_some_iff.1 infoI
  obtain ⟨hI0, hI1, hI2⟩ : iI.zero = some (.int .i64 0) ∧ iI.size = 1 ∧ iI.bytes = 8 := by simpa using hI2
  have hmm := @run_makeMap Try.prog
  obtain ⟨a1, q1, C1, rfl, _, hby1, _, ht1, hx1⟩ := h
  have hc1 : l.length ≤ 140737488351232 := by omega
  have HT1 := Lib.hid ht1
  have HX1 := Lib.hid hx1
  clear ht1 hx1 hby1
  by_cases hlen : (l.length : Int) > 256
  · go_enter Try.func44, Try.ntmps44
    go_wp2_with fail
    go_ret2
    exact shapes_no (Kp.refl w) (if_neg (by omega))
  · have HL : Hid (l.length ≤ 256) := Lib.hid (by omega)
    have HS0 := Lib.hid (shapes_if HL.out)
    go_enter Try.func44, Try.ntmps44
    go_wp2_with fail
    go_loopw [2, 15] (fun y i wr => ∃ (k : Nat) (c : List Int) (f : Value → Option Value) (cv : Value), cv = y ∧ k ≤ l.length ∧ i = .int .i64 (k : Int) ∧ Hid (widthsL l = widths (l.drop k) (l.take k) c) ∧ Hid (cellsOk c k) ∧ Hid (GR 3 1 LI wr (w.heap.size + 1) c cv) ∧ Hid (MapV wr Try.prog kt w.heap.size k f) ∧ Hid (FK f (l.take k)) ∧ Hid (Ke w.heap.size (w.alloc (.map #[] 0)) wr)) (fun _ i _ => l.length - (intOf i).toNat)
    case atStart => exact ⟨0, [], fun _ => none, _, rfl, by omega, rfl, Lib.hid rfl, Lib.hid ⟨rfl, fun x hx => by simp at hx⟩, Lib.hid gr_nil, Lib.hid (mapV_made w _ _), Lib.hid (fun s => rfl), Lib.hid (Ke.refl _ _)⟩
    case round =>
      obtain ⟨k, c, f, cv, rfl, hk, rfl, HW, HC, HG, HM, HF, HK⟩ := hrel
      have HKP : Hid (Kp w wr) := Lib.hid (HK.out.old ((Kp.refl w).alloc _) (Nat.le_refl _))
      have hmb : w.heap.size + 1 ≤ wr.heap.size := by have := HK.out.2.2.2.1; simpa using this
      by_cases hlt : k < l.length
      · obtain ⟨x, hxk⟩ : ∃ x, l[k]? = some x := ⟨_, List.getElem?_eq_getElem hlt⟩
        obtain ⟨b, q, hab, hr⟩ := (HT1.out.keep HKP.out).at (by omega)
        subst hab
        have hrk := hr k hlt
        have hls := HX1.out k x hxk
        have HOK := Lib.hid (okI_of hls)
        obtain ⟨V, hcx, hil, ix1, ix2⟩ := id hls
        rw [hcx] at hrk hls
        have hone := hil.one
        have HQ := Lib.hid hrk
        have HXK := Lib.hid hxk
        have HLX := Lib.hid hls
        clear hr hrk hxk hcx hil ix1 ix2 hls
        cases hform : formB x (k : Int) with
        | false =>
          have HFO := Lib.hid hform
          clear hform
          go_wp2_with (first | ((with_reducible show wpList _ _ _ (⟨some 18, _, _, _, _, _⟩ :: _) _ _); refine wpList_index_tab (d := 18) _ _ _ rfl 45 Try.underlying22 3 rfl _ _ _ _ q (by rfl) rfl k (by rfl) hlt ?_) | ((with_reducible show wpList _ _ _ (⟨some 19, _, _, _, _, _⟩ :: _) _ _); refine wpList_load_range (d := 19) _ _ rfl _ Try.underlying45 wr _ _ _ _ (by rfl) rfl rfl _ HQ.out (Kp.refl wr) (by rfl) ?_) | ((with_reducible show wpList _ _ _ (⟨none, .store _ (.tmp 6) (.tmp 19), _, _, _, _⟩ :: _) _ _); refine wpList_store_new rfl 45 _ _ rfl wr _ _ (by rfl) (by rfl) (by first | rfl | simp) _ _ rfl (by rfl) (by rfl) (by first | exact all2 rfl rfl | exact all4 rfl rfl rfl rfl | exact all5 rfl rfl rfl rfl hone | exact all3 rfl hone rfl | exact all5 rfl hone1 hone2 rfl hone3 | exact all5 rfl rfl rfl rfl hony | exact all3 rfl hony rfl | exact all5 rfl hony1 hony2 rfl hony3) ?_; intro w4 hq4 hk4 hs4; have HB4 := Lib.hid hq4; have HK4 := Lib.hid hk4; clear hk4; obtain ⟨d0, d1, d2⟩ := row3 hq4; clear hq4) | (go_at_call 62; (with_reducible refine (c_isFormed x k _ _ (goodS.keep HLX.out (HKP.out.trans HK4.out))).mono ?_); rintro e w5 ⟨rfl, h5⟩; have HK5 := Lib.hid h5; clear h5; rw [HFO.out]))
          go_ret2
          exact shapes_no (HKP.out.trans (HK4.out.trans HK5.out)) (HS0.out.trans (widths_bad HW.out HXK.out (by unfold okSh; rw [show ((l.take k).length : Int) = (k : Int) from by rw [List.length_take]; omega, HFO.out]; rfl)))
        | true =>
          have HFO := Lib.hid hform
          have hl16 : x.l.length ≤ 16 := by
            unfold formB at hform
            rw [Bool.and_eq_true, areB_iff] at hform
            omega
          have HAR : Hid (areB x.l (k : Int) 16 = true) := Lib.hid (by unfold formB at hform; rw [Bool.and_eq_true] at hform; exact hform.1)
          clear hform
          go_upto_region 10 with (first | ((with_reducible show wpList _ _ _ (⟨some 18, _, _, _, _, _⟩ :: _) _ _); refine wpList_index_tab (d := 18) _ _ _ rfl 45 Try.underlying22 3 rfl _ _ _ _ q (by rfl) rfl k (by rfl) hlt ?_) | ((with_reducible show wpList _ _ _ (⟨some 19, _, _, _, _, _⟩ :: _) _ _); refine wpList_load_range (d := 19) _ _ rfl _ Try.underlying45 wr _ _ _ _ (by rfl) rfl rfl _ HQ.out (Kp.refl wr) (by rfl) ?_) | ((with_reducible show wpList _ _ _ (⟨none, .store _ (.tmp 6) (.tmp 19), _, _, _, _⟩ :: _) _ _); refine wpList_store_new rfl 45 _ _ rfl wr _ _ (by rfl) (by rfl) (by first | rfl | simp) _ _ rfl (by rfl) (by rfl) (by first | exact all2 rfl rfl | exact all4 rfl rfl rfl rfl | exact all5 rfl rfl rfl rfl hone | exact all3 rfl hone rfl | exact all5 rfl hone1 hone2 rfl hone3 | exact all5 rfl rfl rfl rfl hony | exact all3 rfl hony rfl | exact all5 rfl hony1 hony2 rfl hony3) ?_; intro w4 hq4 hk4 hs4; have HB4 := Lib.hid hq4; have HK4 := Lib.hid hk4; clear hk4; obtain ⟨d0, d1, d2⟩ := row3 hq4; clear hq4) | (go_at_call 62; (with_reducible refine (c_isFormed x k _ _ (goodS.keep HLX.out (HKP.out.trans HK4.out))).mono ?_); rintro e w5 ⟨rfl, h5⟩; have HK5 := Lib.hid h5; have d0 := h5.cellv d0; have d1 := h5.cellv d1; have d2 := h5.cellv d2; clear h5; rw [HFO.out]) | (go_at_call 63; (with_reducible refine (c_keyOf x _ _ (goodS.keep HLX.out (HKP.out.trans (HK4.out.trans HK5.out))) hl16).mono ?_); rintro e w6 ⟨rfl, h6⟩; have HK6 := Lib.hid h6; clear h6) | ((with_reducible show wpList _ _ _ (⟨some 7, _, _, _, _, _⟩ :: _) _ _); refine wpList_named rfl (some 7) rfl (.pointer (some ⟨w6.heap.size, 0, none⟩)) (.cells zeros19 118) (by kernel_rfl) ?_; intro w7 h7 k7 z7; have HK7 := Lib.hid k7; have HR7 := Lib.hid h7; clear h7 k7) | ((with_reducible show wpList _ _ _ (⟨none, .store _ (.tmp 7) (.tmp 25), _, _, _, _⟩ :: _) _ _); refine wpList_store_named rfl 118 _ _ rfl w6.heap.size ((keyL x).map (Value.int .i64)).toArray (by rfl) (by rfl) 118 zeros19 HR7.out (key_sz x (Nat.le_refl _) hl16) (zeros_sz x (Nat.le_refl _) hl16) (key_one _ _) ?_; intro w8 h8 k8; have HR8 := Lib.hid h8; have HK8 := Lib.hid k8; clear h8 k8))
          have hkn : k + 1 ≤ 256 := by have := HL.out; omega
          have HM8 : Hid (MapV w8 Try.prog kt w.heap.size k f) := Lib.hid (MapV.ke (HM.out.keep (HK4.out.trans (HK5.out.trans (HK6.out.trans HK7.out)))) HK8.out (by have := HK4.out.sz; have := HK5.out.sz; have := HK6.out.sz; omega))
          refine regK _ w8 w.heap.size k w6.heap.size f x (cntS (l.take k) x) (by simp [WK, Act.size_put]) rfl rfl HR8.out (by have := HK4.out.sz; have := HK5.out.sz; have := HK6.out.sz; omega) HOK.out hl16 HM8.out (by unfold maxLen; omega) (HF.out x) (by have := cnt_le (l.take k) x; rw [List.length_take] at this; omega) ?_
          intro v9 w9 hm9 hke9
          obtain ⟨qn, hqn⟩ : ∃ qn : Int, qn = (cntS (l.take k) x : Int) + 1 := ⟨_, rfl⟩
          rw [← hqn] at hm9
          have HM9 := Lib.hid hm9
          have HQN := Lib.hid hqn
          have HK9 := Lib.hid hke9
          clear hm9 hke9 hqn HM8
          simp only [WK, List.foldl, Act.put, List.setIfInBounds_toArray, List.set_cons_zero, List.set_cons_succ]
          have hs4 := HK4.out.sz
          have hs5 := HK5.out.sz
          have hs6 := HK6.out.sz
          have hs7 := HK7.out.sz
          have hs8 := HK8.out.2.2.2.1
          have hs9 := HK9.out.2.2.2.1
          have HK08 : Hid (Kp wr w8) := Lib.hid (HK8.out.old (HK4.out.trans (HK5.out.trans (HK6.out.trans HK7.out))) (by omega))
          have HK09 : Hid (Kp w w9) := Lib.hid (HK9.out.old (HKP.out.trans HK08.out) (Nat.le_refl _))
          have HR9 := Lib.hid (HK9.out.row HR8.out (by omega))
          have hb9 := HK9.out.row (HK8.out.row (row_keep (HK5.out.trans (HK6.out.trans HK7.out)) HB4.out) (by have := row_lt HB4.out; omega)) (by omega)
          have HB9 := Lib.hid hb9
          obtain ⟨j0, j1, j2⟩ := row3 hb9
          clear hb9 d0 d1 d2
          have HE9 : Hid (Ke w.heap.size wr w9) := Lib.hid ((Ke.refl w.heap.size wr).kp HK08.out |>.trans HK9.out)
          have HG9 : Hid (GR 3 1 LI w9 (w.heap.size + 1) c cv) := Lib.hid (HG.out.turn goodI HE9.out.fr HE9.out.2.2.2.1 (fun b _ hb e => by omega))
          have hcl := HC.out.1
          have HI9 : Hid (IL w9 A0 c cv) := Lib.hid (RL.weak goodI (GR.all (by_ := 8) goodI HG9.out (by omega)) (A0_le _))
          obtain ⟨zn, hzn⟩ : ∃ zn, cellsB x c = zn := ⟨_, rfl⟩
          have HZ := Lib.hid hzn
          have HYB : Hid (c.length * 8 + 16 ≤ 4000) := Lib.hid (by omega)
          clear hzn
          have hlen' : ((l.take k).length : Int) = (k : Int) := by rw [List.length_take]; omega
          by_cases hq : qn > 1
          · have hany : Hid ((l.take k).any (sameSh x) = true) := Lib.hid (by rw [cnt_any]; have := HQN.out; simp; omega)
            cases hk8 : (x.k != 8) with
            | true =>
              go_wp2_with (first | ((with_reducible show wpList _ _ _ (⟨some 33, _, _, _, _, _⟩ :: _) _ _); refine wpList_load_mid rfl 118 _ rfl w6.heap.size 0 (by rfl) _ (.array 19 3) (key_range HR9.out) Try.underlying118 rfl (key_sz x (Nat.le_refl _) hl16) ?_) | ((with_reducible show wpList _ _ _ (⟨some 34, _, _, _, _, _⟩ :: _) _ _); refine wpList_mapV_get (d := 34) _ _ mt kt 3 rfl keyKd Try.underlying115 _ zeroI w.heap.size (k + 1) _ (by rfl) HM9.out (keyV x) (by rfl) (key_reads x HOK.out hl16) (.int .i64 qn) (by rw [vput_same]; rfl) ?_))
              go_ret2
              exact shapes_no HK09.out (HS0.out.trans (widths_bad HW.out HXK.out (by unfold okSh; rw [hany.out, show (x.k == 8) = false from by simpa using hk8]; simp)))
            | false =>
              have HTW : Hid ((x.k == 8 || !(l.take k).any (sameSh x)) = true) := Lib.hid (by simp at hk8; simp [hk8])
              by_cases h64 : zn > 64
              · go_wp2_with (first | ((with_reducible show wpList _ _ _ (⟨some 33, _, _, _, _, _⟩ :: _) _ _); refine wpList_load_mid rfl 118 _ rfl w6.heap.size 0 (by rfl) _ (.array 19 3) (key_range HR9.out) Try.underlying118 rfl (key_sz x (Nat.le_refl _) hl16) ?_) | ((with_reducible show wpList _ _ _ (⟨some 34, _, _, _, _, _⟩ :: _) _ _); refine wpList_mapV_get (d := 34) _ _ mt kt 3 rfl keyKd Try.underlying115 _ zeroI w.heap.size (k + 1) _ (by rfl) HM9.out (keyV x) (by rfl) (key_reads x HOK.out hl16) (.int .i64 qn) (by rw [vput_same]; rfl) ?_) | (go_at_call 64; (with_reducible refine (c_cellsOf x c k cv _ w9 (goodS.keep HLX.out HK09.out) HI9.out HC.out (fun _ => HAR.out)).mono ?_); rintro e w10 ⟨rfl, h10⟩; have HK10 := Lib.hid h10; clear h10; rw [HZ.out]))
                go_ret2
                exact shapes_no (HK09.out.trans HK10.out) (HS0.out.trans (widths_bad HW.out HXK.out (by unfold okSh; rw [HZ.out]; have : ¬ zn ≤ 64 := (by omega); simp [this])))
              · have HOKS : Hid (okSh (l.take k) c x = true) := Lib.hid (by unfold okSh; rw [hlen', HFO.out, HTW.out, HZ.out]; simp; omega)
                have HZI : Hid (i64 zn) := Lib.hid (by have := (cells_next HC.out (s := x) (by rw [HZ.out]; omega)).2 (cellsB x c) (by simp); rw [HZ.out] at this; unfold i64; omega)
                have HGK : Hid (∀ W, Kp w9 W → GR 3 1 LI W (w.heap.size + 1) c cv) := Lib.hid (fun W h => HG9.out.keep goodI h)
                go_wp2_with (first | ((with_reducible show wpList _ _ _ (⟨some 33, _, _, _, _, _⟩ :: _) _ _); refine wpList_load_mid rfl 118 _ rfl w6.heap.size 0 (by rfl) _ (.array 19 3) (key_range HR9.out) Try.underlying118 rfl (key_sz x (Nat.le_refl _) hl16) ?_) | ((with_reducible show wpList _ _ _ (⟨some 34, _, _, _, _, _⟩ :: _) _ _); refine wpList_mapV_get (d := 34) _ _ mt kt 3 rfl keyKd Try.underlying115 _ zeroI w.heap.size (k + 1) _ (by rfl) HM9.out (keyV x) (by rfl) (key_reads x HOK.out hl16) (.int .i64 qn) (by rw [vput_same]; rfl) ?_) | (go_at_call 64; (with_reducible refine (c_cellsOf x c k cv _ w9 (goodS.keep HLX.out HK09.out) HI9.out HC.out (fun _ => HAR.out)).mono ?_); rintro e w10 ⟨rfl, h10⟩; have HK10 := Lib.hid h10; have HG10 := Lib.hid (HGK.out _ h10); clear h10; rw [HZ.out]) | ((with_reducible show wpList _ _ _ (⟨some 49, _, _, _, _, _⟩ :: _) _ _); refine wpList_append_gr goodI (d := 49) _ _ 33 rfl 3 iI _ 8 Try.underlying33 hI hI0 hI1 hI2 rfl (by decide) cv c (w.heap.size+1) (by rfl) _ HG10.out (by have:=HK10.out.sz; omega) zn [.int .i64 zn] (fun b=>w10.heap.size+1≤b) _ _ (by rfl) (by first | rfl | simp) rfl ⟨rfl,HZI.out⟩ (fun b (hb:w10.heap.size+1≤b)=>⟨by have:=HK10.out.sz; omega,fun e=>by have:=(HG10.out.lt b e.symm).2;omega⟩) (by have hyb := HYB.out; (try rw [take_len (by omega)]); unfold maxLen; omega) (by have hyb := HYB.out; (try rw [take_len (by omega)]); omega) ?_; intro g11 cap11 w11 hg11 hgr11 hat11 hlt11 hB11; have H11 := Lib.hid hg11; have HGR11 := Lib.hid hgr11; clear hg11 hgr11 hat11 hlt11 hB11))
                go_roundw
                case rel =>
                  refine ⟨k + 1, c ++ [zn], _, _, rfl, by omega, by go_num, Lib.hid ?_, Lib.hid ?_, (by have h := H11; rw [hcl] at h; exact h), Lib.hid ((HM9.out.keep (HK10.out.alloc _)).grown HGR11.out (fun e => by have := (HG10.out.lt _ e.symm).1; omega)), Lib.hid ?_, Lib.hid (((HK.out.trans HE9.out).kp (HK10.out.alloc _)).grown HGR11.out (fun b hb => by have := (HG10.out.lt _ hb).1; simpa using this))⟩
                  · rw [← HZ.out]; exact widths_next HW.out HXK.out HOKS.out
                  · rw [← HZ.out]; exact cells_next HC.out (by rw [HZ.out]; omega)
                  · rw [take_at HXK.out]; exact fk_next HF.out HQN.out
                case measure => simp [intOf]; omega
          · have HTW : Hid ((x.k == 8 || !(l.take k).any (sameSh x)) = true) := Lib.hid (by rw [cnt_any]; have := HQN.out; simp; right; omega)
            by_cases h64 : zn > 64
            · go_wp2_with (first | ((with_reducible show wpList _ _ _ (⟨some 33, _, _, _, _, _⟩ :: _) _ _); refine wpList_load_mid rfl 118 _ rfl w6.heap.size 0 (by rfl) _ (.array 19 3) (key_range HR9.out) Try.underlying118 rfl (key_sz x (Nat.le_refl _) hl16) ?_) | ((with_reducible show wpList _ _ _ (⟨some 34, _, _, _, _, _⟩ :: _) _ _); refine wpList_mapV_get (d := 34) _ _ mt kt 3 rfl keyKd Try.underlying115 _ zeroI w.heap.size (k + 1) _ (by rfl) HM9.out (keyV x) (by rfl) (key_reads x HOK.out hl16) (.int .i64 qn) (by rw [vput_same]; rfl) ?_) | (go_at_call 64; (with_reducible refine (c_cellsOf x c k cv _ w9 (goodS.keep HLX.out HK09.out) HI9.out HC.out (fun _ => HAR.out)).mono ?_); rintro e w10 ⟨rfl, h10⟩; have HK10 := Lib.hid h10; clear h10; rw [HZ.out]))
              go_ret2
              exact shapes_no (HK09.out.trans HK10.out) (HS0.out.trans (widths_bad HW.out HXK.out (by unfold okSh; rw [HZ.out]; have : ¬ zn ≤ 64 := (by omega); simp [this])))
            · have HOKS : Hid (okSh (l.take k) c x = true) := Lib.hid (by unfold okSh; rw [hlen', HFO.out, HTW.out, HZ.out]; simp; omega)
              have HZI : Hid (i64 zn) := Lib.hid (by have := (cells_next HC.out (s := x) (by rw [HZ.out]; omega)).2 (cellsB x c) (by simp); rw [HZ.out] at this; unfold i64; omega)
              have HGK : Hid (∀ W, Kp w9 W → GR 3 1 LI W (w.heap.size + 1) c cv) := Lib.hid (fun W h => HG9.out.keep goodI h)
              go_wp2_with (first | ((with_reducible show wpList _ _ _ (⟨some 33, _, _, _, _, _⟩ :: _) _ _); refine wpList_load_mid rfl 118 _ rfl w6.heap.size 0 (by rfl) _ (.array 19 3) (key_range HR9.out) Try.underlying118 rfl (key_sz x (Nat.le_refl _) hl16) ?_) | ((with_reducible show wpList _ _ _ (⟨some 34, _, _, _, _, _⟩ :: _) _ _); refine wpList_mapV_get (d := 34) _ _ mt kt 3 rfl keyKd Try.underlying115 _ zeroI w.heap.size (k + 1) _ (by rfl) HM9.out (keyV x) (by rfl) (key_reads x HOK.out hl16) (.int .i64 qn) (by rw [vput_same]; rfl) ?_) | (go_at_call 64; (with_reducible refine (c_cellsOf x c k cv _ w9 (goodS.keep HLX.out HK09.out) HI9.out HC.out (fun _ => HAR.out)).mono ?_); rintro e w10 ⟨rfl, h10⟩; have HK10 := Lib.hid h10; have HG10 := Lib.hid (HGK.out _ h10); clear h10; rw [HZ.out]) | ((with_reducible show wpList _ _ _ (⟨some 49, _, _, _, _, _⟩ :: _) _ _); refine wpList_append_gr goodI (d := 49) _ _ 33 rfl 3 iI _ 8 Try.underlying33 hI hI0 hI1 hI2 rfl (by decide) cv c (w.heap.size+1) (by rfl) _ HG10.out (by have:=HK10.out.sz; omega) zn [.int .i64 zn] (fun b=>w10.heap.size+1≤b) _ _ (by rfl) (by first | rfl | simp) rfl ⟨rfl,HZI.out⟩ (fun b (hb:w10.heap.size+1≤b)=>⟨by have:=HK10.out.sz; omega,fun e=>by have:=(HG10.out.lt b e.symm).2;omega⟩) (by have hyb := HYB.out; (try rw [take_len (by omega)]); unfold maxLen; omega) (by have hyb := HYB.out; (try rw [take_len (by omega)]); omega) ?_; intro g11 cap11 w11 hg11 hgr11 hat11 hlt11 hB11; have H11 := Lib.hid hg11; have HGR11 := Lib.hid hgr11; clear hg11 hgr11 hat11 hlt11 hB11))
              go_roundw
              case rel =>
                refine ⟨k + 1, c ++ [zn], _, _, rfl, by omega, by go_num, Lib.hid ?_, Lib.hid ?_, (by have h := H11; rw [hcl] at h; exact h), Lib.hid ((HM9.out.keep (HK10.out.alloc _)).grown HGR11.out (fun e => by have := (HG10.out.lt _ e.symm).1; omega)), Lib.hid ?_, Lib.hid (((HK.out.trans HE9.out).kp (HK10.out.alloc _)).grown HGR11.out (fun b hb => by have := (HG10.out.lt _ hb).1; simpa using this))⟩
                · rw [← HZ.out]; exact widths_next HW.out HXK.out HOKS.out
                · rw [← HZ.out]; exact cells_next HC.out (by rw [HZ.out]; omega)
                · rw [take_at HXK.out]; exact fk_next HF.out HQN.out
              case measure => simp [intOf]; omega
      · go_wp2_with fail
        go_ret2
        refine ⟨_, _, rfl, HKP.out, .inr ⟨rfl, c, HS0.out.trans (widths_all HW.out (by omega)), ?_, ?_⟩⟩
        · have hlc := HC.out.1
          have hl2 := HL.out
          exact (HG.out.all goodI (by omega)).weak goodI (From_le (by omega))
        · have e : k = l.length := by omega
          rw [← e]; exact HC.out
end Go.Proofs.Ytkkcoaecidjecaa
