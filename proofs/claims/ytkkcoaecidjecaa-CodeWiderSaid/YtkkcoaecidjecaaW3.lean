/- What the program's writer does with the parts of a module. Condition: the writer lies in a block of its own, what is written elsewhere. -/
import Derived.Test.YtkkcoaecidjecaaW2
namespace Go.Proofs.Ytkkcoaecidjecaa
open Go.RowKit
set_option linter.unusedVariables false
set_option linter.unusedSimpArgs false
theorem sm_nu {o : Ou} {n : Nat} (h : n ≤ 2147483647) : puts o [.sm (n : Int) 0] = puts o [.nu n] := by
  rw [← good_sm (n := (n : Int)) (least := 0) (by unfold badN; simp; omega)]
  simp
theorem all2 {x y : Value} (h1 : x.oneCell' = true) (h2 : y.oneCell' = true) : (#[x, y] : Array Value).all (·.oneCell') = true := by simp [h1, h2]
theorem all3 {x y z : Value} (h1 : x.oneCell' = true) (h2 : y.oneCell' = true) (h3 : z.oneCell' = true) : (#[x, y, z] : Array Value).all (·.oneCell') = true := by simp [h1, h2, h3]
theorem all4 {x y z u : Value} (h1 : x.oneCell' = true) (h2 : y.oneCell' = true) (h3 : z.oneCell' = true) (h4 : u.oneCell' = true) : (#[x, y, z, u] : Array Value).all (·.oneCell') = true := by simp [h1, h2, h3, h4]
theorem all5 {x y z u v : Value} (h1 : x.oneCell' = true) (h2 : y.oneCell' = true) (h3 : z.oneCell' = true) (h4 : u.oneCell' = true) (h5 : v.oneCell' = true) : (#[x, y, z, u, v] : Array Value).all (·.oneCell') = true := by simp [h1, h2, h3, h4, h5]
theorem case_0 {o : Ou} {c vv t : Int} : puts o ([] ++ [.sm 0 0] ++ [.sm c 0] ++ [.sm vv (-1)] ++ [.sm t 0]) = puts o (itCase ⟨false, c, vv, t⟩) := by
  show puts (put1 o (.sm 0 0)) _ = puts (put1 o (.nu 0)) _
  rfl
theorem case_1 {o : Ou} {c vv t : Int} : puts o ([] ++ [.sm 1 0] ++ [.sm c 0] ++ [.sm vv (-1)] ++ [.sm t 0]) = puts o (itCase ⟨true, c, vv, t⟩) := by
  show puts (put1 o (.sm 1 0)) _ = puts (put1 o (.nu 1)) _
  rfl
theorem flat_next {α : Type} {f : α → List It} {l : List α} {k : Nat} {x : α} {o o2 o3 : Ou} {ahead : List It} (h : o2 = puts o (ahead ++ (l.take k).flatMap f)) (hx : l[k]? = some x) (h3 : o3 = puts o2 (f x)) : o3 = puts o (ahead ++ (l.take (k + 1)).flatMap f) := by
  rw [puts_step h h3, take_flat f l hx, List.append_assoc]
theorem flat_sum {α : Type} {f : α → List It} {l : List α} {k : Nat} {x : α} (hx : l[k]? = some x) : ((l.take k).flatMap f).length + (f x).length ≤ (l.flatMap f).length := by
  have h1 := take_flat f l hx
  have h2 : l.flatMap f = (l.take (k + 1)).flatMap f ++ (l.drop (k + 1)).flatMap f := by rw [← List.flatMap_append, List.take_append_drop]
  rw [h2, h1]
  simp only [List.length_append]; omega
set_option maxHeartbeats 1000000 in
set_option maxRecDepth 100000 in
theorem selection_false (p B n : Nat) (o : Ou) (c vv t : Int) (w : World) (h : WR w p B o) (hn : n ≤ p) (i1 : i64 c) (i2 : i64 vv) (i3 : i64 t) (hb : o.1.length + 40 ≤ 1099511627776) :
    Calls Try.prog 110 #[.pointer (some ⟨p, 0, none⟩), .agg #[.bool false, .int .i64 c, .int .i64 vv, .int .i64 t]] w (WP p B o (itCase ⟨false, c, vv, t⟩) w) := by
  have i0 : i64 0 := by unfold i64; omega
  have HX := Lib.hid (h.far_new (.cells #[.bool false, .int .i64 c, .int .i64 vv, .int .i64 t] 60))
  have HF := Lib.hid (Kp.wf ((Kp.refl w).alloc (.cells #[.bool false, .int .i64 c, .int .i64 vv, .int .i64 t] 60)) h.lt)
  have HR := Lib.hid (heap_alloc_new w (.cells #[.bool false, .int .i64 c, .int .i64 vv, .int .i64 t] 60))
  have HO := Lib.hid (show o = puts o [] from rfl)
  have HW := Lib.hid (h.keep ((Kp.refl w).alloc (.cells #[.bool false, .int .i64 c, .int .i64 vv, .int .i64 t] 60)))
  clear h
  obtain ⟨c0, c1, c2, c3⟩ := row4 HR.out
  go_enter Try.func110, Try.ntmps110
  go_wp2_with (go_at_call 59; (with_reducible refine (c_integer p B _ _ _ _ HW.out (by omega) (by decide) (by assumption)).mono ?_); rintro e w1 ⟨rfl, o1, ho1, hl1, h1, h2⟩; simp only [List.length_cons, List.length_nil] at hl1; have HR := Lib.hid (h2.heap HR.out HX.out); have HX := Lib.hid (HX.out.wf h2); have HF := Lib.hid (HF.out.trans h2); have HO := Lib.hid (puts_step HO.out ho1.out); have HW := Lib.hid h1; clear h1 h2 ho1; obtain ⟨c0, c1, c2, c3⟩ := row4 HR.out)
  refine end_none (by rfl) (by rfl) (WP.of (HO.out.trans (case_0)) HW.out HF.out)
set_option maxHeartbeats 1000000 in
set_option maxRecDepth 100000 in
theorem selection_true (p B n : Nat) (o : Ou) (c vv t : Int) (w : World) (h : WR w p B o) (hn : n ≤ p) (i1 : i64 c) (i2 : i64 vv) (i3 : i64 t) (hb : o.1.length + 40 ≤ 1099511627776) :
    Calls Try.prog 110 #[.pointer (some ⟨p, 0, none⟩), .agg #[.bool true, .int .i64 c, .int .i64 vv, .int .i64 t]] w (WP p B o (itCase ⟨true, c, vv, t⟩) w) := by
  have i0 : i64 1 := by unfold i64; omega
  have HX := Lib.hid (h.far_new (.cells #[.bool true, .int .i64 c, .int .i64 vv, .int .i64 t] 60))
  have HF := Lib.hid (Kp.wf ((Kp.refl w).alloc (.cells #[.bool true, .int .i64 c, .int .i64 vv, .int .i64 t] 60)) h.lt)
  have HR := Lib.hid (heap_alloc_new w (.cells #[.bool true, .int .i64 c, .int .i64 vv, .int .i64 t] 60))
  have HO := Lib.hid (show o = puts o [] from rfl)
  have HW := Lib.hid (h.keep ((Kp.refl w).alloc (.cells #[.bool true, .int .i64 c, .int .i64 vv, .int .i64 t] 60)))
  clear h
  obtain ⟨c0, c1, c2, c3⟩ := row4 HR.out
  go_enter Try.func110, Try.ntmps110
  go_wp2_with (go_at_call 59; (with_reducible refine (c_integer p B _ _ _ _ HW.out (by omega) (by decide) (by assumption)).mono ?_); rintro e w1 ⟨rfl, o1, ho1, hl1, h1, h2⟩; simp only [List.length_cons, List.length_nil] at hl1; have HR := Lib.hid (h2.heap HR.out HX.out); have HX := Lib.hid (HX.out.wf h2); have HF := Lib.hid (HF.out.trans h2); have HO := Lib.hid (puts_step HO.out ho1.out); have HW := Lib.hid h1; clear h1 h2 ho1; obtain ⟨c0, c1, c2, c3⟩ := row4 HR.out)
  refine end_none (by rfl) (by rfl) (WP.of (HO.out.trans (case_1)) HW.out HF.out)
theorem c_selection (p B n : Nat) (o : Ou) (x : Cs) (w : World) (h : WR w p B o) (hn : n ≤ p) (i1 : i64 x.c) (i2 : i64 x.v) (i3 : i64 x.t) (hb : o.1.length + 10 * (itCase x).length ≤ 1099511627776) :
    Calls Try.prog 110 #[.pointer (some ⟨p, 0, none⟩), .agg #[.bool x.s, .int .i64 x.c, .int .i64 x.v, .int .i64 x.t]] w (WP p B o (itCase x) w) := by
  obtain ⟨s, c, v, t⟩ := x
  have hb : o.1.length + 40 ≤ 1099511627776 := hb
  cases s
  · exact selection_false p B n o c v t w h hn i1 i2 i3 hb
  · exact selection_true p B n o c v t w h hn i1 i2 i3 hb
set_option maxHeartbeats 1000000 in
set_option maxRecDepth 100000 in
theorem c_wshape (p B n : Nat) (o : Ou) (x : Sh) (v : Value) (w : World) (h : WR w p B o) (hn : n ≤ p) (hv : IL w (Und n) x.l v) (i0 : i64 x.k) (i1 : i64 x.r) (hb : o.1.length + 10 * (itSh x).length ≤ 1099511627776) :
    Calls Try.prog 60 #[.pointer (some ⟨p, 0, none⟩), .agg #[.int .i64 x.k, v, .int .i64 x.r]] w (WP p B o (itSh x) w) := by
  rw [show (itSh x).length = (itInts x.l).length + 2 by simp [itSh]] at hb
  have HX := Lib.hid (h.far_new (.cells #[.int .i64 x.k, v, .int .i64 x.r] 45))
  have HF := Lib.hid (Kp.wf ((Kp.refl w).alloc (.cells #[.int .i64 x.k, v, .int .i64 x.r] 45)) h.lt)
  have HR := Lib.hid (heap_alloc_new w (.cells #[.int .i64 x.k, v, .int .i64 x.r] 45))
  have HV := Lib.hid (hv.keep goodI ((Kp.refl w).alloc (.cells #[.int .i64 x.k, v, .int .i64 x.r] 45)))
  clear hv
  have HO := Lib.hid (show o = puts o [] from rfl)
  have HW := Lib.hid (h.keep ((Kp.refl w).alloc (.cells #[.int .i64 x.k, v, .int .i64 x.r] 45)))
  clear h
  obtain ⟨c0, c1, c2⟩ := row3 HR.out
  go_enter Try.func60, Try.ntmps60
  go_wp2_with (first | (go_at_call 59; (with_reducible refine (c_integer p B _ _ _ _ HW.out (by omega) (by decide) (by assumption)).mono ?_); rintro e w1 ⟨rfl, o1, ho1, hl1, h1, h2⟩; simp only [List.length_cons, List.length_nil] at hl1; have HR := Lib.hid (h2.heap HR.out HX.out); have HX := Lib.hid (HX.out.wf h2); have HF := Lib.hid (HF.out.trans h2); have HV := Lib.hid (HW.out.undR goodI hn HV.out h2); have HO := Lib.hid (puts_step HO.out ho1.out); have HW := Lib.hid h1; clear h1 h2 ho1; obtain ⟨c0, c1, c2⟩ := row3 HR.out) | (go_at_call 84; (with_reducible refine (c_integers p B n _ _ _ _ HW.out hn HV.out (by omega)).mono ?_); rintro e w1 ⟨rfl, o1, ho1, hl1, h1, h2⟩; (try simp only [List.length_cons, List.length_nil] at hl1); have HR := Lib.hid (h2.heap HR.out HX.out); have HX := Lib.hid (HX.out.wf h2); have HF := Lib.hid (HF.out.trans h2); have HV := Lib.hid (HW.out.undR goodI hn HV.out h2); have HO := Lib.hid (puts_step HO.out ho1.out); have HW := Lib.hid h1; clear h1 h2 ho1; obtain ⟨c0, c1, c2⟩ := row3 HR.out))
  refine end_none (by rfl) (by rfl) (WP.of (HO.out.trans ?_) HW.out HF.out)
  simp [itSh]
set_option maxHeartbeats 1000000 in
set_option maxRecDepth 100000 in
theorem c_instruction (p B n : Nat) (o : Ou) (y : Ins) (v : Value) (w : World) (h : WR w p B o) (hn : n ≤ p) (hv : CL w (Und n) y.cs v) (i0 : i64 y.o) (i1 : i64 y.a) (i2 : i64 y.b) (i3 : 0 ≤ y.n) (i4 : y.n ≤ 18446744073709551615) (hb : o.1.length + 10 * (itIns y).length ≤ 1099511627776) :
    Calls Try.prog 85 #[.pointer (some ⟨p, 0, none⟩), .agg #[.int .i64 y.o, .int .i64 y.a, .int .i64 y.b, .int .u64 y.n, v]] w (WP p B o (itIns y) w) := by
  obtain ⟨a, c, C, rfl, hlc, hby, hC, ht, hx⟩ := hv
  rw [show (itIns y).length = 5 + (y.cs.flatMap itCase).length by simp [itIns]; omega] at hb
  have b0 : i64 (y.cs.length : Int) := i64_lenB (b := 32) (by omega) hby
  have hcap : y.cs.length ≤ 140737488351232 := by omega
  have HT := Lib.hid ht
  have HXX := Lib.hid hx
  have HL := Lib.hid hlc
  have HY := Lib.hid hby
  have HW0 := Lib.hid h
  clear ht hx hC hlc hby
  have HX := Lib.hid (h.far_new (.cells #[.int .i64 y.o, .int .i64 y.a, .int .i64 y.b, .int .u64 y.n, .slice a y.cs.length c] 58))
  have HF := Lib.hid (Kp.wf ((Kp.refl w).alloc (.cells #[.int .i64 y.o, .int .i64 y.a, .int .i64 y.b, .int .u64 y.n, .slice a y.cs.length c] 58)) h.lt)
  have HR := Lib.hid (heap_alloc_new w (.cells #[.int .i64 y.o, .int .i64 y.a, .int .i64 y.b, .int .u64 y.n, .slice a y.cs.length c] 58))
  have HO := Lib.hid (show o = puts o [] from rfl)
  have HW := Lib.hid (h.keep ((Kp.refl w).alloc (.cells #[.int .i64 y.o, .int .i64 y.a, .int .i64 y.b, .int .u64 y.n, .slice a y.cs.length c] 58)))
  clear h
  obtain ⟨c0, c1, c2, c3, c4⟩ := row5 HR.out
  have HX0 := Lib.hid HX.out
  go_enter Try.func85, Try.ntmps85
  go_wp2_with (first | (go_at_call 59; (with_reducible refine (c_integer p B _ _ _ _ HW.out (by omega) (by decide) (by assumption)).mono ?_); rintro e w1 ⟨rfl, o1, ho1, hl1, h1, h2⟩; simp only [List.length_cons, List.length_nil] at hl1; have HR := Lib.hid (h2.heap HR.out HX.out); have HX := Lib.hid (HX.out.wf h2); have HF := Lib.hid (HF.out.trans h2); have HO := Lib.hid (puts_step HO.out ho1.out); have HW := Lib.hid h1; clear h1 h2 ho1; obtain ⟨c0, c1, c2, c3, c4⟩ := row5 HR.out) | (go_at_call 83; (with_reducible refine (c_numberI p B _ _ y.n.toNat _ HW.out (by omega) (by omega) (by omega)).mono ?_); rintro e w1 ⟨rfl, o1, ho1, hl1, h1, h2⟩; (try simp only [List.length_cons, List.length_nil] at hl1); have HR := Lib.hid (h2.heap HR.out HX.out); have HX := Lib.hid (HX.out.wf h2); have HF := Lib.hid (HF.out.trans h2); have HO := Lib.hid (puts_step HO.out ho1.out); have HW := Lib.hid h1; clear h1 h2 ho1; obtain ⟨c0, c1, c2, c3, c4⟩ := row5 HR.out))
  go_loopw [30] (fun i wr => ∃ (k : Nat) (o2 : Ou), k ≤ y.cs.length ∧ i = .int .i64 (k : Int) ∧ Hid (o2 = puts o ([.sm y.o 0, .sm y.a (-1), .sm y.b (-1), .nu y.n.toNat, lenI y.cs.length] ++ (y.cs.take k).flatMap itCase)) ∧ WR wr p B o2 ∧ WF p w wr) (fun i _ => y.cs.length - (intOf i).toNat)
  case atStart => exact ⟨0, _, by omega, rfl, Lib.hid (HO.out.trans (by simp [lenI])), HW.out, HF.out⟩
  case round =>
    obtain ⟨k, o2, hk, rfl, ho2, h1, h2⟩ := hrel
    have HA := Lib.hid h1
    have HG := Lib.hid h2
    clear h1 h2
    by_cases hlt : k < y.cs.length
    · obtain ⟨x, hxk⟩ : ∃ x, y.cs[k]? = some x := ⟨_, List.getElem?_eq_getElem hlt⟩
      have hsum := flat_sum (f := itCase) hxk
      have hl2 : o2.1.length ≤ o.1.length + 10 * ([.sm y.o 0, .sm y.a (-1), .sm y.b (-1), .nu y.n.toNat, lenI y.cs.length] ++ (y.cs.take k).flatMap itCase).length := by rw [ho2.out]; exact puts_len _ _
      have hah : ([.sm y.o 0, .sm y.a (-1), .sm y.b (-1), .nu y.n.toNat, lenI y.cs.length] ++ (y.cs.take k).flatMap itCase).length = 5 + ((y.cs.take k).flatMap itCase).length := by simp [itSh, itInts]; omega
      rw [hah] at hl2
      clear hah
      have hxx := HXX.out k x hxk
      obtain ⟨b, q, rfl, hr⟩ := (und_tab HT.out (HW0.out.und_rows hn) (HG.out)).at (by omega)
      have hrk := hr k hlt
      obtain ⟨hcx, ix1, ix2, ix3⟩ := hxx
      rw [hcx] at hrk
      clear hcx
      have HQ := Lib.hid hrk
      have HK := Lib.hid hxk
      clear hr hrk hxk
      go_wp2_with (first | ((with_reducible show wpList _ _ _ (⟨some 32, _, _, _, _, _⟩ :: _) _ _); refine wpList_index_tab (d := 32) _ _ _ rfl 60 Try.underlying56 4 rfl _ _ _ _ q (by rfl) rfl k (by rfl) hlt ?_) | ((with_reducible show wpList _ _ _ (⟨some 33, _, _, _, _, _⟩ :: _) _ _); refine wpList_load_range (d := 33) _ _ rfl _ Try.underlying60 wr _ _ _ _ (by rfl) rfl rfl _ HQ.out (Kp.refl wr) (by rfl) ?_) | ((with_reducible show wpList _ _ _ (⟨none, .store _ (.tmp 5) (.tmp 33), _, _, _, _⟩ :: _) _ _); refine wpList_store_new rfl 60 _ _ rfl wr _ _ (by rfl) (by rfl) (by first | rfl | simp) _ _ rfl (by rfl) (by rfl) (by first | exact all2 rfl rfl | exact all4 rfl rfl rfl rfl | exact all5 rfl rfl rfl rfl hone | exact all3 rfl hone rfl | exact all5 rfl hone1 hone2 rfl hone3 | exact all5 rfl rfl rfl rfl hony | exact all3 rfl hony rfl | exact all5 rfl hony1 hony2 rfl hony3) ?_; intro w4 hq4 hk4 hs4; have HB4 := Lib.hid (HA.out.keep hk4); have HF4 := Lib.hid (Kp.wf hk4 HA.out.lt); clear hk4; obtain ⟨d0, d1, d2, d3⟩ := row4 hq4; clear hq4) | (go_at_call 110; (with_reducible refine (c_selection p B n _ x _ HB4.out hn ix1 ix2 ix3 (by omega)).mono ?_); rintro e w5 ⟨rfl, o5, ho5, hl5, h1, h2⟩; have H5 := Lib.hid h1; have H6 := Lib.hid h2; clear h1 h2))
      go_roundw
      case rel => exact ⟨k + 1, o5, by omega, by go_num, Lib.hid (flat_next ho2.out HK.out ho5.out), H5.out, HG.out.trans (HF4.out.trans H6.out)⟩
      case measure => simp [intOf]; omega
    · go_wp2_with fail
      refine end_none (by rfl) (by rfl) (WP.of ?_ HA.out HG.out)
      rw [ho2.out, List.take_of_length_le (by omega)]
      rfl
set_option maxHeartbeats 1000000 in
set_option maxRecDepth 100000 in
theorem c_function (p B n : Nat) (o : Ou) (y : Fu) (v1 v2 v : Value) (w : World) (h : WR w p B o) (hn : n ≤ p) (hv1 : IL w (Und n) y.lo v1) (hv2 : IL w (Und n) y.ca v2) (hv : NL w (Und n) y.co v) (i0 : i64 y.p) (i1 : i64 y.r) (hb : o.1.length + 10 * (itFu y).length ≤ 1099511627776) :
    Calls Try.prog 61 #[.pointer (some ⟨p, 0, none⟩), .agg #[.int .i64 y.p, v1, v2, .int .i64 y.r, v]] w (WP p B o (itFu y) w) := by
  obtain ⟨a, c, C, rfl, hlc, hby, hC, ht, hx⟩ := hv
  rw [show (itFu y).length = 3 + (itInts y.lo).length + (itInts y.ca).length + (y.co.flatMap itIns).length by simp [itFu]; omega] at hb
  have b0 : i64 (y.co.length : Int) := i64_lenB (b := 56) (by omega) hby
  have hcap : y.co.length ≤ 140737488351232 := by omega
  have HT := Lib.hid ht
  have HXX := Lib.hid hx
  have HL := Lib.hid hlc
  have HY := Lib.hid hby
  have HW0 := Lib.hid h
  clear ht hx hC hlc hby
  have HX := Lib.hid (h.far_new (.cells #[.int .i64 y.p, v1, v2, .int .i64 y.r, .slice a y.co.length c] 51))
  have HF := Lib.hid (Kp.wf ((Kp.refl w).alloc (.cells #[.int .i64 y.p, v1, v2, .int .i64 y.r, .slice a y.co.length c] 51)) h.lt)
  have HR := Lib.hid (heap_alloc_new w (.cells #[.int .i64 y.p, v1, v2, .int .i64 y.r, .slice a y.co.length c] 51))
  have HV1 := Lib.hid (hv1.keep goodI ((Kp.refl w).alloc (.cells #[.int .i64 y.p, v1, v2, .int .i64 y.r, .slice a y.co.length c] 51)))
  clear hv1
  have HV2 := Lib.hid (hv2.keep goodI ((Kp.refl w).alloc (.cells #[.int .i64 y.p, v1, v2, .int .i64 y.r, .slice a y.co.length c] 51)))
  clear hv2
  have HO := Lib.hid (show o = puts o [] from rfl)
  have HW := Lib.hid (h.keep ((Kp.refl w).alloc (.cells #[.int .i64 y.p, v1, v2, .int .i64 y.r, .slice a y.co.length c] 51)))
  clear h
  obtain ⟨c0, c1, c2, c3, c4⟩ := row5 HR.out
  have HX0 := Lib.hid HX.out
  go_enter Try.func61, Try.ntmps61
  go_wp2_with (first | (go_at_call 59; (with_reducible refine (c_integer p B _ _ _ _ HW.out (by omega) (by decide) (by assumption)).mono ?_); rintro e w1 ⟨rfl, o1, ho1, hl1, h1, h2⟩; simp only [List.length_cons, List.length_nil] at hl1; have HR := Lib.hid (h2.heap HR.out HX.out); have HX := Lib.hid (HX.out.wf h2); have HF := Lib.hid (HF.out.trans h2); have HV1 := Lib.hid (HW.out.undR goodI hn HV1.out h2); have HV2 := Lib.hid (HW.out.undR goodI hn HV2.out h2); have HO := Lib.hid (puts_step HO.out ho1.out); have HW := Lib.hid h1; clear h1 h2 ho1; obtain ⟨c0, c1, c2, c3, c4⟩ := row5 HR.out) | (go_at_call 84; (with_reducible refine (c_integers p B n _ y.lo v1 _ HW.out hn HV1.out (by omega)).mono ?_); rintro e w1 ⟨rfl, o1, ho1, hl1, h1, h2⟩; (try simp only [List.length_cons, List.length_nil] at hl1); have HR := Lib.hid (h2.heap HR.out HX.out); have HX := Lib.hid (HX.out.wf h2); have HF := Lib.hid (HF.out.trans h2); have HV1 := Lib.hid (HW.out.undR goodI hn HV1.out h2); have HV2 := Lib.hid (HW.out.undR goodI hn HV2.out h2); have HO := Lib.hid (puts_step HO.out ho1.out); have HW := Lib.hid h1; clear h1 h2 ho1; obtain ⟨c0, c1, c2, c3, c4⟩ := row5 HR.out) | (go_at_call 84; (with_reducible refine (c_integers p B n _ y.ca v2 _ HW.out hn HV2.out (by omega)).mono ?_); rintro e w1 ⟨rfl, o1, ho1, hl1, h1, h2⟩; (try simp only [List.length_cons, List.length_nil] at hl1); have HR := Lib.hid (h2.heap HR.out HX.out); have HX := Lib.hid (HX.out.wf h2); have HF := Lib.hid (HF.out.trans h2); have HV1 := Lib.hid (HW.out.undR goodI hn HV1.out h2); have HV2 := Lib.hid (HW.out.undR goodI hn HV2.out h2); have HO := Lib.hid (puts_step HO.out ho1.out); have HW := Lib.hid h1; clear h1 h2 ho1; obtain ⟨c0, c1, c2, c3, c4⟩ := row5 HR.out))
  go_loopw [30] (fun i wr => ∃ (k : Nat) (o2 : Ou), k ≤ y.co.length ∧ i = .int .i64 (k : Int) ∧ Hid (o2 = puts o ((.sm y.p 0 :: (itInts y.lo ++ (itInts y.ca ++ [.sm y.r 0, lenI y.co.length]))) ++ (y.co.take k).flatMap itIns)) ∧ WR wr p B o2 ∧ WF p w wr) (fun i _ => y.co.length - (intOf i).toNat)
  case atStart => exact ⟨0, _, by omega, rfl, Lib.hid (HO.out.trans (by simp [lenI])), HW.out, HF.out⟩
  case round =>
    obtain ⟨k, o2, hk, rfl, ho2, h1, h2⟩ := hrel
    have HA := Lib.hid h1
    have HG := Lib.hid h2
    clear h1 h2
    by_cases hlt : k < y.co.length
    · obtain ⟨x, hxk⟩ : ∃ x, y.co[k]? = some x := ⟨_, List.getElem?_eq_getElem hlt⟩
      have hsum := flat_sum (f := itIns) hxk
      have hl2 : o2.1.length ≤ o.1.length + 10 * ((.sm y.p 0 :: (itInts y.lo ++ (itInts y.ca ++ [.sm y.r 0, lenI y.co.length]))) ++ (y.co.take k).flatMap itIns).length := by rw [ho2.out]; exact puts_len _ _
      have hah : ((.sm y.p 0 :: (itInts y.lo ++ (itInts y.ca ++ [.sm y.r 0, lenI y.co.length]))) ++ (y.co.take k).flatMap itIns).length = (3 + (itInts y.lo).length + (itInts y.ca).length) + ((y.co.take k).flatMap itIns).length := by simp [itSh, itInts]; omega
      rw [hah] at hl2
      clear hah
      have hxx := HXX.out k x hxk
      obtain ⟨b, q, rfl, hr⟩ := (und_tab HT.out (HW0.out.und_rows hn) (HG.out)).at (by omega)
      have hrk := hr k hlt
      obtain ⟨v, hcx, hcl, ix1, ix2, ix3, ix4, ix5⟩ := hxx
      rw [hcx] at hrk
      have hone := hcl.one
      have HC := Lib.hid (hcl.turn goodC HG.out.fr HG.out.sz (fun b _ (hb : b < n) e => by have := HW0.out.und_rows hn b e; omega))
      clear hcx hcl
      have HQ := Lib.hid hrk
      have HK := Lib.hid hxk
      clear hr hrk hxk
      go_wp2_with (first | ((with_reducible show wpList _ _ _ (⟨some 32, _, _, _, _, _⟩ :: _) _ _); refine wpList_index_tab (d := 32) _ _ _ rfl 58 Try.underlying49 5 rfl _ _ _ _ q (by rfl) rfl k (by rfl) hlt ?_) | ((with_reducible show wpList _ _ _ (⟨some 33, _, _, _, _, _⟩ :: _) _ _); refine wpList_load_range (d := 33) _ _ rfl _ Try.underlying58 wr _ _ _ _ (by rfl) rfl rfl _ HQ.out (Kp.refl wr) (by rfl) ?_) | ((with_reducible show wpList _ _ _ (⟨none, .store _ (.tmp 5) (.tmp 33), _, _, _, _⟩ :: _) _ _); refine wpList_store_new rfl 58 _ _ rfl wr _ _ (by rfl) (by rfl) (by first | rfl | simp) _ _ rfl (by rfl) (by rfl) (by first | exact all2 rfl rfl | exact all4 rfl rfl rfl rfl | exact all5 rfl rfl rfl rfl hone | exact all3 rfl hone rfl | exact all5 rfl hone1 hone2 rfl hone3 | exact all5 rfl rfl rfl rfl hony | exact all3 rfl hony rfl | exact all5 rfl hony1 hony2 rfl hony3) ?_; intro w4 hq4 hk4 hs4; have HB4 := Lib.hid (HA.out.keep hk4); have HF4 := Lib.hid (Kp.wf hk4 HA.out.lt); have HC4 := Lib.hid (HC.out.keep goodC hk4); clear hk4; obtain ⟨d0, d1, d2, d3, d4⟩ := row5 hq4; clear hq4) | (go_at_call 85; (with_reducible refine (c_instruction p B n _ x v _ HB4.out hn HC4.out ix1 ix2 ix3 ix4 ix5 (by omega)).mono ?_); rintro e w5 ⟨rfl, o5, ho5, hl5, h1, h2⟩; have H5 := Lib.hid h1; have H6 := Lib.hid h2; clear h1 h2))
      go_roundw
      case rel => exact ⟨k + 1, o5, by omega, by go_num, Lib.hid (flat_next ho2.out HK.out ho5.out), H5.out, HG.out.trans (HF4.out.trans H6.out)⟩
      case measure => simp [intOf]; omega
    · go_wp2_with fail
      refine end_none (by rfl) (by rfl) (WP.of ?_ HA.out HG.out)
      rw [ho2.out, List.take_of_length_le (by omega)]
      simp [itFu]
set_option maxHeartbeats 1000000 in
set_option maxRecDepth 100000 in
theorem c_module (p B n : Nat) (o : Ou) (y : Mo) (v1 v2 : Value) (w : World) (h : WR w p B o) (hn : n ≤ p) (hv1 : SL w (Und n) y.ty v1) (hv2 : FL w (Und n) y.fu v2) (hb : o.1.length + 10 * (itMo y).length ≤ 1099511627776) :
    Calls Try.prog 43 #[.pointer (some ⟨p, 0, none⟩), .agg #[v1, v2]] w (WP p B o (itMo y) w) := by
  obtain ⟨a1, q1, C1, rfl, hlc1, hby1, hC1, ht1, hx1⟩ := hv1
  obtain ⟨a2, q2, C2, rfl, hlc2, hby2, hC2, ht2, hx2⟩ := hv2
  rw [show (itMo y).length = 2 + (y.ty.flatMap itSh).length + (y.fu.flatMap itFu).length by simp [itMo]; omega] at hb
  have b0 : i64 (y.ty.length : Int) := i64_lenB (b := 40) (by omega) hby1
  have hcap1 : y.ty.length ≤ 140737488351232 := by omega
  have b1 : i64 (y.fu.length : Int) := i64_lenB (b := 88) (by omega) hby2
  have hcap2 : y.fu.length ≤ 140737488351232 := by omega
  have HT1 := Lib.hid ht1
  have HXX1 := Lib.hid hx1
  have HL1 := Lib.hid hlc1
  have HY1 := Lib.hid hby1
  have HT2 := Lib.hid ht2
  have HXX2 := Lib.hid hx2
  have HL2 := Lib.hid hlc2
  have HY2 := Lib.hid hby2
  have HW0 := Lib.hid h
  clear ht1 hx1 hC1 hlc1 hby1 ht2 hx2 hC2 hlc2 hby2
  have HX := Lib.hid (h.far_new (.cells #[.slice a1 y.ty.length q1, .slice a2 y.fu.length q2] 25))
  have HF := Lib.hid (Kp.wf ((Kp.refl w).alloc (.cells #[.slice a1 y.ty.length q1, .slice a2 y.fu.length q2] 25)) h.lt)
  have HR := Lib.hid (heap_alloc_new w (.cells #[.slice a1 y.ty.length q1, .slice a2 y.fu.length q2] 25))
  have HO := Lib.hid (show o = puts o [] from rfl)
  have HW := Lib.hid (h.keep ((Kp.refl w).alloc (.cells #[.slice a1 y.ty.length q1, .slice a2 y.fu.length q2] 25)))
  clear h
  obtain ⟨c0, c1⟩ := row2 HR.out
  go_enter Try.func43, Try.ntmps43
  go_wp2_with ((go_at_call 59; (with_reducible refine (c_integer p B _ _ _ _ HW.out (by omega) (by decide) (by assumption)).mono ?_); rintro e w1 ⟨rfl, o1, ho1, hl1, h1, h2⟩; simp only [List.length_cons, List.length_nil] at hl1; have HR := Lib.hid (h2.heap HR.out HX.out); have HX := Lib.hid (HX.out.wf h2); have HF := Lib.hid (HF.out.trans h2); have HO := Lib.hid (puts_step HO.out ho1.out); have HW := Lib.hid h1; clear h1 h2 ho1; obtain ⟨c0, c1⟩ := row2 HR.out))
  go_loopw [16] (fun i wr => ∃ (k : Nat) (o2 : Ou), k ≤ y.ty.length ∧ i = .int .i64 (k : Int) ∧ Hid (o2 = puts o ([lenI y.ty.length] ++ (y.ty.take k).flatMap itSh)) ∧ WR wr p B o2 ∧ WF p w wr ∧ wr.heap[w.heap.size]? = some (.cells #[.slice a1 y.ty.length q1, .slice a2 y.fu.length q2] 25 (0, 0)) ∧ Far wr p w.heap.size) (fun i _ => y.ty.length - (intOf i).toNat)
  case atStart => exact ⟨0, _, by omega, rfl, Lib.hid (HO.out.trans (by simp [lenI])), HW.out, HF.out, HR.out, HX.out⟩
  case round =>
    obtain ⟨k, o2, hk, rfl, ho2, h1, h2, hrr, hfa⟩ := hrel
    have HA := Lib.hid h1
    have HG := Lib.hid h2
    clear h1 h2
    have HRR := Lib.hid hrr
    have HFA := Lib.hid hfa
    obtain ⟨e0, e1⟩ := row2 HRR.out
    clear hrr hfa
    by_cases hlt : k < y.ty.length
    · obtain ⟨x, hxk⟩ : ∃ x, y.ty[k]? = some x := ⟨_, List.getElem?_eq_getElem hlt⟩
      have hsum := flat_sum (f := itSh) hxk
      have hl2 : o2.1.length ≤ o.1.length + 10 * ([lenI y.ty.length] ++ (y.ty.take k).flatMap itSh).length := by rw [ho2.out]; exact puts_len _ _
      have hah : ([lenI y.ty.length] ++ (y.ty.take k).flatMap itSh).length = 1 + ((y.ty.take k).flatMap itSh).length := by simp [itSh, itInts]; omega
      rw [hah] at hl2
      clear hah
      have hxx := HXX1.out k x hxk
      obtain ⟨b, q, rfl, hr⟩ := (und_tab HT1.out (HW0.out.und_rows hn) (HG.out)).at (by omega)
      have hrk := hr k hlt
      obtain ⟨v, hcx, hcl, ix1, ix2⟩ := hxx
      rw [hcx] at hrk
      have hone := hcl.one
      have HC := Lib.hid (hcl.turn goodI HG.out.fr HG.out.sz (fun b _ (hb : b < n) e => by have := HW0.out.und_rows hn b e; omega))
      clear hcx hcl
      have HQ := Lib.hid hrk
      have HK := Lib.hid hxk
      clear hr hrk hxk
      go_wp2_with (first | ((with_reducible show wpList _ _ _ (⟨some 18, _, _, _, _, _⟩ :: _) _ _); refine wpList_index_tab (d := 18) _ _ _ rfl 45 Try.underlying22 3 rfl _ _ _ _ q (by rfl) rfl k (by rfl) hlt ?_) | ((with_reducible show wpList _ _ _ (⟨some 19, _, _, _, _, _⟩ :: _) _ _); refine wpList_load_range (d := 19) _ _ rfl _ Try.underlying45 wr _ _ _ _ (by rfl) rfl rfl _ HQ.out (Kp.refl wr) (by rfl) ?_) | ((with_reducible show wpList _ _ _ (⟨none, .store _ (.tmp 5) (.tmp 19), _, _, _, _⟩ :: _) _ _); refine wpList_store_new rfl 45 _ _ rfl wr _ _ (by rfl) (by rfl) (by first | rfl | simp) _ _ rfl (by rfl) (by rfl) (by first | exact all2 rfl rfl | exact all4 rfl rfl rfl rfl | exact all5 rfl rfl rfl rfl hone | exact all3 rfl hone rfl | exact all5 rfl hone1 hone2 rfl hone3 | exact all5 rfl rfl rfl rfl hony | exact all3 rfl hony rfl | exact all5 rfl hony1 hony2 rfl hony3) ?_; intro w4 hq4 hk4 hs4; have HB4 := Lib.hid (HA.out.keep hk4); have HF4 := Lib.hid (Kp.wf hk4 HA.out.lt); have HC4 := Lib.hid (HC.out.keep goodI hk4); have HK4 := Lib.hid hk4; clear hk4; obtain ⟨d0, d1, d2⟩ := row3 hq4; clear hq4) | (go_at_call 60; (with_reducible refine (c_wshape p B n _ x v _ HB4.out hn HC4.out ix1 ix2 (by omega)).mono ?_); rintro e w5 ⟨rfl, o5, ho5, hl5, h1, h2⟩; have H5 := Lib.hid h1; have H6 := Lib.hid h2; clear h1 h2))
      go_roundw
      case rel => exact ⟨k + 1, o5, by omega, by go_num, Lib.hid (flat_next ho2.out HK.out ho5.out), H5.out, HG.out.trans (HF4.out.trans H6.out), H6.out.heap (row_keep HK4.out HRR.out) (HFA.out.wf HF4.out), (HFA.out.wf HF4.out).wf H6.out⟩
      case measure => simp [intOf]; omega
    · have HR := Lib.hid HRR.out
      have HX := Lib.hid HFA.out
      have HF := Lib.hid HG.out
      have HO := Lib.hid (show o2 = puts o ([lenI y.ty.length] ++ y.ty.flatMap itSh) by rw [ho2.out, List.take_of_length_le (by omega)])
      have HW := Lib.hid HA.out
      have hl2 : o2.1.length ≤ o.1.length + 10 * ([lenI y.ty.length] ++ y.ty.flatMap itSh).length := by rw [HO.out]; exact puts_len _ _
      rw [show ([lenI y.ty.length] ++ y.ty.flatMap itSh).length = 1 + (y.ty.flatMap itSh).length by simp; omega] at hl2
      clear HRR HFA HG HA ho2 e0 e1
      obtain ⟨c0, c1'⟩ := row2 HR.out
      go_wp2_with ((go_at_call 59; (with_reducible refine (c_integer p B _ _ _ _ HW.out (by omega) (by decide) (by assumption)).mono ?_); rintro e w1 ⟨rfl, o1, ho1, hl1, h1, h2⟩; simp only [List.length_cons, List.length_nil] at hl1; have HR := Lib.hid (h2.heap HR.out HX.out); have HX := Lib.hid (HX.out.wf h2); have HF := Lib.hid (HF.out.trans h2); have HO := Lib.hid (puts_step HO.out ho1.out); have HW := Lib.hid h1; clear h1 h2 ho1; obtain ⟨c0, c1'⟩ := row2 HR.out))
      go_loopw [32] (fun i wr => ∃ (k : Nat) (o2 : Ou), k ≤ y.fu.length ∧ i = .int .i64 (k : Int) ∧ Hid (o2 = puts o (([lenI y.ty.length] ++ y.ty.flatMap itSh ++ [lenI y.fu.length]) ++ (y.fu.take k).flatMap itFu)) ∧ WR wr p B o2 ∧ WF p w wr) (fun i _ => y.fu.length - (intOf i).toNat)
      case atStart => exact ⟨0, _, by omega, rfl, Lib.hid (HO.out.trans (by simp [lenI])), HW.out, HF.out⟩
      case round =>
        obtain ⟨k, o2, hk, rfl, ho2, h1, h2⟩ := hrel
        have HA := Lib.hid h1
        have HG := Lib.hid h2
        clear h1 h2
        by_cases hlt : k < y.fu.length
        · obtain ⟨x, hxk⟩ : ∃ x, y.fu[k]? = some x := ⟨_, List.getElem?_eq_getElem hlt⟩
          have hsum := flat_sum (f := itFu) hxk
          have hl2 : o2.1.length ≤ o.1.length + 10 * (([lenI y.ty.length] ++ y.ty.flatMap itSh ++ [lenI y.fu.length]) ++ (y.fu.take k).flatMap itFu).length := by rw [ho2.out]; exact puts_len _ _
          have hah : (([lenI y.ty.length] ++ y.ty.flatMap itSh ++ [lenI y.fu.length]) ++ (y.fu.take k).flatMap itFu).length = (2 + (y.ty.flatMap itSh).length) + ((y.fu.take k).flatMap itFu).length := by simp [itSh, itInts]; omega
          rw [hah] at hl2
          clear hah
          have hxx := HXX2.out k x hxk
          obtain ⟨b, q, rfl, hr⟩ := (und_tab HT2.out (HW0.out.und_rows hn) (HG.out)).at (by omega)
          have hrk := hr k hlt
          obtain ⟨v1, v2, v3, hcx, hcl, hcm, hco, ix1, ix2⟩ := hxx
          rw [hcx] at hrk
          have hone1 := hcl.one
          have hone2 := hcm.one
          have hone3 := hco.one
          have HC1 := Lib.hid (hcl.turn goodI HG.out.fr HG.out.sz (fun b _ (hb : b < n) e => by have := HW0.out.und_rows hn b e; omega))
          have HC2 := Lib.hid (hcm.turn goodI HG.out.fr HG.out.sz (fun b _ (hb : b < n) e => by have := HW0.out.und_rows hn b e; omega))
          have HC3 := Lib.hid (hco.turn goodN HG.out.fr HG.out.sz (fun b _ (hb : b < n) e => by have := HW0.out.und_rows hn b e; omega))
          clear hcx hcl hcm hco
          have HQ := Lib.hid hrk
          have HK := Lib.hid hxk
          clear hr hrk hxk
          go_wp2_with (first | ((with_reducible show wpList _ _ _ (⟨some 34, _, _, _, _, _⟩ :: _) _ _); refine wpList_index_tab (d := 34) _ _ _ rfl 51 Try.underlying23 5 rfl _ _ _ _ q (by rfl) rfl k (by rfl) hlt ?_) | ((with_reducible show wpList _ _ _ (⟨some 35, _, _, _, _, _⟩ :: _) _ _); refine wpList_load_range (d := 35) _ _ rfl _ Try.underlying51 wr _ _ _ _ (by rfl) rfl rfl _ HQ.out (Kp.refl wr) (by rfl) ?_) | ((with_reducible show wpList _ _ _ (⟨none, .store _ (.tmp 7) (.tmp 35), _, _, _, _⟩ :: _) _ _); refine wpList_store_new rfl 51 _ _ rfl wr _ _ (by rfl) (by rfl) (by first | rfl | simp) _ _ rfl (by rfl) (by rfl) (by first | exact all2 rfl rfl | exact all4 rfl rfl rfl rfl | exact all5 rfl rfl rfl rfl hone | exact all3 rfl hone rfl | exact all5 rfl hone1 hone2 rfl hone3 | exact all5 rfl rfl rfl rfl hony | exact all3 rfl hony rfl | exact all5 rfl hony1 hony2 rfl hony3) ?_; intro w4 hq4 hk4 hs4; have HB4 := Lib.hid (HA.out.keep hk4); have HF4 := Lib.hid (Kp.wf hk4 HA.out.lt); have HC41 := Lib.hid (HC1.out.keep goodI hk4); have HC42 := Lib.hid (HC2.out.keep goodI hk4); have HC43 := Lib.hid (HC3.out.keep goodN hk4); clear hk4; obtain ⟨d0, d1, d2, d3, d4⟩ := row5 hq4; clear hq4) | (go_at_call 61; (with_reducible refine (c_function p B n _ x v1 v2 v3 _ HB4.out hn HC41.out HC42.out HC43.out ix1 ix2 (by omega)).mono ?_); rintro e w5 ⟨rfl, o5, ho5, hl5, h1, h2⟩; have H5 := Lib.hid h1; have H6 := Lib.hid h2; clear h1 h2))
          go_roundw
          case rel => exact ⟨k + 1, o5, by omega, by go_num, Lib.hid (flat_next ho2.out HK.out ho5.out), H5.out, HG.out.trans (HF4.out.trans H6.out)⟩
          case measure => simp [intOf]; omega
        · go_wp2_with fail
          refine end_none (by rfl) (by rfl) (WP.of ?_ HA.out HG.out)
          rw [ho2.out, List.take_of_length_le (by omega)]
          simp [itMo]
end Go.Proofs.Ytkkcoaecidjecaa
