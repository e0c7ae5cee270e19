/- Same of the reference. Condition: both modules lie in memory. -/
import Derived.Test.YtlhiaompcgdmfaaS2
namespace Go.Proofs.Ytlhiaompcgdmfaa
open Go.RowKit
set_option linter.unusedVariables false
set_option linter.unusedSimpArgs false
set_option maxHeartbeats 3200000 in
set_option maxRecDepth 100000 in
theorem c_rSame (x y : Mo) (cx cy : List Value) (w : World) (hx : LM w A0 x cx) (hy : LM w A0 y cy) :
    Calls Try.prog 20 #[.agg cx.toArray, .agg cy.toArray] w (Tell (sameMo x y) w) := by
  obtain ⟨_, _, rfl, ⟨a1, n1, C1, rfl, _, hba1, _, hta1, hxa1⟩, ⟨a2, n2, C2, rfl, _, hba2, _, hta2, hxa2⟩⟩ := hx
  obtain ⟨_, _, rfl, ⟨b1, m1, D1, rfl, _, hbb1, _, htb1, hxb1⟩, ⟨b2, m2, D2, rfl, _, hbb2, _, htb2, hxb2⟩⟩ := hy
  have hc1 : x.ty.length ≤ 140737488351232 := by omega
  have hc2 : x.fu.length ≤ 140737488351232 := by omega
  have hc1' : y.ty.length ≤ 140737488351232 := by omega
  have hc2' : y.fu.length ≤ 140737488351232 := by omega
  have HK0 := Lib.hid (((Kp.refl w).alloc (.cells #[.slice a1 x.ty.length n1, .slice a2 x.fu.length n2] 25)).alloc (.cells #[.slice b1 y.ty.length m1, .slice b2 y.fu.length m2] 25))
  have HR0 := Lib.hid (row_keep ((Kp.refl _).alloc (.cells #[.slice b1 y.ty.length m1, .slice b2 y.fu.length m2] 25)) (heap_alloc_new w (.cells #[.slice a1 x.ty.length n1, .slice a2 x.fu.length n2] 25)))
  have HR1 := Lib.hid (show ((w.alloc (.cells #[.slice a1 x.ty.length n1, .slice a2 x.fu.length n2] 25)).alloc (.cells #[.slice b1 y.ty.length m1, .slice b2 y.fu.length m2] 25)).heap[w.heap.size + 1]? = some (.cells #[.slice b1 y.ty.length m1, .slice b2 y.fu.length m2] 25 (0, 0)) by simpa using heap_alloc_new (w.alloc (.cells #[.slice a1 x.ty.length n1, .slice a2 x.fu.length n2] 25)) (.cells #[.slice b1 y.ty.length m1, .slice b2 y.fu.length m2] 25))
  have HT1 := Lib.hid hta1
  have HX1 := Lib.hid hxa1
  have HT2 := Lib.hid hta2
  have HX2 := Lib.hid hxa2
  have HU1 := Lib.hid htb1
  have HY1 := Lib.hid hxb1
  have HU2 := Lib.hid htb2
  have HY2 := Lib.hid hxb2
  clear hba1 hta1 hxa1 hba2 hta2 hxa2 hbb1 htb1 hxb1 hbb2 htb2 hxb2
  obtain ⟨p0, p1⟩ := row2 HR0.out
  obtain ⟨q0, q1⟩ := row2 HR1.out
  by_cases hl1 : x.ty.length = y.ty.length
  rotate_left
  · have HL := Lib.hid hl1
    have hd : ((x.ty.length : Int) != (y.ty.length : Int)) = true := by simp; omega
    clear hl1
    go_enter Try.func20, Try.ntmps20
    go_wp2_with fail
    go_ret
    exact tell (by simp [sameMo, sameL_len HL.out]) HK0.out
  have HL1 := Lib.hid hl1
  have hd1 : ((x.ty.length : Int) != (y.ty.length : Int)) = false := by simp [hl1]
  clear hl1
  by_cases hl2 : x.fu.length = y.fu.length
  rotate_left
  · have HL := Lib.hid hl2
    have hd : ((x.fu.length : Int) != (y.fu.length : Int)) = true := by simp; omega
    clear hl2
    go_enter Try.func20, Try.ntmps20
    go_wp2_with fail
    go_ret
    exact tell (by simp [sameMo, sameL_len HL.out]) HK0.out
  have HL2 := Lib.hid hl2
  have hd2 : ((x.fu.length : Int) != (y.fu.length : Int)) = false := by simp [hl2]
  clear hl2
  go_enter Try.func20, Try.ntmps20
  go_wp2_with fail
  go_loopw [5] (fun i wr => ∃ k : Nat, k ≤ x.ty.length ∧ i = .int .i64 (k : Int) ∧ (∀ j z u, j < k → x.ty[j]? = some z → y.ty[j]? = some u → sameSh z u = true) ∧ Kp ((w.alloc (.cells #[.slice a1 x.ty.length n1, .slice a2 x.fu.length n2] 25)).alloc (.cells #[.slice b1 y.ty.length m1, .slice b2 y.fu.length m2] 25)) wr) (fun i _ => x.ty.length - (intOf i).toNat)
  case atStart => exact ⟨0, by omega, rfl, fun j x y h => by omega, Kp.refl _⟩
  case round =>
    obtain ⟨k, hk, rfl, hall, hkp⟩ := hrel
    have HA := Lib.hid hall
    have HK := Lib.hid hkp
    clear hall hkp p0 p1 q0 q1
    obtain ⟨p0, p1⟩ := row2 (row_keep HK.out HR0.out)
    obtain ⟨q0, q1⟩ := row2 (row_keep HK.out HR1.out)
    by_cases hlt : k < x.ty.length
    · have hlt2 : k < y.ty.length := by have := HL1.out; omega
      obtain ⟨z, hzk⟩ : ∃ z, x.ty[k]? = some z := ⟨_, List.getElem?_eq_getElem hlt⟩
      obtain ⟨u, huk⟩ : ∃ u, y.ty[k]? = some u := ⟨_, List.getElem?_eq_getElem hlt2⟩
      obtain ⟨b, p, rfl, hr⟩ := (HT1.out.keep (HK0.out.trans HK.out)).at (by omega)
      obtain ⟨c, q, rfl, hs⟩ := (HU1.out.keep (HK0.out.trans HK.out)).at (by omega)
      have hrx := hr k hlt
      have hry := hs k hlt2
      have HLX := Lib.hid (goodS.keep (HX1.out k z hzk) (HK0.out.trans HK.out))
      have HLY := Lib.hid (goodS.keep (HY1.out k u huk) (HK0.out.trans HK.out))
      obtain ⟨Vz, hcz, _⟩ := HLX.out
      obtain ⟨Vu, hcu, _⟩ := HLY.out
      rw [hcz] at hrx
      rw [hcu] at hry
      have HLX2 := Lib.hid (show LS wr A0 z [.int .i64 z.k, Vz, .int .i64 z.r] by rw [← hcz]; exact HLX.out)
      have HLY2 := Lib.hid (show LS wr A0 u [.int .i64 u.k, Vu, .int .i64 u.r] by rw [← hcu]; exact HLY.out)
      obtain ⟨d0, d1, d2⟩ := range3 hrx
      obtain ⟨f0, f1, f2⟩ := range3 hry
      have i0 := run_index_tab 22 48 Try.underlying22 3 (by kernel_rfl) b p x.ty.length n1 k hlt
      have i1 := run_index_tab 22 48 Try.underlying22 3 (by kernel_rfl) c q y.ty.length m1 k hlt2
      have HXK := Lib.hid hzk
      have HYK := Lib.hid huk
      have hkeep := Lib.hid (fun (W' : World) (hk : Kp wr W') => (⟨hk.cellv p0, hk.cellv q0, hk.cellv d0, hk.cellv d1, hk.cellv d2, hk.cellv f0, hk.cellv f1, hk.cellv f2⟩ : (fun w' : World => w'.cell? ⟨w.heap.size, 0, none⟩ = some (.slice (some ⟨b, p, none⟩) x.ty.length n1) ∧ w'.cell? ⟨w.heap.size + 1, 0, none⟩ = some (.slice (some ⟨c, q, none⟩) y.ty.length m1) ∧ w'.cell? ⟨b, p + k * 3, none⟩ = some (.int .i64 z.k) ∧ w'.cell? ⟨b, p + k * 3 + 1, none⟩ = some (Vz) ∧ w'.cell? ⟨b, p + k * 3 + 2, none⟩ = some (.int .i64 z.r) ∧ w'.cell? ⟨c, q + k * 3, none⟩ = some (.int .i64 u.k) ∧ w'.cell? ⟨c, q + k * 3 + 1, none⟩ = some (Vu) ∧ w'.cell? ⟨c, q + k * 3 + 2, none⟩ = some (.int .i64 u.r)) W'))
      clear hr hs hrx hry hzk huk hcz hcu HLX HLY
      cases hxy : sameSh z u with
      | true =>
        have HXY := Lib.hid hxy
        clear hxy
        go_wp2_with fail
        go_region_held3 (fun w' : World => w'.cell? ⟨w.heap.size, 0, none⟩ = some (.slice (some ⟨b, p, none⟩) x.ty.length n1) ∧ w'.cell? ⟨w.heap.size + 1, 0, none⟩ = some (.slice (some ⟨c, q, none⟩) y.ty.length m1) ∧ w'.cell? ⟨b, p + k * 3, none⟩ = some (.int .i64 z.k) ∧ w'.cell? ⟨b, p + k * 3 + 1, none⟩ = some (Vz) ∧ w'.cell? ⟨b, p + k * 3 + 2, none⟩ = some (.int .i64 z.r) ∧ w'.cell? ⟨c, q + k * 3, none⟩ = some (.int .i64 u.k) ∧ w'.cell? ⟨c, q + k * 3 + 1, none⟩ = some (Vu) ∧ w'.cell? ⟨c, q + k * 3 + 2, none⟩ = some (.int .i64 u.r))
          (first | exact hkeep.out _ (by (repeat (first | with_reducible exact Kp.refl _ | with_reducible refine Kp.alloc ?_ _ | with_reducible refine Kp.drew ?_ | with_reducible refine Kp.back (by assumption) ?_))))
          ((go_at_call 25; (with_reducible refine (c_SameShape z u _ _ _ (goodS.keep HLX2.out (by (repeat (first | with_reducible exact Kp.refl _ | with_reducible refine Kp.alloc ?_ _ | with_reducible refine Kp.drew ?_ | with_reducible refine Kp.back (by assumption) ?_)))) (goodS.keep HLY2.out (by (repeat (first | with_reducible exact Kp.refl _ | with_reducible refine Kp.alloc ?_ _ | with_reducible refine Kp.drew ?_ | with_reducible refine Kp.back (by assumption) ?_))))).mono ?_); rintro e w6 ⟨rfl, hk6⟩; rw [HXY.out]))
        go_wp2_with fail
        go_roundw
        case rel => exact ⟨k + 1, by omega, by go_num, all_next HA.out HXK.out HYK.out HXY.out, HK.out.trans (by (repeat (first | with_reducible exact Kp.refl _ | with_reducible refine Kp.alloc ?_ _ | with_reducible refine Kp.drew ?_ | with_reducible refine Kp.back (by assumption) ?_)))⟩
        case measure => simp [intOf]; omega
      | false =>
        have HXY := Lib.hid hxy
        clear hxy
        go_wp2_with fail
        go_region_held3 (fun w' : World => w'.cell? ⟨w.heap.size, 0, none⟩ = some (.slice (some ⟨b, p, none⟩) x.ty.length n1) ∧ w'.cell? ⟨w.heap.size + 1, 0, none⟩ = some (.slice (some ⟨c, q, none⟩) y.ty.length m1) ∧ w'.cell? ⟨b, p + k * 3, none⟩ = some (.int .i64 z.k) ∧ w'.cell? ⟨b, p + k * 3 + 1, none⟩ = some (Vz) ∧ w'.cell? ⟨b, p + k * 3 + 2, none⟩ = some (.int .i64 z.r) ∧ w'.cell? ⟨c, q + k * 3, none⟩ = some (.int .i64 u.k) ∧ w'.cell? ⟨c, q + k * 3 + 1, none⟩ = some (Vu) ∧ w'.cell? ⟨c, q + k * 3 + 2, none⟩ = some (.int .i64 u.r))
          (first | exact hkeep.out _ (by (repeat (first | with_reducible exact Kp.refl _ | with_reducible refine Kp.alloc ?_ _ | with_reducible refine Kp.drew ?_ | with_reducible refine Kp.back (by assumption) ?_))))
          ((go_at_call 25; (with_reducible refine (c_SameShape z u _ _ _ (goodS.keep HLX2.out (by (repeat (first | with_reducible exact Kp.refl _ | with_reducible refine Kp.alloc ?_ _ | with_reducible refine Kp.drew ?_ | with_reducible refine Kp.back (by assumption) ?_)))) (goodS.keep HLY2.out (by (repeat (first | with_reducible exact Kp.refl _ | with_reducible refine Kp.alloc ?_ _ | with_reducible refine Kp.drew ?_ | with_reducible refine Kp.back (by assumption) ?_))))).mono ?_); rintro e w6 ⟨rfl, hk6⟩; rw [HXY.out]))
        go_wp2_with fail
        go_ret
        exact tell (by simp [sameMo, sameL_bad HXK.out HYK.out HXY.out]) ((HK0.out.trans HK.out).trans (by (repeat (first | with_reducible exact Kp.refl _ | with_reducible refine Kp.alloc ?_ _ | with_reducible refine Kp.drew ?_ | with_reducible refine Kp.back (by assumption) ?_))))
    · have hge : x.ty.length ≤ k := by omega
      have HA1 := Lib.hid (show sameL sameSh x.ty y.ty = true from sameL_all HL1.out (fun i x y hx hy => HA.out i x y (by have := (List.getElem?_eq_some_iff.1 hx).1; omega) hx hy))
      obtain ⟨wq, hwq⟩ : ∃ wq, wq = wr := ⟨_, rfl⟩
      subst hwq
      clear HA
      go_wp2_with fail
      go_loopw [6] (fun i wr => ∃ k : Nat, k ≤ x.fu.length ∧ i = .int .i64 (k : Int) ∧ (∀ j z u, j < k → x.fu[j]? = some z → y.fu[j]? = some u → sameFu z u = true) ∧ Kp ((w.alloc (.cells #[.slice a1 x.ty.length n1, .slice a2 x.fu.length n2] 25)).alloc (.cells #[.slice b1 y.ty.length m1, .slice b2 y.fu.length m2] 25)) wr) (fun i _ => x.fu.length - (intOf i).toNat)
      case atStart => exact ⟨0, by omega, rfl, fun j x y h => by omega, HK.out⟩
      case round =>
        obtain ⟨k2, hk2, rfl, hall, hkp⟩ := hrel
        have HA := Lib.hid hall
        have HK2 := Lib.hid hkp
        clear hall hkp p0 p1 q0 q1 HK
        obtain ⟨p0, p1⟩ := row2 (row_keep HK2.out HR0.out)
        obtain ⟨q0, q1⟩ := row2 (row_keep HK2.out HR1.out)
        by_cases hlt : k2 < x.fu.length
        · have hlt2 : k2 < y.fu.length := by have := HL2.out; omega
          obtain ⟨z, hzk⟩ : ∃ z, x.fu[k2]? = some z := ⟨_, List.getElem?_eq_getElem hlt⟩
          obtain ⟨u, huk⟩ : ∃ u, y.fu[k2]? = some u := ⟨_, List.getElem?_eq_getElem hlt2⟩
          obtain ⟨b, p, rfl, hr⟩ := (HT2.out.keep (HK0.out.trans HK2.out)).at (by omega)
          obtain ⟨c, q, rfl, hs⟩ := (HU2.out.keep (HK0.out.trans HK2.out)).at (by omega)
          have hrx := hr k2 hlt
          have hry := hs k2 hlt2
          obtain ⟨V1z, V2z, _, hcz, hz1, hz2, ⟨a3z, n3z, C3z, rfl, _, hb3z, _, ht3z, hx3z⟩, _⟩ := goodF.keep (HX2.out k2 z hzk) (HK0.out.trans HK2.out)
          obtain ⟨V1u, V2u, _, hcu, hu1, hu2, ⟨a3u, n3u, C3u, rfl, _, hb3u, _, ht3u, hx3u⟩, _⟩ := goodF.keep (HY2.out k2 u huk) (HK0.out.trans HK2.out)
          rw [hcz] at hrx
          rw [hcu] at hry
          have hone1 := hz1.one
          have hone2 := hz2.one
          have hone3 : (Value.slice a3z z.co.length n3z).oneCell' = true := rfl
          have hony1 := hu1.one
          have hony2 := hu2.one
          have hony3 : (Value.slice a3u u.co.length n3u).oneCell' = true := rfl
          have hc3 : z.co.length ≤ 140737488351232 := by omega
          have hc4 : u.co.length ≤ 140737488351232 := by omega
          have HQX := Lib.hid hrx
          have HQY := Lib.hid hry
          have HZ1 := Lib.hid hz1
          have HZ2 := Lib.hid hz2
          have HU1' := Lib.hid hu1
          have HU2' := Lib.hid hu2
          have HT3 := Lib.hid ht3z
          have HX3 := Lib.hid hx3z
          have HU3 := Lib.hid ht3u
          have HY3 := Lib.hid hx3u
          have HXK := Lib.hid hzk
          have HYK := Lib.hid huk
          clear hr hs hrx hry hzk huk hcz hcu hz1 hz2 hu1 hu2 hb3z hb3u ht3z hx3z ht3u hx3u
          cases g0 : (z.p == u.p) with
          | false =>
            have e0 : (z.p != u.p) = true := by simpa using g0
            go_wp2_with (first | ((with_reducible show wpList _ _ _ (⟨some 60, _, _, _, _, _⟩ :: _) _ _); refine wpList_index_tab (d := 60) _ _ _ rfl 51 Try.underlying23 5 rfl _ _ _ _ q (by rfl) rfl k2 (by rfl) hlt2 ?_) | ((with_reducible show wpList _ _ _ (⟨some 61, _, _, _, _, _⟩ :: _) _ _); refine wpList_load_range (d := 61) _ _ rfl _ Try.underlying51 wr _ _ _ _ (by rfl) rfl rfl _ HQY.out HK4.out (by rfl) ?_) | ((with_reducible show wpList _ _ _ (⟨some 55, _, _, _, _, _⟩ :: _) _ _); refine wpList_index_tab (d := 55) _ _ _ rfl 51 Try.underlying23 5 rfl _ _ _ _ p (by rfl) rfl k2 (by rfl) hlt ?_) | ((with_reducible show wpList _ _ _ (⟨some 56, _, _, _, _, _⟩ :: _) _ _); refine wpList_load_range (d := 56) _ _ rfl _ Try.underlying51 wr _ _ _ _ (by rfl) rfl rfl _ HQX.out (Kp.refl wr) (by rfl) ?_) | ((with_reducible show wpList _ _ _ (⟨none, .store _ (.tmp 7) (.tmp 56), _, _, _, _⟩ :: _) _ _); refine wpList_store_new rfl 51 _ _ rfl wr _ _ (by rfl) (by rfl) (by first | rfl | simp) _ _ rfl (by rfl) (by rfl) (by first | exact all2 rfl rfl | exact all4 rfl rfl rfl rfl | exact all5 rfl rfl rfl rfl hone | exact all3 rfl hone rfl | exact all5 rfl hone1 hone2 rfl hone3 | exact all5 rfl rfl rfl rfl hony | exact all3 rfl hony rfl | exact all5 rfl hony1 hony2 rfl hony3) ?_; intro w4 hq4 hk4 hs4; have HB4 := Lib.hid hq4; have HK4 := Lib.hid hk4; obtain ⟨p0, p1⟩ := row2 (row_keep hk4 (row_keep HK2.out HR0.out)); obtain ⟨q0, q1⟩ := row2 (row_keep hk4 (row_keep HK2.out HR1.out)); clear hk4; obtain ⟨d0, d1, d2, d3, d4⟩ := row5 hq4; clear hq4) | ((with_reducible show wpList _ _ _ (⟨none, .store _ (.tmp 8) (.tmp 61), _, _, _, _⟩ :: _) _ _); refine wpList_store_new rfl 51 _ _ rfl w4 _ _ (by rfl) (by rfl) (by first | rfl | simp) _ _ rfl (by rfl) (by rfl) (by first | exact all2 rfl rfl | exact all4 rfl rfl rfl rfl | exact all5 rfl rfl rfl rfl hone | exact all3 rfl hone rfl | exact all5 rfl hone1 hone2 rfl hone3 | exact all5 rfl rfl rfl rfl hony | exact all3 rfl hony rfl | exact all5 rfl hony1 hony2 rfl hony3) ?_; intro w5 hq5 hk5 hs5; have HB5 := Lib.hid hq5; have HK5 := Lib.hid hk5; obtain ⟨p0, p1⟩ := row2 (row_keep hk5 (row_keep HK4.out (row_keep HK2.out HR0.out))); obtain ⟨q0, q1⟩ := row2 (row_keep hk5 (row_keep HK4.out (row_keep HK2.out HR1.out))); obtain ⟨d0, d1, d2, d3, d4⟩ := row5 (row_keep hk5 HB4.out); clear hk5; obtain ⟨f0, f1, f2, f3, f4⟩ := row5 hq5; clear hq5))
            go_ret
            exact tell (by simp [sameMo, HA1.out, sameL_bad HXK.out HYK.out (show sameFu z u = false by simp [sameFu, g0])]) ((HK0.out.trans HK2.out).trans (HK4.out.trans HK5.out))
          | true =>
            have e0 : (z.p != u.p) = false := by simpa using g0
            cases g1 : (z.r == u.r) with
            | false =>
              have e1 : (z.r != u.r) = true := by simpa using g1
              go_wp2_with (first | ((with_reducible show wpList _ _ _ (⟨some 60, _, _, _, _, _⟩ :: _) _ _); refine wpList_index_tab (d := 60) _ _ _ rfl 51 Try.underlying23 5 rfl _ _ _ _ q (by rfl) rfl k2 (by rfl) hlt2 ?_) | ((with_reducible show wpList _ _ _ (⟨some 61, _, _, _, _, _⟩ :: _) _ _); refine wpList_load_range (d := 61) _ _ rfl _ Try.underlying51 wr _ _ _ _ (by rfl) rfl rfl _ HQY.out HK4.out (by rfl) ?_) | ((with_reducible show wpList _ _ _ (⟨some 55, _, _, _, _, _⟩ :: _) _ _); refine wpList_index_tab (d := 55) _ _ _ rfl 51 Try.underlying23 5 rfl _ _ _ _ p (by rfl) rfl k2 (by rfl) hlt ?_) | ((with_reducible show wpList _ _ _ (⟨some 56, _, _, _, _, _⟩ :: _) _ _); refine wpList_load_range (d := 56) _ _ rfl _ Try.underlying51 wr _ _ _ _ (by rfl) rfl rfl _ HQX.out (Kp.refl wr) (by rfl) ?_) | ((with_reducible show wpList _ _ _ (⟨none, .store _ (.tmp 7) (.tmp 56), _, _, _, _⟩ :: _) _ _); refine wpList_store_new rfl 51 _ _ rfl wr _ _ (by rfl) (by rfl) (by first | rfl | simp) _ _ rfl (by rfl) (by rfl) (by first | exact all2 rfl rfl | exact all4 rfl rfl rfl rfl | exact all5 rfl rfl rfl rfl hone | exact all3 rfl hone rfl | exact all5 rfl hone1 hone2 rfl hone3 | exact all5 rfl rfl rfl rfl hony | exact all3 rfl hony rfl | exact all5 rfl hony1 hony2 rfl hony3) ?_; intro w4 hq4 hk4 hs4; have HB4 := Lib.hid hq4; have HK4 := Lib.hid hk4; obtain ⟨p0, p1⟩ := row2 (row_keep hk4 (row_keep HK2.out HR0.out)); obtain ⟨q0, q1⟩ := row2 (row_keep hk4 (row_keep HK2.out HR1.out)); clear hk4; obtain ⟨d0, d1, d2, d3, d4⟩ := row5 hq4; clear hq4) | ((with_reducible show wpList _ _ _ (⟨none, .store _ (.tmp 8) (.tmp 61), _, _, _, _⟩ :: _) _ _); refine wpList_store_new rfl 51 _ _ rfl w4 _ _ (by rfl) (by rfl) (by first | rfl | simp) _ _ rfl (by rfl) (by rfl) (by first | exact all2 rfl rfl | exact all4 rfl rfl rfl rfl | exact all5 rfl rfl rfl rfl hone | exact all3 rfl hone rfl | exact all5 rfl hone1 hone2 rfl hone3 | exact all5 rfl rfl rfl rfl hony | exact all3 rfl hony rfl | exact all5 rfl hony1 hony2 rfl hony3) ?_; intro w5 hq5 hk5 hs5; have HB5 := Lib.hid hq5; have HK5 := Lib.hid hk5; obtain ⟨p0, p1⟩ := row2 (row_keep hk5 (row_keep HK4.out (row_keep HK2.out HR0.out))); obtain ⟨q0, q1⟩ := row2 (row_keep hk5 (row_keep HK4.out (row_keep HK2.out HR1.out))); obtain ⟨d0, d1, d2, d3, d4⟩ := row5 (row_keep hk5 HB4.out); clear hk5; obtain ⟨f0, f1, f2, f3, f4⟩ := row5 hq5; clear hq5))
              go_ret
              exact tell (by simp [sameMo, HA1.out, sameL_bad HXK.out HYK.out (show sameFu z u = false by simp [sameFu, g0, g1])]) ((HK0.out.trans HK2.out).trans (HK4.out.trans HK5.out))
            | true =>
              have e1 : (z.r != u.r) = false := by simpa using g1
              cases s2 : sameL eqI z.lo u.lo with
              | false =>
                have G2 := Lib.hid s2
                clear s2
                go_wp2_with (first | ((with_reducible show wpList _ _ _ (⟨some 60, _, _, _, _, _⟩ :: _) _ _); refine wpList_index_tab (d := 60) _ _ _ rfl 51 Try.underlying23 5 rfl _ _ _ _ q (by rfl) rfl k2 (by rfl) hlt2 ?_) | ((with_reducible show wpList _ _ _ (⟨some 61, _, _, _, _, _⟩ :: _) _ _); refine wpList_load_range (d := 61) _ _ rfl _ Try.underlying51 wr _ _ _ _ (by rfl) rfl rfl _ HQY.out HK4.out (by rfl) ?_) | ((with_reducible show wpList _ _ _ (⟨some 55, _, _, _, _, _⟩ :: _) _ _); refine wpList_index_tab (d := 55) _ _ _ rfl 51 Try.underlying23 5 rfl _ _ _ _ p (by rfl) rfl k2 (by rfl) hlt ?_) | ((with_reducible show wpList _ _ _ (⟨some 56, _, _, _, _, _⟩ :: _) _ _); refine wpList_load_range (d := 56) _ _ rfl _ Try.underlying51 wr _ _ _ _ (by rfl) rfl rfl _ HQX.out (Kp.refl wr) (by rfl) ?_) | ((with_reducible show wpList _ _ _ (⟨none, .store _ (.tmp 7) (.tmp 56), _, _, _, _⟩ :: _) _ _); refine wpList_store_new rfl 51 _ _ rfl wr _ _ (by rfl) (by rfl) (by first | rfl | simp) _ _ rfl (by rfl) (by rfl) (by first | exact all2 rfl rfl | exact all4 rfl rfl rfl rfl | exact all5 rfl rfl rfl rfl hone | exact all3 rfl hone rfl | exact all5 rfl hone1 hone2 rfl hone3 | exact all5 rfl rfl rfl rfl hony | exact all3 rfl hony rfl | exact all5 rfl hony1 hony2 rfl hony3) ?_; intro w4 hq4 hk4 hs4; have HB4 := Lib.hid hq4; have HK4 := Lib.hid hk4; obtain ⟨p0, p1⟩ := row2 (row_keep hk4 (row_keep HK2.out HR0.out)); obtain ⟨q0, q1⟩ := row2 (row_keep hk4 (row_keep HK2.out HR1.out)); clear hk4; obtain ⟨d0, d1, d2, d3, d4⟩ := row5 hq4; clear hq4) | ((with_reducible show wpList _ _ _ (⟨none, .store _ (.tmp 8) (.tmp 61), _, _, _, _⟩ :: _) _ _); refine wpList_store_new rfl 51 _ _ rfl w4 _ _ (by rfl) (by rfl) (by first | rfl | simp) _ _ rfl (by rfl) (by rfl) (by first | exact all2 rfl rfl | exact all4 rfl rfl rfl rfl | exact all5 rfl rfl rfl rfl hone | exact all3 rfl hone rfl | exact all5 rfl hone1 hone2 rfl hone3 | exact all5 rfl rfl rfl rfl hony | exact all3 rfl hony rfl | exact all5 rfl hony1 hony2 rfl hony3) ?_; intro w5 hq5 hk5 hs5; have HB5 := Lib.hid hq5; have HK5 := Lib.hid hk5; obtain ⟨p0, p1⟩ := row2 (row_keep hk5 (row_keep HK4.out (row_keep HK2.out HR0.out))); obtain ⟨q0, q1⟩ := row2 (row_keep hk5 (row_keep HK4.out (row_keep HK2.out HR1.out))); obtain ⟨d0, d1, d2, d3, d4⟩ := row5 (row_keep hk5 HB4.out); clear hk5; obtain ⟨f0, f1, f2, f3, f4⟩ := row5 hq5; clear hq5) | (go_at_call 34; (with_reducible refine (c_SameInts z.lo u.lo _ _ _ (HZ1.out.keep goodI (HK4.out.trans HK5.out)) (HU1'.out.keep goodI (HK4.out.trans HK5.out))).mono ?_); rintro e w6 ⟨rfl, h6⟩; have HK6 := Lib.hid h6; obtain ⟨d0, d1, d2, d3, d4⟩ := row5 (row_keep (HK5.out.trans HK6.out) HB4.out); obtain ⟨f0, f1, f2, f3, f4⟩ := row5 (row_keep (HK6.out) HB5.out); clear h6; rw [G2.out]))
                go_ret
                exact tell (by simp [sameMo, HA1.out, sameL_bad HXK.out HYK.out (show sameFu z u = false by simp [sameFu, g0, g1, G2.out])]) ((HK0.out.trans HK2.out).trans (HK4.out.trans (HK5.out.trans HK6.out)))
              | true =>
                have G2 := Lib.hid s2
                clear s2
                cases s3 : sameL eqI z.ca u.ca with
                | false =>
                  have G3 := Lib.hid s3
                  clear s3
                  go_wp2_with (first | ((with_reducible show wpList _ _ _ (⟨some 60, _, _, _, _, _⟩ :: _) _ _); refine wpList_index_tab (d := 60) _ _ _ rfl 51 Try.underlying23 5 rfl _ _ _ _ q (by rfl) rfl k2 (by rfl) hlt2 ?_) | ((with_reducible show wpList _ _ _ (⟨some 61, _, _, _, _, _⟩ :: _) _ _); refine wpList_load_range (d := 61) _ _ rfl _ Try.underlying51 wr _ _ _ _ (by rfl) rfl rfl _ HQY.out HK4.out (by rfl) ?_) | ((with_reducible show wpList _ _ _ (⟨some 55, _, _, _, _, _⟩ :: _) _ _); refine wpList_index_tab (d := 55) _ _ _ rfl 51 Try.underlying23 5 rfl _ _ _ _ p (by rfl) rfl k2 (by rfl) hlt ?_) | ((with_reducible show wpList _ _ _ (⟨some 56, _, _, _, _, _⟩ :: _) _ _); refine wpList_load_range (d := 56) _ _ rfl _ Try.underlying51 wr _ _ _ _ (by rfl) rfl rfl _ HQX.out (Kp.refl wr) (by rfl) ?_) | ((with_reducible show wpList _ _ _ (⟨none, .store _ (.tmp 7) (.tmp 56), _, _, _, _⟩ :: _) _ _); refine wpList_store_new rfl 51 _ _ rfl wr _ _ (by rfl) (by rfl) (by first | rfl | simp) _ _ rfl (by rfl) (by rfl) (by first | exact all2 rfl rfl | exact all4 rfl rfl rfl rfl | exact all5 rfl rfl rfl rfl hone | exact all3 rfl hone rfl | exact all5 rfl hone1 hone2 rfl hone3 | exact all5 rfl rfl rfl rfl hony | exact all3 rfl hony rfl | exact all5 rfl hony1 hony2 rfl hony3) ?_; intro w4 hq4 hk4 hs4; have HB4 := Lib.hid hq4; have HK4 := Lib.hid hk4; obtain ⟨p0, p1⟩ := row2 (row_keep hk4 (row_keep HK2.out HR0.out)); obtain ⟨q0, q1⟩ := row2 (row_keep hk4 (row_keep HK2.out HR1.out)); clear hk4; obtain ⟨d0, d1, d2, d3, d4⟩ := row5 hq4; clear hq4) | ((with_reducible show wpList _ _ _ (⟨none, .store _ (.tmp 8) (.tmp 61), _, _, _, _⟩ :: _) _ _); refine wpList_store_new rfl 51 _ _ rfl w4 _ _ (by rfl) (by rfl) (by first | rfl | simp) _ _ rfl (by rfl) (by rfl) (by first | exact all2 rfl rfl | exact all4 rfl rfl rfl rfl | exact all5 rfl rfl rfl rfl hone | exact all3 rfl hone rfl | exact all5 rfl hone1 hone2 rfl hone3 | exact all5 rfl rfl rfl rfl hony | exact all3 rfl hony rfl | exact all5 rfl hony1 hony2 rfl hony3) ?_; intro w5 hq5 hk5 hs5; have HB5 := Lib.hid hq5; have HK5 := Lib.hid hk5; obtain ⟨p0, p1⟩ := row2 (row_keep hk5 (row_keep HK4.out (row_keep HK2.out HR0.out))); obtain ⟨q0, q1⟩ := row2 (row_keep hk5 (row_keep HK4.out (row_keep HK2.out HR1.out))); obtain ⟨d0, d1, d2, d3, d4⟩ := row5 (row_keep hk5 HB4.out); clear hk5; obtain ⟨f0, f1, f2, f3, f4⟩ := row5 hq5; clear hq5) | (go_at_call 34; (with_reducible refine (c_SameInts z.lo u.lo _ _ _ (HZ1.out.keep goodI (HK4.out.trans HK5.out)) (HU1'.out.keep goodI (HK4.out.trans HK5.out))).mono ?_); rintro e w6 ⟨rfl, h6⟩; have HK6 := Lib.hid h6; obtain ⟨d0, d1, d2, d3, d4⟩ := row5 (row_keep (HK5.out.trans HK6.out) HB4.out); obtain ⟨f0, f1, f2, f3, f4⟩ := row5 (row_keep (HK6.out) HB5.out); clear h6; rw [G2.out]) | (go_at_call 34; (with_reducible refine (c_SameInts z.ca u.ca _ _ _ (HZ2.out.keep goodI (HK4.out.trans (HK5.out.trans HK6.out))) (HU2'.out.keep goodI (HK4.out.trans (HK5.out.trans HK6.out)))).mono ?_); rintro e w7 ⟨rfl, h7⟩; have HK7 := Lib.hid h7; obtain ⟨d0, d1, d2, d3, d4⟩ := row5 (row_keep (HK5.out.trans (HK6.out.trans HK7.out)) HB4.out); obtain ⟨f0, f1, f2, f3, f4⟩ := row5 (row_keep (HK6.out.trans HK7.out) HB5.out); clear h7; rw [G3.out]))
                  go_ret
                  exact tell (by simp [sameMo, HA1.out, sameL_bad HXK.out HYK.out (show sameFu z u = false by simp [sameFu, g0, g1, G2.out, G3.out])]) ((HK0.out.trans HK2.out).trans (HK4.out.trans (HK5.out.trans (HK6.out.trans HK7.out))))
                | true =>
                  have G3 := Lib.hid s3
                  clear s3
                  by_cases hlen : z.co.length = u.co.length
                  rotate_left
                  · have HL3 := Lib.hid hlen
                    have hd3 : ((z.co.length : Int) != (u.co.length : Int)) = true := by simp; omega
                    clear hlen
                    go_wp2_with (first | ((with_reducible show wpList _ _ _ (⟨some 60, _, _, _, _, _⟩ :: _) _ _); refine wpList_index_tab (d := 60) _ _ _ rfl 51 Try.underlying23 5 rfl _ _ _ _ q (by rfl) rfl k2 (by rfl) hlt2 ?_) | ((with_reducible show wpList _ _ _ (⟨some 61, _, _, _, _, _⟩ :: _) _ _); refine wpList_load_range (d := 61) _ _ rfl _ Try.underlying51 wr _ _ _ _ (by rfl) rfl rfl _ HQY.out HK4.out (by rfl) ?_) | ((with_reducible show wpList _ _ _ (⟨some 55, _, _, _, _, _⟩ :: _) _ _); refine wpList_index_tab (d := 55) _ _ _ rfl 51 Try.underlying23 5 rfl _ _ _ _ p (by rfl) rfl k2 (by rfl) hlt ?_) | ((with_reducible show wpList _ _ _ (⟨some 56, _, _, _, _, _⟩ :: _) _ _); refine wpList_load_range (d := 56) _ _ rfl _ Try.underlying51 wr _ _ _ _ (by rfl) rfl rfl _ HQX.out (Kp.refl wr) (by rfl) ?_) | ((with_reducible show wpList _ _ _ (⟨none, .store _ (.tmp 7) (.tmp 56), _, _, _, _⟩ :: _) _ _); refine wpList_store_new rfl 51 _ _ rfl wr _ _ (by rfl) (by rfl) (by first | rfl | simp) _ _ rfl (by rfl) (by rfl) (by first | exact all2 rfl rfl | exact all4 rfl rfl rfl rfl | exact all5 rfl rfl rfl rfl hone | exact all3 rfl hone rfl | exact all5 rfl hone1 hone2 rfl hone3 | exact all5 rfl rfl rfl rfl hony | exact all3 rfl hony rfl | exact all5 rfl hony1 hony2 rfl hony3) ?_; intro w4 hq4 hk4 hs4; have HB4 := Lib.hid hq4; have HK4 := Lib.hid hk4; obtain ⟨p0, p1⟩ := row2 (row_keep hk4 (row_keep HK2.out HR0.out)); obtain ⟨q0, q1⟩ := row2 (row_keep hk4 (row_keep HK2.out HR1.out)); clear hk4; obtain ⟨d0, d1, d2, d3, d4⟩ := row5 hq4; clear hq4) | ((with_reducible show wpList _ _ _ (⟨none, .store _ (.tmp 8) (.tmp 61), _, _, _, _⟩ :: _) _ _); refine wpList_store_new rfl 51 _ _ rfl w4 _ _ (by rfl) (by rfl) (by first | rfl | simp) _ _ rfl (by rfl) (by rfl) (by first | exact all2 rfl rfl | exact all4 rfl rfl rfl rfl | exact all5 rfl rfl rfl rfl hone | exact all3 rfl hone rfl | exact all5 rfl hone1 hone2 rfl hone3 | exact all5 rfl rfl rfl rfl hony | exact all3 rfl hony rfl | exact all5 rfl hony1 hony2 rfl hony3) ?_; intro w5 hq5 hk5 hs5; have HB5 := Lib.hid hq5; have HK5 := Lib.hid hk5; obtain ⟨p0, p1⟩ := row2 (row_keep hk5 (row_keep HK4.out (row_keep HK2.out HR0.out))); obtain ⟨q0, q1⟩ := row2 (row_keep hk5 (row_keep HK4.out (row_keep HK2.out HR1.out))); obtain ⟨d0, d1, d2, d3, d4⟩ := row5 (row_keep hk5 HB4.out); clear hk5; obtain ⟨f0, f1, f2, f3, f4⟩ := row5 hq5; clear hq5) | (go_at_call 34; (with_reducible refine (c_SameInts z.lo u.lo _ _ _ (HZ1.out.keep goodI (HK4.out.trans HK5.out)) (HU1'.out.keep goodI (HK4.out.trans HK5.out))).mono ?_); rintro e w6 ⟨rfl, h6⟩; have HK6 := Lib.hid h6; obtain ⟨d0, d1, d2, d3, d4⟩ := row5 (row_keep (HK5.out.trans HK6.out) HB4.out); obtain ⟨f0, f1, f2, f3, f4⟩ := row5 (row_keep (HK6.out) HB5.out); clear h6; rw [G2.out]) | (go_at_call 34; (with_reducible refine (c_SameInts z.ca u.ca _ _ _ (HZ2.out.keep goodI (HK4.out.trans (HK5.out.trans HK6.out))) (HU2'.out.keep goodI (HK4.out.trans (HK5.out.trans HK6.out)))).mono ?_); rintro e w7 ⟨rfl, h7⟩; have HK7 := Lib.hid h7; obtain ⟨d0, d1, d2, d3, d4⟩ := row5 (row_keep (HK5.out.trans (HK6.out.trans HK7.out)) HB4.out); obtain ⟨f0, f1, f2, f3, f4⟩ := row5 (row_keep (HK6.out.trans HK7.out) HB5.out); clear h7; rw [G3.out]))
                    go_ret
                    exact tell (by simp [sameMo, HA1.out, sameL_bad HXK.out HYK.out (show sameFu z u = false by simp [sameFu, g0, g1, G2.out, G3.out, sameL_len HL3.out])]) ((HK0.out.trans HK2.out).trans (HK4.out.trans (HK5.out.trans (HK6.out.trans HK7.out))))
                  have HL3 := Lib.hid hlen
                  have hd3 : ((z.co.length : Int) != (u.co.length : Int)) = false := by simp [hlen]
                  clear hlen
                  go_wp2_with (first | ((with_reducible show wpList _ _ _ (⟨some 60, _, _, _, _, _⟩ :: _) _ _); refine wpList_index_tab (d := 60) _ _ _ rfl 51 Try.underlying23 5 rfl _ _ _ _ q (by rfl) rfl k2 (by rfl) hlt2 ?_) | ((with_reducible show wpList _ _ _ (⟨some 61, _, _, _, _, _⟩ :: _) _ _); refine wpList_load_range (d := 61) _ _ rfl _ Try.underlying51 wr _ _ _ _ (by rfl) rfl rfl _ HQY.out HK4.out (by rfl) ?_) | ((with_reducible show wpList _ _ _ (⟨some 55, _, _, _, _, _⟩ :: _) _ _); refine wpList_index_tab (d := 55) _ _ _ rfl 51 Try.underlying23 5 rfl _ _ _ _ p (by rfl) rfl k2 (by rfl) hlt ?_) | ((with_reducible show wpList _ _ _ (⟨some 56, _, _, _, _, _⟩ :: _) _ _); refine wpList_load_range (d := 56) _ _ rfl _ Try.underlying51 wr _ _ _ _ (by rfl) rfl rfl _ HQX.out (Kp.refl wr) (by rfl) ?_) | ((with_reducible show wpList _ _ _ (⟨none, .store _ (.tmp 7) (.tmp 56), _, _, _, _⟩ :: _) _ _); refine wpList_store_new rfl 51 _ _ rfl wr _ _ (by rfl) (by rfl) (by first | rfl | simp) _ _ rfl (by rfl) (by rfl) (by first | exact all2 rfl rfl | exact all4 rfl rfl rfl rfl | exact all5 rfl rfl rfl rfl hone | exact all3 rfl hone rfl | exact all5 rfl hone1 hone2 rfl hone3 | exact all5 rfl rfl rfl rfl hony | exact all3 rfl hony rfl | exact all5 rfl hony1 hony2 rfl hony3) ?_; intro w4 hq4 hk4 hs4; have HB4 := Lib.hid hq4; have HK4 := Lib.hid hk4; obtain ⟨p0, p1⟩ := row2 (row_keep hk4 (row_keep HK2.out HR0.out)); obtain ⟨q0, q1⟩ := row2 (row_keep hk4 (row_keep HK2.out HR1.out)); clear hk4; obtain ⟨d0, d1, d2, d3, d4⟩ := row5 hq4; clear hq4) | ((with_reducible show wpList _ _ _ (⟨none, .store _ (.tmp 8) (.tmp 61), _, _, _, _⟩ :: _) _ _); refine wpList_store_new rfl 51 _ _ rfl w4 _ _ (by rfl) (by rfl) (by first | rfl | simp) _ _ rfl (by rfl) (by rfl) (by first | exact all2 rfl rfl | exact all4 rfl rfl rfl rfl | exact all5 rfl rfl rfl rfl hone | exact all3 rfl hone rfl | exact all5 rfl hone1 hone2 rfl hone3 | exact all5 rfl rfl rfl rfl hony | exact all3 rfl hony rfl | exact all5 rfl hony1 hony2 rfl hony3) ?_; intro w5 hq5 hk5 hs5; have HB5 := Lib.hid hq5; have HK5 := Lib.hid hk5; obtain ⟨p0, p1⟩ := row2 (row_keep hk5 (row_keep HK4.out (row_keep HK2.out HR0.out))); obtain ⟨q0, q1⟩ := row2 (row_keep hk5 (row_keep HK4.out (row_keep HK2.out HR1.out))); obtain ⟨d0, d1, d2, d3, d4⟩ := row5 (row_keep hk5 HB4.out); clear hk5; obtain ⟨f0, f1, f2, f3, f4⟩ := row5 hq5; clear hq5) | (go_at_call 34; (with_reducible refine (c_SameInts z.lo u.lo _ _ _ (HZ1.out.keep goodI (HK4.out.trans HK5.out)) (HU1'.out.keep goodI (HK4.out.trans HK5.out))).mono ?_); rintro e w6 ⟨rfl, h6⟩; have HK6 := Lib.hid h6; obtain ⟨d0, d1, d2, d3, d4⟩ := row5 (row_keep (HK5.out.trans HK6.out) HB4.out); obtain ⟨f0, f1, f2, f3, f4⟩ := row5 (row_keep (HK6.out) HB5.out); clear h6; rw [G2.out]) | (go_at_call 34; (with_reducible refine (c_SameInts z.ca u.ca _ _ _ (HZ2.out.keep goodI (HK4.out.trans (HK5.out.trans HK6.out))) (HU2'.out.keep goodI (HK4.out.trans (HK5.out.trans HK6.out)))).mono ?_); rintro e w7 ⟨rfl, h7⟩; have HK7 := Lib.hid h7; obtain ⟨d0, d1, d2, d3, d4⟩ := row5 (row_keep (HK5.out.trans (HK6.out.trans HK7.out)) HB4.out); obtain ⟨f0, f1, f2, f3, f4⟩ := row5 (row_keep (HK6.out.trans HK7.out) HB5.out); clear h7; rw [G3.out]))
                  obtain ⟨wt, hwt⟩ : ∃ wt, wt = wr := ⟨_, rfl⟩
                  subst hwt
                  go_loopw [9] (fun i wr => ∃ j : Nat, j ≤ z.co.length ∧ i = .int .i64 (j : Int) ∧ (∀ i s t, i < j → z.co[i]? = some s → u.co[i]? = some t → sameIns s t = true) ∧ Kp w7 wr) (fun i _ => z.co.length - (intOf i).toNat)
                  case atStart => exact ⟨0, by omega, rfl, fun j x y h => by omega, Kp.refl _⟩
                  case round =>
                    obtain ⟨j, hj, rfl, hall, hkp⟩ := hrel
                    have HB := Lib.hid hall
                    have HK8 := Lib.hid hkp
                    clear hall hkp d0 d1 d2 d3 d4 f0 f1 f2 f3 f4 p0 p1 q0 q1
                    obtain ⟨d0, d1, d2, d3, d4⟩ := row5 (row_keep HK8.out (row_keep (HK5.out.trans (HK6.out.trans HK7.out)) HB4.out))
                    obtain ⟨f0, f1, f2, f3, f4⟩ := row5 (row_keep HK8.out (row_keep (HK6.out.trans HK7.out) HB5.out))
                    by_cases hlt3 : j < z.co.length
                    · have hlt4 : j < u.co.length := by have := HL3.out; omega
                      obtain ⟨s, hsk⟩ : ∃ s, z.co[j]? = some s := ⟨_, List.getElem?_eq_getElem hlt3⟩
                      obtain ⟨t, htk⟩ : ∃ t, u.co[j]? = some t := ⟨_, List.getElem?_eq_getElem hlt4⟩
                      have KW := Lib.hid ((HK4.out.trans (HK5.out.trans (HK6.out.trans HK7.out))).trans HK8.out)
                      obtain ⟨b3, p3, rfl, hr3⟩ := (HT3.out.keep KW.out).at (by omega)
                      obtain ⟨c3, q3, rfl, hs3⟩ := (HU3.out.keep KW.out).at (by omega)
                      have hrx := hr3 j hlt3
                      have hry := hs3 j hlt4
                      have HLX := Lib.hid (goodN.keep (HX3.out j s hsk) KW.out)
                      have HLY := Lib.hid (goodN.keep (HY3.out j t htk) KW.out)
                      obtain ⟨Vs, hcs, _⟩ := HLX.out
                      obtain ⟨Vt, hct, _⟩ := HLY.out
                      rw [hcs] at hrx
                      rw [hct] at hry
                      have HLX2 := Lib.hid (show LN wr A0 s [.int .i64 s.o, .int .i64 s.a, .int .i64 s.b, .int .u64 s.n, Vs] by rw [← hcs]; exact HLX.out)
                      have HLY2 := Lib.hid (show LN wr A0 t [.int .i64 t.o, .int .i64 t.a, .int .i64 t.b, .int .u64 t.n, Vt] by rw [← hct]; exact HLY.out)
                      obtain ⟨y0, y1, y2, y3, y4⟩ := range5 hrx
                      obtain ⟨x0, x1, x2, x3, x4⟩ := range5 hry
                      have i0 := run_index_tab 49 55 Try.underlying49 5 (by kernel_rfl) b3 p3 z.co.length n3z j hlt3
                      have i1 := run_index_tab 49 55 Try.underlying49 5 (by kernel_rfl) c3 q3 u.co.length n3u j hlt4
                      have HSK := Lib.hid hsk
                      have HTK := Lib.hid htk
                      have hkeep := Lib.hid (fun (W' : World) (hk : Kp wr W') => (⟨hk.cellv d4, hk.cellv f4, hk.cellv y0, hk.cellv y1, hk.cellv y2, hk.cellv y3, hk.cellv y4, hk.cellv x0, hk.cellv x1, hk.cellv x2, hk.cellv x3, hk.cellv x4⟩ : (fun w' : World => w'.cell? ⟨wt.heap.size, 4, none⟩ = some (.slice (some ⟨b3, p3, none⟩) z.co.length n3z) ∧ w'.cell? ⟨w4.heap.size, 4, none⟩ = some (.slice (some ⟨c3, q3, none⟩) u.co.length n3u) ∧ w'.cell? ⟨b3, p3 + j * 5, none⟩ = some (.int .i64 s.o) ∧ w'.cell? ⟨b3, p3 + j * 5 + 1, none⟩ = some (.int .i64 s.a) ∧ w'.cell? ⟨b3, p3 + j * 5 + 2, none⟩ = some (.int .i64 s.b) ∧ w'.cell? ⟨b3, p3 + j * 5 + 3, none⟩ = some (.int .u64 s.n) ∧ w'.cell? ⟨b3, p3 + j * 5 + 4, none⟩ = some (Vs) ∧ w'.cell? ⟨c3, q3 + j * 5, none⟩ = some (.int .i64 t.o) ∧ w'.cell? ⟨c3, q3 + j * 5 + 1, none⟩ = some (.int .i64 t.a) ∧ w'.cell? ⟨c3, q3 + j * 5 + 2, none⟩ = some (.int .i64 t.b) ∧ w'.cell? ⟨c3, q3 + j * 5 + 3, none⟩ = some (.int .u64 t.n) ∧ w'.cell? ⟨c3, q3 + j * 5 + 4, none⟩ = some (Vt)) W'))
                      clear hr3 hs3 hrx hry hsk htk hcs hct HLX HLY
                      cases hst : sameIns s t with
                      | true =>
                        have HST := Lib.hid hst
                        clear hst
                        go_wp2_with fail
                        go_region_held3 (fun w' : World => w'.cell? ⟨wt.heap.size, 4, none⟩ = some (.slice (some ⟨b3, p3, none⟩) z.co.length n3z) ∧ w'.cell? ⟨w4.heap.size, 4, none⟩ = some (.slice (some ⟨c3, q3, none⟩) u.co.length n3u) ∧ w'.cell? ⟨b3, p3 + j * 5, none⟩ = some (.int .i64 s.o) ∧ w'.cell? ⟨b3, p3 + j * 5 + 1, none⟩ = some (.int .i64 s.a) ∧ w'.cell? ⟨b3, p3 + j * 5 + 2, none⟩ = some (.int .i64 s.b) ∧ w'.cell? ⟨b3, p3 + j * 5 + 3, none⟩ = some (.int .u64 s.n) ∧ w'.cell? ⟨b3, p3 + j * 5 + 4, none⟩ = some (Vs) ∧ w'.cell? ⟨c3, q3 + j * 5, none⟩ = some (.int .i64 t.o) ∧ w'.cell? ⟨c3, q3 + j * 5 + 1, none⟩ = some (.int .i64 t.a) ∧ w'.cell? ⟨c3, q3 + j * 5 + 2, none⟩ = some (.int .i64 t.b) ∧ w'.cell? ⟨c3, q3 + j * 5 + 3, none⟩ = some (.int .u64 t.n) ∧ w'.cell? ⟨c3, q3 + j * 5 + 4, none⟩ = some (Vt))
                          (first | exact hkeep.out _ (by (repeat (first | with_reducible exact Kp.refl _ | with_reducible refine Kp.alloc ?_ _ | with_reducible refine Kp.drew ?_ | with_reducible refine Kp.back (by assumption) ?_))))
                          ((go_at_call 35; (with_reducible refine (c_SameInstr s t _ _ _ (goodN.keep HLX2.out (by (repeat (first | with_reducible exact Kp.refl _ | with_reducible refine Kp.alloc ?_ _ | with_reducible refine Kp.drew ?_ | with_reducible refine Kp.back (by assumption) ?_)))) (goodN.keep HLY2.out (by (repeat (first | with_reducible exact Kp.refl _ | with_reducible refine Kp.alloc ?_ _ | with_reducible refine Kp.drew ?_ | with_reducible refine Kp.back (by assumption) ?_))))).mono ?_); rintro e w9 ⟨rfl, hk9⟩; rw [HST.out]))
                        go_wp2_with fail
                        go_roundw
                        case rel => exact ⟨j + 1, by omega, by go_num, all_next HB.out HSK.out HTK.out HST.out, HK8.out.trans (by (repeat (first | with_reducible exact Kp.refl _ | with_reducible refine Kp.alloc ?_ _ | with_reducible refine Kp.drew ?_ | with_reducible refine Kp.back (by assumption) ?_)))⟩
                        case measure => simp [intOf]; omega
                      | false =>
                        have HST := Lib.hid hst
                        clear hst
                        go_wp2_with fail
                        go_region_held3 (fun w' : World => w'.cell? ⟨wt.heap.size, 4, none⟩ = some (.slice (some ⟨b3, p3, none⟩) z.co.length n3z) ∧ w'.cell? ⟨w4.heap.size, 4, none⟩ = some (.slice (some ⟨c3, q3, none⟩) u.co.length n3u) ∧ w'.cell? ⟨b3, p3 + j * 5, none⟩ = some (.int .i64 s.o) ∧ w'.cell? ⟨b3, p3 + j * 5 + 1, none⟩ = some (.int .i64 s.a) ∧ w'.cell? ⟨b3, p3 + j * 5 + 2, none⟩ = some (.int .i64 s.b) ∧ w'.cell? ⟨b3, p3 + j * 5 + 3, none⟩ = some (.int .u64 s.n) ∧ w'.cell? ⟨b3, p3 + j * 5 + 4, none⟩ = some (Vs) ∧ w'.cell? ⟨c3, q3 + j * 5, none⟩ = some (.int .i64 t.o) ∧ w'.cell? ⟨c3, q3 + j * 5 + 1, none⟩ = some (.int .i64 t.a) ∧ w'.cell? ⟨c3, q3 + j * 5 + 2, none⟩ = some (.int .i64 t.b) ∧ w'.cell? ⟨c3, q3 + j * 5 + 3, none⟩ = some (.int .u64 t.n) ∧ w'.cell? ⟨c3, q3 + j * 5 + 4, none⟩ = some (Vt))
                          (first | exact hkeep.out _ (by (repeat (first | with_reducible exact Kp.refl _ | with_reducible refine Kp.alloc ?_ _ | with_reducible refine Kp.drew ?_ | with_reducible refine Kp.back (by assumption) ?_))))
                          ((go_at_call 35; (with_reducible refine (c_SameInstr s t _ _ _ (goodN.keep HLX2.out (by (repeat (first | with_reducible exact Kp.refl _ | with_reducible refine Kp.alloc ?_ _ | with_reducible refine Kp.drew ?_ | with_reducible refine Kp.back (by assumption) ?_)))) (goodN.keep HLY2.out (by (repeat (first | with_reducible exact Kp.refl _ | with_reducible refine Kp.alloc ?_ _ | with_reducible refine Kp.drew ?_ | with_reducible refine Kp.back (by assumption) ?_))))).mono ?_); rintro e w9 ⟨rfl, hk9⟩; rw [HST.out]))
                        go_wp2_with fail
                        go_ret
                        exact tell (by simp [sameMo, HA1.out, sameL_bad HXK.out HYK.out (show sameFu z u = false by simp [sameFu, g0, g1, G2.out, G3.out, sameL_bad HSK.out HTK.out HST.out])]) (((HK0.out.trans HK2.out).trans KW.out).trans (by (repeat (first | with_reducible exact Kp.refl _ | with_reducible refine Kp.alloc ?_ _ | with_reducible refine Kp.drew ?_ | with_reducible refine Kp.back (by assumption) ?_))))
                    · have HST := Lib.hid (show sameL sameIns z.co u.co = true from sameL_all HL3.out (fun i x y hx hy => HB.out i x y (by have := (List.getElem?_eq_some_iff.1 hx).1; omega) hx hy))
                      go_wp2_with fail
                      go_roundw
                      case rel => exact ⟨k2 + 1, by omega, by go_num, all_next HA.out HXK.out HYK.out (by simp [sameFu, g0, g1, G2.out, G3.out, HST.out]), HK2.out.trans ((HK4.out.trans (HK5.out.trans (HK6.out.trans HK7.out))).trans HK8.out)⟩
                      case measure => simp [intOf]; omega
        · have HA2 := Lib.hid (show sameL sameFu x.fu y.fu = true from sameL_all HL2.out (fun i x y hx hy => HA.out i x y (by have := (List.getElem?_eq_some_iff.1 hx).1; omega) hx hy))
          go_wp2_with fail
          go_ret
          exact tell (by simp [sameMo, HA1.out, HA2.out]) (HK0.out.trans HK2.out)
end Go.Proofs.Ytlhiaompcgdmfaa
