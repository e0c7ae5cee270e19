/- Both heaps are alike: same objects, same cells. Condition: both heaps lie in memory, and hold the same. -/
import Derived.Test.YtkaeigklhdpifaaB2
namespace Go.Proofs.Ytkaeigklhdpifaa
open Go.RowKit Go.Maps Go.Sort
set_option linter.unusedVariables false
set_option linter.unusedSimpArgs false
theorem infoRO : (Try.prog.info? 50).map (·.size) = some 3 := by kernel_rfl
/-- An object of the reference's list. -/
theorem RP.ob {w : World} {M : Nat → Prop} {q bud : Nat} {S : Hs} (h : RP w M q bud S) {j : Nat} {o : Ob} (hj : S[j]? = some o) : ∃ b z a1 p1 a2 p2, w.rangeAt b (z + j * 3) [.int .i64 o.nm, .slice a1 o.cs.length p1, .slice a2 o.cs.length p2] ∧ (∃ c, w.cell? ⟨q, 0, none⟩ = some (.slice (some ⟨b, z, none⟩) S.length c)) ∧ NV w 31 (numsV o.cs) (.slice a1 o.cs.length p1) ∧ NV w 4 (refsV o.cs) (.slice a2 o.cs.length p2) := by
  obtain ⟨a, c, cv, rv, h1, hlc, _, _, ht, hro⟩ := h.list
  have hl := (List.getElem?_eq_some_iff.1 hj).1
  obtain ⟨b, z, ha, hr⟩ := ht.at (by omega)
  have := hr j hl
  rw [objC_at hj] at this
  obtain ⟨hn, hb⟩ := hro.ob o (List.mem_of_getElem? hj)
  obtain ⟨a1, p1, e1⟩ := hn.slice
  obtain ⟨a2, p2, e2⟩ := hb.slice
  rw [numsV_len] at e1
  rw [refsV_len] at e2
  rw [e1, e2] at this
  rw [e1] at hn
  rw [e2] at hb
  subst ha
  exact ⟨b, z, a1, p1, a2, p2, this, ⟨c, (row2 h1).1⟩, hn, hb⟩
set_option maxHeartbeats 4000000 in
set_option maxRecDepth 100000 in
theorem c_alike {N M : Nat → Prop} {p q bud : Nat} {S : Hs} (w : World) (h : Bo w N p M q bud S) :
    Calls Try.prog 15 #[.pointer (some ⟨p, 0, none⟩), .pointer (some ⟨q, 0, none⟩)] w fun e w' => e = .returned (.bool true) ∧ Kp w w' := by
  have hSl := h.ok.len
  have HH := Lib.hid h
  clear h
  go_enter Try.func15, Try.ntmps15
  go_upto_region 2 with (go_at_call 24; (with_reducible refine (c_names w HH.out.hp HH.out.ok).mono ?_); rintro e w1 ⟨u, rfl, h1, h2⟩; have I1 := Lib.hid h1; have K1 := Lib.hid h2; obtain ⟨au, cu, hu⟩ := h1.sl; rw [List.length_map] at hu; subst hu; clear h1 h2)
  have H1 := Lib.hid (HH.out.keep K1.out)
  obtain ⟨aq, cq, _, _, hq1, _⟩ := H1.out.rp.list
  obtain ⟨q0, q1⟩ := row2 hq1
  have qz := row_lt hq1
  clear hq1
  go_upto_region 4 with (first
    | (go_at_call 29; (with_reducible refine (c_Used w1 H1.out.hp).mono ?_); rintro e w' ⟨rfl, hw'⟩; rw [hw']; clear hw' w')
    | (go_at_call 30; (with_reducible refine (c_rUsed w1 H1.out.rp H1.out.ok).mono ?_); rintro e w' ⟨rfl, hw'⟩; rw [hw']; clear hw' w'))
  clear q0 q1
  go_wp2_with fail
  go_loopw [7] (fun i wr => ∃ j : Nat, j ≤ S.length ∧ i = .int .i64 (j : Int) ∧ Kp w1 wr) (fun i _ => S.length - (intOf i).toNat)
  case atStart => exact ⟨0, by omega, rfl, Kp.refl _⟩
  case round =>
    obtain ⟨wo, hwo⟩ : ∃ wo, wo = wr := ⟨_, rfl⟩
    subst hwo
    obtain ⟨j, hj, rfl, hkr⟩ := hrel
    have KR := Lib.hid hkr
    by_cases hlt : j < S.length
    · obtain ⟨o, ho⟩ : ∃ o, S[j]? = some o := ⟨_, List.getElem?_eq_getElem hlt⟩
      obtain ⟨b, z, a1, p1, a2, p2, hr, ⟨c, hc⟩, hn1, hn2⟩ := (H1.out.rp.keep hkr).ob ho
      have hqz := Nat.lt_of_lt_of_le qz hkr.sz
      obtain ⟨bu, zu, rfl, e0, eb, _⟩ := RL.at1 (I1.out.keep goodI hkr) (k := j) (x := o.nm) (by rw [List.getElem?_map, ho]; rfl)
      have hhas : hasN S o.nm = true := hasN_iff.2 ⟨o, List.mem_of_getElem? ho, rfl⟩
      have hget := H1.out.ok.get (List.mem_of_getElem? ho)
      have hl0 : lenP S o.nm = o.cs.length := by unfold lenP; rw [hget]
      have hi64 := H1.out.ok.i64s o.nm (List.mem_map.2 ⟨o, List.mem_of_getElem? ho, rfl⟩)
      have hol : o.cs.length ≤ 65536 := by have := used_mem (List.mem_of_getElem? ho); have := H1.out.ok.fit; have := H1.out.ok.bud; omega
      have HR := Lib.hid hr
      have HN1 := Lib.hid hn1
      have HN2 := Lib.hid hn2
      have HHas := Lib.hid (show has15 (hasN S o.nm) = 0 by rw [hhas]; rfl)
      have HGet := Lib.hid hget
      have HL0 := Lib.hid hl0
      have HI := Lib.hid hi64
      clear hr hn1 hn2 hhas hget hl0 hi64 hkr ho
      go_upto_region 8 with (first
        | ((with_reducible show wpList _ _ _ (⟨some 50, _, _, _, _, _⟩ :: _) _ _); refine wpList_index_tab (d := 50) _ _ _ rfl 50 Try.underlying51 3 rfl _ _ _ _ z (by rfl) rfl j (by rfl) hlt ?_)
        | ((with_reducible show wpList _ _ _ (⟨some 51, _, _, _, _, _⟩ :: _) _ _); refine wpList_load_range (d := 51) _ _ rfl _ Try.underlying50 wo _ _ _ _ (by rfl) rfl rfl _ HR.out (Kp.refl _) (by rfl) ?_))
      have hq4 : (wo.alloc (.cells #[.int .i64 o.nm, .slice a1 o.cs.length p1, .slice a2 o.cs.length p2] 50)).heap[wo.heap.size]? = some (.cells #[.int .i64 o.nm, .slice a1 o.cs.length p1, .slice a2 o.cs.length p2] 50 (0, 0)) := heap_at rfl
      have hk4 := (Kp.refl wo).alloc (.cells #[.int .i64 o.nm, .slice a1 o.cs.length p1, .slice a2 o.cs.length p2] 50)
      obtain ⟨w4, hw4⟩ : ∃ w4, w4 = wo.alloc (.cells #[.int .i64 o.nm, .slice a1 o.cs.length p1, .slice a2 o.cs.length p2] 50) := ⟨_, rfl⟩
      rw [← hw4] at hq4 hk4 ⊢
      clear hw4
      have HB4 := Lib.hid hq4
      have K4 := Lib.hid hk4
      obtain ⟨d0, d1, d2⟩ := row3 hq4
      have dz := row_lt hq4
      have e4 := hk4.cellv e0
      have eb4 := Nat.lt_of_lt_of_le eb hk4.sz
      clear hq4 hk4
      go_upto_region 9 with (go_at_call 21; (with_reducible refine (c_Len o.nm w4 (H1.out.hp.keep (KR.out.trans K4.out)) H1.out.ok HI.out).mono ?_); rintro e w' ⟨rfl, hw'⟩; rw [hw', HL0.out, HHas.out]; clear hw' w')
      go_region_held3 (fun w' : World => w'.cell? ⟨bu, zu + j, none⟩ = some (.int .i64 o.nm) ∧ w'.cell? ⟨wo.heap.size, 0, none⟩ = some (.int .i64 o.nm) ∧ w'.cell? ⟨wo.heap.size, 1, none⟩ = some (.slice a1 o.cs.length p1)) (exact ⟨e4, d0, d1⟩) (fail)
      go_wp2_with fail
      go_loopw [11] (fun i wt => ∃ t : Nat, t ≤ o.cs.length ∧ i = .int .i64 (t : Int) ∧ Kp w4 wt) (fun i _ => o.cs.length - (intOf i).toNat)
      case atStart => exact ⟨0, by omega, rfl, (Kp.refl _).drew⟩
      case round =>
        obtain ⟨t, ht, rfl, hkt⟩ := hrel
        obtain ⟨wt, hwt⟩ : ∃ wt, wt = wr := ⟨_, rfl⟩
        subst hwt
        have KT := Lib.hid hkt
        obtain ⟨d0, d1, d2⟩ := row3 (row_keep hkt HB4.out)
        have dz := row_lt (row_keep hkt HB4.out)
        have e5 := hkt.cellv e4
        have eb5 := Nat.lt_of_lt_of_le eb4 hkt.sz
        by_cases hlt2 : t < o.cs.length
        · obtain ⟨d, hd⟩ : ∃ d, o.cs[t]? = some d := ⟨_, List.getElem?_eq_getElem hlt2⟩
          have HE := Lib.hid (cellP_in HGet.out (i := (t : Int)) (by omega) (by simpa using hd))
          obtain ⟨g1, s1, hv1, f1, _, y1, _⟩ := HN1.out.at (numsV_at hd)
          obtain ⟨g2, s2, hv2, f2, _, y2, _⟩ := HN2.out.at (refsV_at hd)
          rw [numsV_len] at hv1
          rw [refsV_len] at hv2
          cases hv1
          cases hv2
          have ht64 : i64 (t : Int) := by unfold i64; omega
          have HT64 := Lib.hid ht64
          clear hd hkt ht64
          go_wp2_with (go_at_call 22; (with_reducible refine (c_Get o.nm (t : Int) wt (H1.out.hp.keep ((KR.out.trans K4.out).trans KT.out)) H1.out.ok HI.out HT64.out).mono ?_); rintro e w6 ⟨rfl, hk6⟩; rw [HE.out]; have K6 := Lib.hid hk6; obtain ⟨d0, d1, d2⟩ := row3 (row_keep (KT.out.trans hk6) HB4.out); have dz := row_lt (row_keep (KT.out.trans hk6) HB4.out); have f1 := ((K4.out.trans KT.out).trans hk6).cellv f1; have f2 := ((K4.out.trans KT.out).trans hk6).cellv f2; have y1 := Nat.lt_of_lt_of_le y1 ((K4.out.trans KT.out).trans hk6).sz; have y2 := Nat.lt_of_lt_of_le y2 ((K4.out.trans KT.out).trans hk6).sz; clear hk6)
          go_roundw
          case rel => exact ⟨t + 1, by omega, by go_num, KT.out.trans K6.out⟩
          case measure => simp [intOf]; omega
        · clear hkt
          go_wp2_with fail
          go_roundw
          case rel => exact ⟨j + 1, by omega, by go_num, (KR.out.trans K4.out).trans KT.out⟩
          case measure => simp [intOf]; omega
    · clear hkr
      go_wp2_with fail
      go_ret
      exact ⟨rfl, K1.out.trans KR.out⟩
end Go.Proofs.Ytkaeigklhdpifaa
