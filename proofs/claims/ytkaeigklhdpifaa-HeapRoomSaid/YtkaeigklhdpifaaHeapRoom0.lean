/- The walk of HeapRoom. Condition: the arguments lie in memory. -/
import Derived.Test.YtkaeigklhdpifaaB3
import Derived.Test.YtkaeigklhdpifaaP1
namespace Go.Proofs.Ytkaeigklhdpifaa
open Go.RowKit Go.Maps Go.Sort
set_option linter.unusedVariables false
set_option linter.unusedSimpArgs false
theorem used_next {S : Hs} {j : Nat} {o : Ob} (h : S[j]? = some o) : used (S.take (j + 1)) = used (S.take j) + 1 + o.cs.length := by
  rw [List.take_add_one, h, used_append]
  show used (S.take j) + used [o] = _
  rw [used_cons, used_nil]; omega
/-- Where an object of what is reached lies in the list. -/
theorem at_col {S : Hs} {bud : Nat} (ok : Ok S bud) {roots : List Int} {o : Ob} (h : o ∈ col S roots) : ∃ i : Nat, S[i]? = some o ∧ atI S o.nm = (i : Int) := by
  have hm := (col_mem.1 h).1
  rcases atI_cases ok o.nm with ⟨h1, _⟩ | ⟨_, i, b, hb, hn, ha, hg⟩
  · rw [hasN_mem hm] at h1; cases h1
  · have := ok.uniq (List.mem_of_getElem? hb) hm hn
    subst this
    exact ⟨i, hb, ha⟩
theorem range3 {w : World} {b o : Nat} {x0 x1 x2 : Value} (h : w.rangeAt b o [x0, x1, x2]) : w.cell? ⟨b, o, none⟩ = some x0 ∧ w.cell? ⟨b, o + 1, none⟩ = some x1 ∧ w.cell? ⟨b, o + 2, none⟩ = some x2 := ⟨h 0 _ rfl, h 1 _ rfl, h 2 _ rfl⟩
set_option maxHeartbeats 4000000 in
set_option maxRecDepth 100000 in
theorem law_HeapRoom (cells : Int) (l : List Ac) (v : Value) (refs : List Bool) (vr : Value) (roots : List Int) (vl : Value) (w : World) (hc : i64 cells) (hl : AL w A0 l v) (hr : BoL w A0 refs vr) (ho : IL w A0 roots vl) :
    Calls Try.prog 4 #[.int .i64 cells, v, vr, vl] w fun e w' => e = .returned (.bool true) ∧ Kp w w' := by
  obtain ⟨a, c, rfl, hll⟩ := hl.shape (by decide)
  obtain ⟨ar, cr, rfl, hrl⟩ := hr.shape (by decide)
  obtain ⟨al, cl, rfl⟩ := ho.sl
  obtain ⟨iB, hIB, hB0, hB1, hB2⟩ := info_parts infoBo
  have HL := Lib.hid hl
  have HBo := Lib.hid (RL.below goodBo hr (Nat.le_refl _))
  have HIl := Lib.hid (RL.below goodI ho (Nat.le_refl _))
  have HC := Lib.hid hc
  clear hl hr ho hc
  go_enter Try.func4, Try.ntmps4
  go_upto_region 4 with (first
    | (go_at_call 16; (with_reducible refine (c_grown cells l _ w HL.out HC.out).mono ?_); rintro e w1 ⟨p, q, bud, S, N, M, rfl, hg⟩; have G1 := Lib.hid hg; clear hg)
    | (go_at_call 12; (with_reducible refine (c_answers w1).mono ?_); rintro e w2 ⟨rfl, hk⟩; have G := Lib.hid (G1.out.keep hk); clear hk))
  have HB := Lib.hid G.out.bo
  have hsz := HB.out.ok.fit
  have hbu := HB.out.ok.bud
  obtain ⟨r1, r2, hre⟩ : ∃ r1 r2, reachP S roots = (r1, r2) := ⟨_, _, rfl⟩
  obtain ⟨S', o1, f1, hal⟩ : ∃ S' o1 f1, allocP bud S refs roots = (S', o1, f1) := ⟨_, _, _, rfl⟩
  have HRE := Lib.hid hre
  have HAL := Lib.hid hal
  go_upto_region 6 with (first
    | (go_at_call 17; (with_reducible refine (c_rReach roots _ _ w2 HB.out.rp HB.out.ok (HIl.out.keep goodI G.out.kp)).mono ?_); rintro e w3 ⟨u3, rfl, g1, g2⟩; rw [HRE.out] at g1 ⊢; obtain ⟨a3, c3, rfl⟩ := g1.sl; have I3 := Lib.hid g1; have K3 := Lib.hid g2; clear g1 g2)
    | ((with_reducible show wpList _ _ _ (⟨some 46, _, _, _, _, _⟩ :: _) _ _); refine wpList_append_copy flatBo (d := 46) _ _ 32 rfl 4 iB _ 1 1 Try.underlying32 hIB hB0 hB1 hB2 rfl (by decide) (by decide) _ 0 #[] (by rfl) (heap_at rfl) rfl w3.heap.size (Nat.le_refl _) w3 _ refs _ (by rfl) (HBo.out.keep goodBo (G.out.kp.trans K3.out)) ((Kp.refl w3).alloc _) ?_; intro a4 c4 w4 hl4 hg4; have R4 := Lib.hid hl4; have K4 := Lib.hid (((Kp.refl w3).alloc (.cells #[] 4)).grown hg4 (fun k hk => by cases hk; exact Nat.le_refl _)); clear hl4 hg4)
    | (go_at_call 19; (with_reducible refine (c_ints roots _ _ w4 (HIl.out.keep goodI ((G.out.kp.trans K3.out).trans K4.out))).mono ?_); rintro e w5 ⟨u5, rfl, g1, g2⟩; obtain ⟨a5, c5, rfl⟩ := g1.sl; have I5 := Lib.hid g1; have K5 := Lib.hid g2; clear g1 g2)
    | (go_at_call 18; (with_reducible refine (c_Alloc refs _ (From w3.heap.size) roots _ _ w5 (HB.out.hp.keep ((K3.out.trans K4.out).trans K5.out)) HB.out.ok (R4.out.keep goodBo K5.out) (selF (HB.out.hp.keep K3.out)) I5.out).mono ?_); rintro e w6 ⟨rfl, N6, g1, g2, _⟩; rw [HAL.out] at g1 ⊢; have H6 := Lib.hid g1; have T6 := Lib.hid (((K4.out.trans K5.out).tr N).trans g2 (fun _ _ h => h)); clear g1 g2))
  have hK : Kp w w6 := T6.out.old (G.out.kp.trans K3.out) G.out.n0
  have HK := Lib.hid hK
  have R6 := Lib.hid ((HB.out.rp.keep K3.out).tr T6.out (ap_sym HB.out.ap))
  have I6 := Lib.hid (T6.out.rl goodI I3.out (fun b _ h => selF HB.out.hp b h))
  have hok6 : Ok S' bud := by have := HB.out.ok.allocP refs roots; rw [hal] at this; exact this
  have OK6 := Lib.hid hok6
  obtain ⟨aq, cq, _, _, hq2, _⟩ := HB.out.rp.list
  have hq6 := T6.out.row (row_keep K3.out hq2) (fun hn => HB.out.ap q hn HB.out.rp.nq)
  clear hq2
  have HQ6 := Lib.hid hq6
  clear hK hok6 hq6
  by_cases href : 262146 < refs.length ∨ knownR S roots = false
  · have hf := alloc_refused (bud := bud) href
    rw [hal] at hf
    cases hkn : knownR S roots with
    | false =>
      have h2 := hre.symm.trans (reachP_unknown hkn)
      cases h2
      clear hre hal hkn href
      rcases hf with rfl | rfl
      · go_wp2_with fail
        go_ret
        exact ⟨rfl, HK.out⟩
      · go_wp2_with fail
        go_ret
        exact ⟨rfl, HK.out⟩
    | true =>
      have h2 := hre.symm.trans (reachP_known hkn)
      cases h2
      have hbig : 262146 < refs.length := href.resolve_right (by rw [hkn]; decide)
      clear hre hal hkn href
      rcases hf with rfl | rfl
      · go_wp2_with fail
        go_ret
        exact ⟨rfl, HK.out⟩
      · go_wp2_with fail
        go_ret
        exact ⟨rfl, HK.out⟩
  · have hlen : refs.length ≤ 262146 := by omega
    have hkn : knownR S roots = true := by
      cases h : knownR S roots with
      | false => exact absurd (.inr h) href
      | true => rfl
    have h2 := hre.symm.trans (reachP_known hkn)
    cases h2
    have hfit := alloc_fits (bud := bud) hlen hkn
    rw [hal] at hfit
    have HFIT := Lib.hid hfit
    have HNAME := Lib.hid (fun (o : Ob) (h : o ∈ col S roots) => (by have := alloc_name HB.out.ok (refs := refs) h; rw [hal] at this; simpa using this : (o1 == o.nm) = false))
    have HMEM := Lib.hid (fun (o : Ob) (h : o ∈ col S roots) => (by have := alloc_mem (bud := bud) (refs := refs) h; rw [hal] at this; exact this : o ∈ S'))
    have hcl : (col S roots).length ≤ 65536 := by have := (HB.out.ok.col roots).len; exact this
    have hrl2 := rl_len S roots
    have hcu := col_used S roots
    clear hre hal hkn href hfit
    go_upto_region 9 with fail
    go_wp2_with fail
    go_loopw [15, 16] (fun lv i wr => ∃ j : Nat, j ≤ (col S roots).length ∧ i = .int .i64 (j : Int) ∧ lv = .int .i64 (used ((col S roots).take j) : Int) ∧ Kp w6 wr) (fun _ i _ => (col S roots).length - (intOf i).toNat)
    case atStart => exact ⟨0, by omega, rfl, rfl, Kp.refl _⟩
    case round =>
      obtain ⟨wo, hwo⟩ : ∃ wo, wo = wr := ⟨_, rfl⟩
      subst hwo
      obtain ⟨j, hj, rfl, rfl, hkr⟩ := hrel
      have KR := Lib.hid hkr
      have hut := used_take_le (col S roots) j
      by_cases hlt : j < (col S roots).length
      · obtain ⟨o, hoj⟩ : ∃ o, (col S roots)[j]? = some o := ⟨_, List.getElem?_eq_getElem hlt⟩
        have hom := List.mem_of_getElem? hoj
        obtain ⟨k, hk, hat⟩ := at_col HB.out.ok hom
        obtain ⟨b, z, a1, p1, a2, p2, hrg, ⟨cq, hq⟩, hn1, _⟩ := (R6.out.keep hkr).ob hk
        obtain ⟨_, r1, _⟩ := range3 hrg
        have hkS : k < S.length := (List.getElem?_eq_some_iff.1 hk).1
        have hSl := HB.out.ok.len
        obtain ⟨bu, zu, rfl, e0, eb, hi64⟩ := RL.at1 (I6.out.keep goodI hkr) (k := j) (x := o.nm) (by unfold rl; rw [List.getElem?_map, hoj]; rfl)
        have hom2 := HMEM.out o hom
        have hget := OK6.out.get hom2
        have hl0 : lenP S' o.nm = o.cs.length := by unfold lenP; rw [hget]
        have hol : o.cs.length ≤ 65536 := by have := used_mem hom2; have := OK6.out.fit; omega
        have hun := used_next hoj
        have hut2 := used_take_le (col S roots) (j + 1)
        have bname := HNAME.out o hom
        have HAT := Lib.hid hat
        have HGet := Lib.hid hget
        have HL0 := Lib.hid hl0
        have HH15 := Lib.hid (show has15 (hasN S' o.nm) = 0 by rw [hasN_mem hom2]; rfl)
        have HI := Lib.hid hi64
        have HN1 := Lib.hid hn1
        have HUN := Lib.hid hun
        clear hat hget hl0 hi64 hkr hom hom2 hoj hk hrg hn1
        go_upto_region 17 with (first
          | (go_at_call 20; (with_reducible refine (c_At o.nm wo (R6.out.keep KR.out) HB.out.ok HI.out).mono ?_); rintro e w' ⟨rfl, hw'⟩; rw [hw', HAT.out]; clear hw' w')
          | (go_at_call 21; (with_reducible refine (c_Len o.nm wo (H6.out.keep KR.out) OK6.out HI.out).mono ?_); rintro e w' ⟨rfl, hw'⟩; rw [hw', HL0.out, HH15.out]; clear hw' w'))
        go_wp2_with fail
        go_loopw [20] (fun i wt => ∃ t : Nat, t ≤ o.cs.length ∧ i = .int .i64 (t : Int) ∧ Kp wo wt) (fun i _ => o.cs.length - (intOf i).toNat)
        case atStart => exact ⟨0, by omega, rfl, Kp.refl _⟩
        case round =>
          obtain ⟨t, ht, rfl, hkt⟩ := hrel
          obtain ⟨wt, hwt⟩ : ∃ wt, wt = wr := ⟨_, rfl⟩
          subst hwt
          have KT := Lib.hid hkt
          have e5 := hkt.cellv e0
          have eb5 := Nat.lt_of_lt_of_le eb hkt.sz
          by_cases hlt2 : t < o.cs.length
          · obtain ⟨d, hd⟩ : ∃ d, o.cs[t]? = some d := ⟨_, List.getElem?_eq_getElem hlt2⟩
            have HE := Lib.hid (cellP_in HGet.out (i := (t : Int)) (by omega) (by simpa using hd))
            obtain ⟨g1, s1, hv1, f1, _, y1, _⟩ := HN1.out.at (numsV_at hd)
            rw [numsV_len] at hv1
            cases hv1
            have ht64 : i64 (t : Int) := by unfold i64; omega
            have HT64 := Lib.hid ht64
            clear hd hkt ht64
            go_wp2_with (go_at_call 22; (with_reducible refine (c_Get o.nm (t : Int) wt (H6.out.keep (KR.out.trans KT.out)) OK6.out HI.out HT64.out).mono ?_); rintro e w7 ⟨rfl, hk7⟩; rw [HE.out]; have K7 := Lib.hid hk7; have hq := (KT.out.trans hk7).cellv hq; have r1 := (KT.out.trans hk7).cellv r1; have f1 := (KT.out.trans hk7).cellv f1; clear hk7)
            go_roundw
            case rel => exact ⟨t + 1, by omega, by go_num, KT.out.trans K7.out⟩
            case measure => simp [intOf]; omega
          · clear hkt
            go_wp2_with fail
            go_roundw
            case rel => exact ⟨j + 1, by omega, by go_num, by rw [HUN.out]; go_num, KR.out.trans KT.out⟩
            case measure => simp [intOf]; omega
      · have hjj : j = (col S roots).length := by omega
        subst hjj
        have htk : (col S roots).take (col S roots).length = col S roots := List.take_length
        rw [htk]
        clear hkr
        have hq7 := row_keep KR.out HQ6.out
        obtain ⟨q0, q1⟩ := row2 hq7
        have qz := row_lt hq7
        clear hq7
        rcases HFIT.out with ⟨h1, rfl⟩ | ⟨h1, rfl⟩
        · go_wp2_with fail
          go_ret
          exact ⟨rfl, HK.out.trans KR.out⟩
        · have hd : decide ((used (col S roots) : Int) + 1 + (refs.length : Int) ≤ (bud : Int)) = false := by rw [decide_eq_false_iff_not]; omega
          go_wp2_with fail
          go_ret
          exact ⟨by first | rfl | (rw [hd]; rfl), HK.out.trans KR.out⟩
end Go.Proofs.Ytkaeigklhdpifaa
