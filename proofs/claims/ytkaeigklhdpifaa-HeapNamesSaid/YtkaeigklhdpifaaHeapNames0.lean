/- The walk of HeapNames. Condition: the arguments lie in memory. -/
import Derived.Test.YtkaeigklhdpifaaB3
import Derived.Test.YtkaeigklhdpifaaP1
import Derived.Test.YtkaeigklhdpifaaR6
namespace Go.Proofs.Ytkaeigklhdpifaa
open Go.RowKit Go.Maps Go.Sort
set_option linter.unusedVariables false
set_option linter.unusedSimpArgs false
theorem hasL_iff {l : List Int} {k : Int} : hasL l k = true ↔ k ∈ l := by
  unfold hasL
  rw [List.any_eq_true]
  constructor
  · rintro ⟨x, hx, e⟩
    have : x = k := by simpa using e
    rw [← this]; exact hx
  · intro h
    exact ⟨k, h, by simp⟩
theorem hasL_names (S : Hs) (k : Int) : hasL (S.map (·.nm)) k = hasN S k := by
  rw [Bool.eq_iff_iff, hasL_iff, hasN_iff, List.mem_map]
theorem hasL_false {l : List Int} {k : Int} (h : k ∉ l) : hasL l k = false := by
  cases e : hasL l k with
  | false => rfl
  | true => exact absurd (hasL_iff.1 e) h
theorem take_names {S : Hs} {i : Nat} {o : Ob} (h : S[i]? = some o) : (S.take (i + 1)).map (·.nm) = (S.take i).map (·.nm) ++ [o.nm] := by
  rw [List.take_add_one, h, List.map_append]; rfl
set_option maxHeartbeats 4000000 in
set_option maxRecDepth 100000 in
theorem law_HeapNames (cells : Int) (l : List Ac) (v : Value) (refs : List Bool) (vr : Value) (w : World) (hc : i64 cells) (hl : AL w A0 l v) (hr : BoL w A0 refs vr) :
    Calls Try.prog 9 #[.int .i64 cells, v, vr] w fun e w' => e = .returned (.bool true) ∧ Kp w w' := by
  obtain ⟨a, c, rfl, hll⟩ := hl.shape (by decide)
  obtain ⟨ar, cr, rfl, hrl⟩ := hr.shape (by decide)
  obtain ⟨iB, hIB, hB0, hB1, hB2⟩ := info_parts infoBo
  obtain ⟨iI, hI, hI0, hI1, hI2⟩ := info_parts infoI
  have HL := Lib.hid hl
  have HBo := Lib.hid (RL.below goodBo hr (Nat.le_refl _))
  have HC := Lib.hid hc
  clear hl hr hc
  go_enter Try.func9, Try.ntmps9
  go_upto_region 2 with (first
    | (go_at_call 16; (with_reducible refine (c_grown cells l _ w HL.out HC.out).mono ?_); rintro e w1 ⟨p, q, bud, S, N, M, rfl, hg⟩; have G1 := Lib.hid hg; clear hg))
  by_cases hbig : 1000 < refs.length
  · go_wp2_with (first
      | (go_at_call 12; (with_reducible refine (c_answers w1).mono ?_); rintro e w2 ⟨rfl, hk⟩; have G := Lib.hid (G1.out.keep hk); clear hk)
      | (go_at_call 12; (with_reducible refine (c_answers w2).mono ?_); rintro e w3 ⟨rfl, hk⟩; have G3 := Lib.hid (G.out.keep hk); clear hk))
    go_ret
    exact ⟨rfl, G3.out.kp⟩
  · have hsm : refs.length ≤ 1000 := by omega
    have hb0 : decide ((1000 : Int) < (refs.length : Int)) = false := by rw [decide_eq_false_iff_not]; omega
    clear hbig
    go_upto_region 4 with (first
      | (go_at_call 12; (with_reducible refine (c_answers w1).mono ?_); rintro e w2 ⟨rfl, hk⟩; have G := Lib.hid (G1.out.keep hk); clear hk))
    have HB := Lib.hid G.out.bo
    have hsz := HB.out.ok.fit
    have hbu := HB.out.ok.bud
    have hSl := HB.out.ok.len
    go_wp2_with fail
    go_loopw [9, 10] (fun lv iv wr => ∃ (i : Nat) (a2 : Option Addr) (c2 : Nat), lv = .slice a2 i c2 ∧ i ≤ S.length ∧ iv = .int .i64 (i : Int) ∧ Kp w2 wr ∧ wr.ownsRow w2.heap.size 3 1 (.slice a2 i c2) i (((S.take i).map (·.nm)).map encZ)) (fun _ iv _ => S.length - (intOf iv).toNat)
    case atStart => exact ⟨0, none, 0, rfl, by omega, rfl, Kp.refl _, World.ownsRow_nil _ _ _ _⟩
    case round =>
      obtain ⟨i, a2, c2, rfl, hi, rfl, hkp, hown⟩ := hrel
      have KA := Lib.hid hkp
      have OW := Lib.hid hown
      by_cases hil : i < S.length
      · obtain ⟨o, hio⟩ : ∃ o, S[i]? = some o := ⟨_, List.getElem?_eq_getElem hil⟩
        have HIO := Lib.hid hio
        obtain ⟨b, z, a1, p1, a3, p3, hrg, ⟨cq, hq⟩, _, _⟩ := (HB.out.rp.keep hkp).ob hio
        have r0 := rangeAt_head hrg
        have rz := lt_of_cell r0
        have qz := lt_of_cell hq
        have hzz := hkp.sz
        clear hkp hown hio hrg
        go_wp2_with (((with_reducible show wpList _ _ _ (⟨some 61, _, _, _, _, _⟩ :: _) _ _); refine wpList_append_one (d := 61) _ _ 33 rfl w2.heap.size 3 iI _ 1 8 Try.underlying33 hI hI0 hI1 hI2 rfl (by decide) (.slice a2 i c2) i _ (by rfl) _ OW.out [.int .i64 o.nm] _ _ _ (by rfl) (by first | rfl | simp) (by rfl) (by rfl) (by intro u hu; simp at hu; rcases hu with rfl | rfl | rfl | rfl | rfl | rfl | rfl <;> rfl) (by unfold maxLen; omega) (by omega) (by first | omega | (simp; omega)) ?_; intro v1 w1 ho1 hg1; obtain ⟨a3, c3, rfl⟩ := own_slice ho1; have HV2 := Lib.hid ho1; have HG2 := Lib.hid hg1; clear ho1 hg1))
        go_roundw
        case rel =>
          refine ⟨i + 1, a3, c3, by rfl, by omega, by go_num, (KA.out.alloc _).grown HG2.out (fun k hk => (OW.out.lt k hk).1), ?_⟩
          rw [take_names HIO.out, List.map_append]
          exact HV2.out
        case measure => simp [intOf]; omega
      · have hie : i = S.length := by omega
        subst hie
        have hIall : IL wr (From w2.heap.size) (S.map (·.nm)) (.slice a2 S.length c2) := by
          have := OW.out
          rw [List.take_of_length_le (Nat.le_refl _)] at this
          exact il_of_own (l := S.map (·.nm)) (by rw [List.length_map]; exact this) HB.out.ok.i64s HB.out.ok.names_len
        obtain ⟨wA, hwA⟩ : ∃ wA, wA = wr := ⟨_, rfl⟩
        subst hwA
        have IA := Lib.hid hIall
        obtain ⟨aq0, cq0, _, _, hq0, _⟩ := (HB.out.rp.keep hkp).list
        obtain ⟨q0, q1⟩ := row2 hq0
        have qz := row_lt hq0
        clear hIall hkp hown hq0
        obtain ⟨S', o1, f1, hal⟩ : ∃ S' o1 f1, allocP bud S refs (S.map (·.nm)) = (S', o1, f1) := ⟨_, _, _, rfl⟩
        have HAL := Lib.hid hal
        go_upto_region 10 with (first
          | ((with_reducible show wpList _ _ _ (⟨some 66, _, _, _, _, _⟩ :: _) _ _); refine wpList_append_copy flatBo (d := 66) _ _ 32 rfl 4 iB _ 1 1 Try.underlying32 hIB hB0 hB1 hB2 rfl (by decide) (by decide) _ 0 #[] (by rfl) (heap_at rfl) rfl wA.heap.size (Nat.le_refl _) wA _ refs _ (by rfl) (HBo.out.keep goodBo (G.out.kp.trans KA.out)) ((Kp.refl wA).alloc _) ?_; intro a4 c4 w4 hl4 hg4; have R4 := Lib.hid hl4; have K4 := Lib.hid (((Kp.refl wA).alloc (.cells #[] 4)).grown hg4 (fun k hk => by cases hk; exact Nat.le_refl _)); clear hl4 hg4)
          | (go_at_call 19; (with_reducible refine (c_ints (S.map (·.nm)) _ _ w4 (IA.out.keep goodI K4.out)).mono ?_); rintro e w5 ⟨u5, rfl, g1, g2⟩; obtain ⟨a5, c5, hu5⟩ := g1.sl; rw [List.length_map] at hu5; subst hu5; have I5 := Lib.hid g1; have K5 := Lib.hid g2; clear g1 g2)
          | (go_at_call 18; (with_reducible refine (c_Alloc refs _ (From wA.heap.size) (S.map (·.nm)) _ _ w5 (HB.out.hp.keep ((KA.out.trans K4.out).trans K5.out)) HB.out.ok (R4.out.keep goodBo K5.out) (selF (HB.out.hp.keep KA.out)) I5.out).mono ?_); rintro e w6 ⟨rfl, N6, g1, g2, _⟩; rw [HAL.out] at g1 ⊢; have H6 := Lib.hid g1; have T6 := Lib.hid (((K4.out.trans K5.out).tr N).trans g2 (fun _ _ h => h)); clear g1 g2))
        have HK := Lib.hid (T6.out.old (G.out.kp.trans KA.out) G.out.n0)
        have R6 := Lib.hid ((HB.out.rp.keep KA.out).tr T6.out (ap_sym HB.out.ap))
        have I6 := Lib.hid (T6.out.rl goodI IA.out (fun b _ h => selF HB.out.hp b h))
        have hok6 : Ok S' bud := by have := HB.out.ok.allocP refs (S.map (·.nm)); rw [hal] at this; exact this
        have OK6 := Lib.hid hok6
        have h2 := hal.symm.trans (allocP_all (bud := bud) (S := S) (refs := refs) (by omega))
        clear hok6 hal
        by_cases hfit : used S + 1 + refs.length ≤ bud
        · rw [if_pos hfit] at h2
          cases h2
          have hpre := pre_le S 0
          have hb1 : decide ((pre S 0 : Int) + 1 < 1) = false := by rw [decide_eq_false_iff_not]; omega
          have hb2 : decide ((S.length : Int) + 1 < (pre S 0 : Int) + 1) = false := by rw [decide_eq_false_iff_not]; omega
          have hb3 : decide (S.length < pre S 0) = false := by rw [decide_eq_false_iff_not]; omega
          have HFree := Lib.hid (show hasL (S.map (·.nm)) ((pre S 0 : Int) + 1) = false by rw [hasL_names]; exact free_not HB.out.ok.up (fun o ho => (HB.out.ok.pos o ho).1))
          have HFit := Lib.hid hfit
          clear hfit
          go_upto_region 14 with (first
            | (go_at_call 27; (with_reducible refine (c_has (S.map (·.nm)) _ _ ((pre S 0 : Int) + 1) w6 I6.out).mono ?_); rintro e w' ⟨rfl, hw'⟩; rw [hw', HFree.out]; clear hw' w'))
          go_wp2_with fail
          go_loopw [13] (fun iv wr => ∃ k : Nat, k ≤ pre S 0 ∧ iv = .int .i64 ((k : Int) + 1) ∧ wr = w6) (fun iv _ => pre S 0 + 1 - (intOf iv).toNat)
          case atStart => exact ⟨0, by omega, rfl, rfl⟩
          case round =>
            obtain ⟨k, hk, rfl, hw⟩ := hrel
            subst hw
            by_cases hkl : k < pre S 0
            · have HHas := Lib.hid (show hasL (S.map (·.nm)) ((k : Int) + 1) = true by rw [hasL_names]; exact free_below (S := S) (j := k + 1) (by omega) (by omega))
              go_wp2_with (first
                | (go_at_call 27; (with_reducible refine (c_has (S.map (·.nm)) _ _ ((k : Int) + 1) wr I6.out).mono ?_); rintro e w' ⟨rfl, hw'⟩; rw [hw', HHas.out]; clear hw' w'))
              go_roundw
              case rel => exact ⟨k + 1, by omega, by go_num, trivial⟩
              case measure => simp [intOf]; omega
            · have hkk : k = pre S 0 := by omega
              subst hkk
              obtain ⟨w6, hw6⟩ : ∃ w6, w6 = wr := ⟨_, rfl⟩
              subst hw6
              go_wp2_with fail
              go_loopw [14] (fun iv wr => ∃ t : Nat, t ≤ refs.length ∧ iv = .int .i64 (t : Int) ∧ Kp w6 wr) (fun iv _ => refs.length - (intOf iv).toNat)
              case atStart => exact ⟨0, by omega, rfl, Kp.refl _⟩
              case round =>
                obtain ⟨t, ht, rfl, hkt⟩ := hrel
                have KT := Lib.hid hkt
                by_cases htl : t < refs.length
                · obtain ⟨r, hr⟩ : ∃ r, refs[t]? = some r := ⟨_, List.getElem?_eq_getElem htl⟩
                  obtain ⟨b, z, cs, rfl, hrg, hcs⟩ := RL.el (HBo.out.keep goodBo (HK.out.trans hkt)) hr
                  cases hcs
                  have e0 := rangeAt_head hrg
                  rw [Nat.mul_one] at e0
                  have eb := lt_of_cell e0
                  have HE := Lib.hid (cell_new HB.out.ok HFit.out hr)
                  have HT64 := Lib.hid (show i64 (t : Int) by unfold i64; omega)
                  have HP64 := Lib.hid (show i64 ((pre S 0 : Int) + 1) by unfold i64; omega)
                  clear hkt hrg hr
                  go_wp2_with (first
                    | (go_at_call 22; (with_reducible refine (c_Get ((pre S 0 : Int) + 1) (t : Int) wr (H6.out.keep KT.out) OK6.out HP64.out HT64.out).mono ?_); rintro e w7 ⟨rfl, hk7⟩; rw [HE.out]; have K7 := Lib.hid hk7; have e0 := hk7.cellv e0; have eb := Nat.lt_of_lt_of_le eb hk7.sz; clear hk7))
                  go_roundw
                  case rel => exact ⟨t + 1, by omega, by go_num, KT.out.trans K7.out⟩
                  case measure => simp [intOf]; omega
                · obtain ⟨w8, hw8⟩ : ∃ w8, w8 = wr := ⟨_, rfl⟩
                  subst hw8
                  have HRE := Lib.hid (reachP_known (known_ins S refs))
                  have HNot := Lib.hid (show hasL (rl (ins S refs) (S.map (·.nm))) ((pre S 0 : Int) + 1) = false from hasL_false (fun h => new_unreached HB.out.ok (rl_mem.1 h)))
                  have hui : (used (ins S refs) : Int) = (used S : Int) + 1 + (refs.length : Int) := by rw [used_ins]; push_cast; omega
                  clear hkt
                  go_wp2_with (first
                    | (go_at_call 19; (with_reducible refine (c_ints (S.map (·.nm)) _ _ w8 (I6.out.keep goodI KT.out)).mono ?_); rintro e w9 ⟨u9, rfl, g1, g2⟩; obtain ⟨a9, c9, hu9⟩ := g1.sl; rw [List.length_map] at hu9; subst hu9; have I9 := Lib.hid g1; have K9 := Lib.hid (KT.out.trans g2); clear g1 g2)
                    | (go_at_call 26; (with_reducible refine (c_Reach (S.map (·.nm)) _ _ w9 (H6.out.keep K9.out) OK6.out I9.out).mono ?_); rintro e w10 ⟨u10, rfl, g1, g2⟩; rw [HRE.out] at g1 ⊢; obtain ⟨a10, c10, rfl⟩ := g1.sl; have I10 := Lib.hid g1; have K10 := Lib.hid (K9.out.trans g2); clear g1 g2)
                    | (go_at_call 27; (with_reducible refine (c_has (rl (ins S refs) (S.map (·.nm))) _ _ ((pre S 0 : Int) + 1) w10 I10.out).mono ?_); rintro e w' ⟨rfl, hw'⟩; rw [hw', HNot.out]; clear hw' w')
                    | (go_at_call 29; (with_reducible refine (c_Used w10 (H6.out.keep K10.out)).mono ?_); rintro e w' ⟨rfl, hw'⟩; rw [hw']; clear hw' w')
                    | (go_at_call 30; (with_reducible refine (c_rUsed w10 (R6.out.keep K10.out) HB.out.ok).mono ?_); rintro e w' ⟨rfl, hw'⟩; rw [hw']; clear hw' w'))
                  go_ret
                  exact ⟨rfl, HK.out.trans K10.out⟩
        · rw [if_neg hfit] at h2
          cases h2
          have hd : decide ((bud : Int) < (used S : Int) + 1 + (refs.length : Int)) = true := by rw [decide_eq_true_iff]; omega
          obtain ⟨aq, cq, _, _, hq2, _⟩ := R6.out.list
          obtain ⟨q0, q1⟩ := row2 hq2
          have qz := row_lt hq2
          clear hq2
          go_upto_region 11 with fail
          go_region_held3 (fun w' : World => w'.cell? ⟨q, 1, none⟩ = some (.int .i64 (bud : Int))) (exact q1) (first
            | (go_at_call 30; (with_reducible refine (c_rUsed w6.drew (R6.out.keep (Kp.refl w6).drew) HB.out.ok).mono ?_); rintro e w' ⟨rfl, hw'⟩; subst hw'))
          go_wp2_with fail
          go_ret
          have hw1 : IntKind.i64.wrap ((used S : Int) + 1) = (used S : Int) + 1 := by rw [IntKind.wrap_i64]; omega
          have hw2 : IntKind.i64.wrap ((used S : Int) + 1 + (refs.length : Int)) = (used S : Int) + 1 + (refs.length : Int) := by rw [IntKind.wrap_i64]; omega
          have hfin : decide ((bud : Int) < IntKind.i64.wrap (IntKind.i64.wrap ((used S : Int) + 1) + (refs.length : Int))) = true := by rw [hw1, hw2]; exact hd
          exact ⟨by rw [hfin]; rfl, HK.out.drew⟩
end Go.Proofs.Ytkaeigklhdpifaa
