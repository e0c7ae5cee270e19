/- The reference's heap: a cell is written. Condition: the heap lies in memory. -/
import Derived.Test.YtkaeigklhdpifaaR2
namespace Go.Proofs.Ytkaeigklhdpifaa
open Go.RowKit Go.Maps Go.Sort
set_option linter.unusedVariables false
set_option linter.unusedSimpArgs false
theorem RP.upd2 {w : World} {M : Nat → Prop} {q bud : Nat} {S : Hs} (h : RP w M q bud S) (ok : Ok S bud) {v : Value} {cv rv : Int → Value} {o : Int} {b : Ob} {g i : Nat} (hb : getN S o = some b)
    (h1 : w.heap[q]? = some (.cells #[v, .int .i64 (bud : Int)] 53 (0, 0))) (h2 : ∀ g, v.ownBlock = some g → M g ∧ g ≠ q) (h3 : w.ownsRow 0 50 3 v S.length (flat (objC S cv rv) S.length)) (h4 : RO w M q S cv rv)
    (hg : (cv o).ownBlock = some g) (hi : i < b.cs.length) (n : Int) : RP (w.setCell ⟨g, i, none⟩ (.int .u64 n)) M q bud (setC S o i n) := RP.upd ok h.nq h.lt h1 h2 h3 h4 hb hg hi n
set_option maxHeartbeats 2000000 in
set_option maxRecDepth 100000 in
theorem c_rPut {M : Nat → Prop} {q bud : Nat} {S : Hs} (o i n : Int) (w : World) (h : RP w M q bud S) (ok : Ok S bud) (ho : i64 o) (hi : i64 i) (hn : 0 ≤ n ∧ n ≤ 18446744073709551615) :
    Calls Try.prog 33 #[.pointer (some ⟨q, 0, none⟩), .int .i64 o, .int .i64 i, .int .u64 n] w fun e w' => e = .returned (.int .i64 (putP S o i n).2) ∧ RP w' M q bud (putP S o i n).1 ∧ Tr M w w' := by
  have HH := Lib.hid h
  have HK := Lib.hid ok
  obtain ⟨hn0, hn1⟩ := hn
  clear h ok
  go_enter Try.func33, Try.ntmps33
  obtain ⟨⟨x, r, e⟩, hc⟩ : ∃ c, cellP S o i = c := ⟨_, rfl⟩
  by_cases he : e = 0
  · subst he
    have hput : putP S o i n = if r = true ∧ n ≠ 0 ∧ hasN S n = false then (S, 15) else (setC S o i.toNat n, 0) := by unfold putP; rw [hc]; rfl
    obtain ⟨b, d, hgb, hi0, hdb, hcd⟩ := cellP_ok hc rfl
    obtain ⟨m, rfl⟩ := Int.eq_ofNat_of_zero_le hi0
    have hdm : b.cs[m]? = some d := by simpa using hdb
    have hnl : m < b.cs.length := (List.getElem?_eq_some_iff.1 hdm).1
    rcases atI_cases HK.out o with ⟨hh, _⟩ | ⟨_, k, b', hbk, hbn, ha, hgb'⟩
    · rw [getN_none.2 hh] at hgb; cases hgb
    · rw [hgb] at hgb'
      cases hgb'
      have hkl : k < S.length := (List.getElem?_eq_some_iff.1 hbk).1
      have HBK := Lib.hid hbk
      have HBM := Lib.hid (List.mem_of_getElem? hbk)
      have HBN := Lib.hid hbn
      have HA := Lib.hid ha
      have HG := Lib.hid hgb
      have HD := Lib.hid hdm
      have hput2 : putP S o (m : Int) n = if r = true ∧ n ≠ 0 ∧ hasN S n = false then (S, 15) else (setC S o m n, 0) := by rw [hput]; simp
      have HPP := Lib.hid hput2
      have HC := Lib.hid hc
      have hSl := HK.out.len
      clear hput hput2 hc hgb hi0 hdb hcd hbk hbn ha hdm
      cases r with
      | false =>
        have HP' : Hid (putP S o (m : Int) n = (setC S o m n, 0)) := Lib.hid (by rw [HPP.out, if_neg (by simp)])
        go_wp2_with (first | (go_at_call 32; (with_reducible refine (c_rCell o _ _ HH.out HK.out ho hi).mono ?_); rintro e wx ⟨rfl, hkx⟩; rw [HC.out]; have HH := Lib.hid (HH.out.keep hkx); have HKW := Lib.hid hkx; clear hkx))
        obtain ⟨a, c, cv, rv, q1, hlc, q2, q3, ht, hro⟩ := HH.out.list
        obtain ⟨c0, c1⟩ := row2 q1
        have hqz := HH.out.lt q HH.out.nq
        obtain ⟨bl, z, rfl, e0, e1, e2, ez⟩ := ht.obj HBK.out
        obtain ⟨hnv, _⟩ := hro.ob b HBM.out
        obtain ⟨g1, p1, hv1, f1, ff1, y1, hgo⟩ := hnv.at (numsV_at HD.out)
        rw [numsV_len] at hv1
        rw [hv1] at e1
        have HUPD := Lib.hid (HH.out.upd2 HK.out HG.out q1 q2 q3 hro (by rw [← HBN.out]; exact hgo) hnl n)
        have HMG := Lib.hid (hro.inN b HBM.out g1 (.inl hgo)).1
        clear q1 q2 q3 ht hro hnv hv1 hgo e0 e2
        go_region_law (refine step_go (by rfl) (step_call (f := 20) (by rfl) Try.func20 (by kernel_rfl) (by kernel_rfl) (by simp [Act.eval, Act.put]) ((c_At o _ (HH.out.keep ((Kp.refl _).drew)) HK.out ho).mono ?_)); rintro e w7 ⟨rfl, hw7⟩; subst hw7; refine ⟨_, by rw [HA.out], ?_⟩)
        all_goals
          go_wp2_with fail
          go_ret
          refine ⟨by rw [HP'.out]; rfl, by rw [HP'.out]; exact HUPD.out.turn (Nat.le_refl _) (fun g _ => rfl), ((HKW.out.tr M).set (.inl HMG.out) _).keep (Kp.refl _).drew⟩
      | true =>
        by_cases h0 : n = 0
        · subst h0
          have HP' : Hid (putP S o (m : Int) 0 = (setC S o m 0, 0)) := Lib.hid (by rw [HPP.out, if_neg (by simp)])
          go_wp2_with (first | (go_at_call 32; (with_reducible refine (c_rCell o _ _ HH.out HK.out ho hi).mono ?_); rintro e wx ⟨rfl, hkx⟩; rw [HC.out]; have HH := Lib.hid (HH.out.keep hkx); have HKW := Lib.hid hkx; clear hkx))
          obtain ⟨a, c, cv, rv, q1, hlc, q2, q3, ht, hro⟩ := HH.out.list
          obtain ⟨c0, c1⟩ := row2 q1
          have hqz := HH.out.lt q HH.out.nq
          obtain ⟨bl, z, rfl, e0, e1, e2, ez⟩ := ht.obj HBK.out
          obtain ⟨hnv, _⟩ := hro.ob b HBM.out
          obtain ⟨g1, p1, hv1, f1, ff1, y1, hgo⟩ := hnv.at (numsV_at HD.out)
          rw [numsV_len] at hv1
          rw [hv1] at e1
          have HUPD := Lib.hid (HH.out.upd2 HK.out HG.out q1 q2 q3 hro (by rw [← HBN.out]; exact hgo) hnl 0)
          have HMG := Lib.hid (hro.inN b HBM.out g1 (.inl hgo)).1
          clear q1 q2 q3 ht hro hnv hv1 hgo e0 e2
          go_region_law (refine step_go (by rfl) (step_call (f := 20) (by rfl) Try.func20 (by kernel_rfl) (by kernel_rfl) (by simp [Act.eval, Act.put]) ((c_At o _ (HH.out.keep ((Kp.refl _).drew)) HK.out ho).mono ?_)); rintro e w7 ⟨rfl, hw7⟩; subst hw7; refine ⟨_, by rw [HA.out], ?_⟩)
          all_goals
            go_wp2_with fail
            go_ret
            refine ⟨by rw [HP'.out]; rfl, by rw [HP'.out]; exact HUPD.out.turn (Nat.le_refl _) (fun g _ => rfl), ((HKW.out.tr M).set (.inl HMG.out) _).keep (Kp.refl _).drew⟩
        · have hn2 : (n == 0) = false := by simpa using h0
          by_cases hbg : 1000000 < n
          · have hh : hasN S n = false := HK.out.small (by omega)
            have HP' : Hid (putP S o (m : Int) n = (S, 15)) := Lib.hid (by rw [HPP.out, if_pos ⟨rfl, h0, hh⟩])
            clear hh
            go_wp2_with (first | (go_at_call 32; (with_reducible refine (c_rCell o _ _ HH.out HK.out ho hi).mono ?_); rintro e wx ⟨rfl, hkx⟩; rw [HC.out]; have HH := Lib.hid (HH.out.keep hkx); have HKW := Lib.hid hkx; clear hkx))
            go_ret
            exact ⟨by rw [HP'.out]; rfl, by rw [HP'.out]; exact HH.out, HKW.out.tr M⟩
          · have hni : i64 n := by unfold i64; omega
            rcases atI_cases HK.out n with ⟨hh, han⟩ | ⟨hh, k2, _, _, _, han, _⟩
            · have HAN := Lib.hid han
              have HP' : Hid (putP S o (m : Int) n = (S, 15)) := Lib.hid (by rw [HPP.out, if_pos ⟨rfl, h0, hh⟩])
              clear hh han
              go_wp2_with (first | (go_at_call 32; (with_reducible refine (c_rCell o _ _ HH.out HK.out ho hi).mono ?_); rintro e wx ⟨rfl, hkx⟩; rw [HC.out]; have HH := Lib.hid (HH.out.keep hkx); have HKW := Lib.hid hkx; clear hkx) | (go_at_call 20; (with_reducible refine (c_At n _ HH.out HK.out hni).mono ?_); rintro e w' ⟨rfl, hw'⟩; subst hw'; rw [HAN.out]))
              go_ret
              exact ⟨by rw [HP'.out]; rfl, by rw [HP'.out]; exact HH.out, HKW.out.tr M⟩
            · have HAN := Lib.hid han
              have HP' : Hid (putP S o (m : Int) n = (setC S o m n, 0)) := Lib.hid (by rw [HPP.out, if_neg (by rw [hh]; simp)])
              clear hh han
              go_wp2_with (first | (go_at_call 32; (with_reducible refine (c_rCell o _ _ HH.out HK.out ho hi).mono ?_); rintro e wx ⟨rfl, hkx⟩; rw [HC.out]; have HH := Lib.hid (HH.out.keep hkx); have HKW := Lib.hid hkx; clear hkx) | (go_at_call 20; (with_reducible refine (c_At n _ HH.out HK.out hni).mono ?_); rintro e w' ⟨rfl, hw'⟩; subst hw'; rw [HAN.out]))
              obtain ⟨a, c, cv, rv, q1, hlc, q2, q3, ht, hro⟩ := HH.out.list
              obtain ⟨c0, c1⟩ := row2 q1
              have hqz := HH.out.lt q HH.out.nq
              obtain ⟨bl, z, rfl, e0, e1, e2, ez⟩ := ht.obj HBK.out
              obtain ⟨hnv, _⟩ := hro.ob b HBM.out
              obtain ⟨g1, p1, hv1, f1, ff1, y1, hgo⟩ := hnv.at (numsV_at HD.out)
              rw [numsV_len] at hv1
              rw [hv1] at e1
              have HUPD := Lib.hid (HH.out.upd2 HK.out HG.out q1 q2 q3 hro (by rw [← HBN.out]; exact hgo) hnl n)
              have HMG := Lib.hid (hro.inN b HBM.out g1 (.inl hgo)).1
              clear q1 q2 q3 ht hro hnv hv1 hgo e0 e2
              go_region_law (refine step_go (by rfl) (step_call (f := 20) (by rfl) Try.func20 (by kernel_rfl) (by kernel_rfl) (by simp [Act.eval, Act.put]) ((c_At o _ (HH.out.keep ((Kp.refl _).drew)) HK.out ho).mono ?_)); rintro e w7 ⟨rfl, hw7⟩; subst hw7; refine ⟨_, by rw [HA.out], ?_⟩)
              all_goals
                go_wp2_with fail
                go_ret
                refine ⟨by rw [HP'.out]; rfl, by rw [HP'.out]; exact HUPD.out.turn (Nat.le_refl _) (fun g _ => rfl), ((HKW.out.tr M).set (.inl HMG.out) _).keep (Kp.refl _).drew⟩
  · have hput : putP S o i n = (S, e) := by
      unfold putP; rw [hc]; split
      · rename_i h1; cases h1; exact absurd rfl he
      · rename_i h1; cases h1; rfl
    have HP' := Lib.hid hput
    have HC := Lib.hid hc
    clear hc hput
    go_wp2_with (first | (go_at_call 32; (with_reducible refine (c_rCell o _ _ HH.out HK.out ho hi).mono ?_); rintro e wx ⟨rfl, hkx⟩; rw [HC.out]; have HH := Lib.hid (HH.out.keep hkx); have HKW := Lib.hid hkx; clear hkx))
    go_ret
    rw [HP'.out]
    exact ⟨(by first | rfl | trivial), HH.out, HKW.out.tr M⟩
end Go.Proofs.Ytkaeigklhdpifaa
