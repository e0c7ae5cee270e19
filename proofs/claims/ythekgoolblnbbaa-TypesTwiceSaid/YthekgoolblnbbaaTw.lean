/- The walk of TypesTwice. Condition: the types lie in memory. -/
import Derived.Test.YthekgoolblnbbaaTr3
import Derived.Test.YthekgoolblnbbaaTr4
import Derived.Test.YthekgoolblnbbaaTr7
import Derived.Test.YthekgoolblnbbaaTr8
import Derived.Test.YthekgoolblnbbaaJ
import Derived.Test.YthekgoolblnbbaaN
import Derived.Deep.DeepCutAuto
namespace Go.Proofs.Ythekgoolblnbbaa
open Go.RowKit
set_option linter.unusedVariables false
set_option linter.unusedSimpArgs false
set_option maxHeartbeats 6400000 in
set_option maxRecDepth 100000 in
theorem twice_ne (R : Nat) (hR : 9 ≤ R) (T A B : Ty) (h g k : Hd) (m n : ByteArray) (w : World) (hl : Lies w A0 R T h) (hm : Lies w A0 R A g) (hn : Lies w A0 R B k) (hsm : m.size ≤ 140737488351232) (hsn : n.size ≤ 140737488351232) (hmn : m ≠ n) :
    Calls Try.prog 7 #[h.val, g.val, k.val, .string m, .string n] w fun e w' => e = .returned (.bool true) ∧ Kp w w' := by
  have HL := Lib.hid hl
  have HM := Lib.hid hm
  have HN := Lib.hid hn
  have HMN := Lib.hid hmn
  have HSM := Lib.hid hsm
  have HSN := Lib.hid hsn
  have hq : (m.toList == n.toList) = false := (same_or m n).elim (fun q => absurd q.1 hmn) (fun q => q.2)
  clear hl hm hn hmn hsm hsn
  go_enter Try.func7, Try.ntmps7
  go_upto_region 3 with (first | (go_at_call 18; refine (c_answers _).mono ?_; rintro e w1 ⟨rfl, hk1⟩))
  have hk0 : Kp w w1 := (((Kp.refl w).alloc _).alloc _ |>.alloc _).trans hk1
  have rh : w1.heap[w.heap.size]? = some (.cells #[.int .i64 h.k, .string h.nm, .int .i64 h.con, .slice h.fa h.fl h.fc, .slice h.la h.ll h.lc, .slice h.ra h.rl h.rc] 25 (0, 0)) := (hk1.blk (b := w.heap.size) (by simp <;> omega)).trans ((((Kp.refl _).alloc _).alloc _).blk (b := w.heap.size) (by simp <;> omega) |>.trans (heap_alloc_new _ _))
  have rg : w1.heap[w.heap.size + 1]? = some (.cells #[.int .i64 g.k, .string g.nm, .int .i64 g.con, .slice g.fa g.fl g.fc, .slice g.la g.ll g.lc, .slice g.ra g.rl g.rc] 25 (0, 0)) := (hk1.blk (b := w.heap.size + 1) (by simp <;> omega)).trans (((Kp.refl _).alloc _).blk (b := w.heap.size + 1) (by simp <;> omega) |>.trans (heap_at (by simp)))
  have rk : w1.heap[w.heap.size + 1 + 1]? = some (.cells #[.int .i64 k.k, .string k.nm, .int .i64 k.con, .slice k.fa k.fl k.fc, .slice k.la k.ll k.lc, .slice k.ra k.rl k.rc] 25 (0, 0)) := (hk1.blk (b := w.heap.size + 1 + 1) (by simp <;> omega)).trans (heap_at (by simp))
  have RH := Lib.hid (fun W (hk : Kp w1 W) => (hk.blk (Array.getElem?_eq_some_iff.1 rh).1).trans rh)
  have RG := Lib.hid (fun W (hk : Kp w1 W) => (hk.blk (Array.getElem?_eq_some_iff.1 rg).1).trans rg)
  have RK := Lib.hid (fun W (hk : Kp w1 W) => (hk.blk (Array.getElem?_eq_some_iff.1 rk).1).trans rk)
  clear rh rg rk hk1
  refine reg3 _ w1 w1 R R T A h g m w.heap.size (w.heap.size + 1) (by simp [W3]) (Kp.refl _) rfl (RH.out _ (Kp.refl _)) rfl (RG.out _ (Kp.refl _)) rfl HSM.out (HL.out.keep hk0) (HM.out.keep hk0) ?_
  intro v3 w3 x1 g3 e1 e2 e3 e4 e5 e6
  simp only [W3, List.foldl, Act.put, List.setIfInBounds_toArray, List.set_cons_zero, List.set_cons_succ]
  rw [e1, e2]
  obtain ⟨q1, hq1⟩ : ∃ q, subE T [m] [A] = q := ⟨_, rfl⟩
  have HQ1 := Lib.hid hq1
  rw [hq1] at e2
  rw [hq1]
  have LX1 := Lib.hid e5
  have RX1 := Lib.hid e4
  clear hq1 e4 e5 e1
  go_upto_region 4 with fail
  refine reg4 _ w3 w3 (R + R + 1) R (putX R T [m] [A]) B x1 k n g3 (w.heap.size + 1 + 1) (by simp [W4]) (Kp.refl _) rfl RX1.out rfl (RK.out _ e6) rfl HSN.out LX1.out (HN.out.keep (hk0.trans e6)) ?_
  intro v4 w4 x2 g4 f1 f2 f3 f4 f5 f6
  simp only [W4, List.foldl, Act.put, List.setIfInBounds_toArray, List.set_cons_zero, List.set_cons_succ]
  rw [f1, f2]
  obtain ⟨q2, hq2⟩ : ∃ q, subE (putX R T [m] [A]) [n] [B] = q := ⟨_, rfl⟩
  have HQ2 := Lib.hid hq2
  rw [hq2] at f2
  rw [hq2]
  clear hq2 f1
  by_cases h1 : q1 = 0
  · by_cases h2 : q2 = 0
    · rw [h1] at e2
      rw [h2] at f2
      subst h1 h2
      have KW := Lib.hid (show Kp w w4 from hk0.trans (e6.trans f6))
      have RX2 := Lib.hid f4
      have LX2 := Lib.hid f5
      go_upto_region 7 with fail
      refine reg7 _ w4 w4 R R A B g k n (w.heap.size + 1) (w.heap.size + 1 + 1) (by simp [W7]) (Kp.refl _) rfl (RG.out _ (e6.trans f6)) rfl (RK.out _ (e6.trans f6)) rfl HSN.out (HM.out.keep KW.out) (HN.out.keep KW.out) ?_
      intro v7 w7 x3 g7 i1 i2 i3 i4 i5 i6
      simp only [W7, List.foldl, Act.put, List.setIfInBounds_toArray, List.set_cons_zero, List.set_cons_succ]
      rw [i1, i2]
      have KW7 := Lib.hid (KW.out.trans i6)
      obtain ⟨q3, hq3⟩ : ∃ q, subE A [n] [B] = q := ⟨_, rfl⟩
      have HQ3 := Lib.hid hq3
      rw [hq3]
      have RX3 := Lib.hid i4
      have LX3 := Lib.hid i5
      clear i1 i2 i4 i5 hq3
      go_upto_region 8 with fail
      refine reg8 _ w7 w7 R (R + R + 1) T (putX R A [n] [B]) B h x3 k m n w.heap.size g7 (w.heap.size + 1 + 1) (by simp [W8]) (Kp.refl _) rfl (RH.out _ ((e6.trans f6).trans i6)) rfl RX3.out rfl (RK.out _ ((e6.trans f6).trans i6)) rfl HSM.out rfl HSN.out (HL.out.keep KW7.out) LX3.out ((HN.out.keep KW7.out).mono (by omega)) ?_
      intro v8 w8 x4 g8 j1 j2 j3 j4 j5 j6
      simp only [W8, List.foldl, Act.put, List.setIfInBounds_toArray, List.set_cons_zero, List.set_cons_succ]
      rw [j1, j2]
      have KW8 := Lib.hid (KW7.out.trans j6)
      obtain ⟨q4, hq4⟩ : ∃ q, subE T [m, n] [putX R A [n] [B], B] = q := ⟨_, rfl⟩
      have HQ4 := Lib.hid hq4
      rw [hq4]
      have LX4 := Lib.hid j5
      obtain ⟨u0, u1, u2, u3, u4, u5, us⟩ := row6 j4
      obtain ⟨y0, y1, y2, y3, y4, y5, ys⟩ := row6 (((i6.trans j6).blk (Array.getElem?_eq_some_iff.1 RX2.out).1).trans RX2.out)
      have K48 := Lib.hid (i6.trans j6)
      clear j1 j2 j4 j5 hq4 e6 f6 i6 j6
      by_cases h3 : q3 = 0
      · have ht := put_twice hR HMN.out (HL.out.dp) (HM.out.dp) (rx := R + R + 1) (by omega) LX1.out.dp HQ1.out HQ2.out (HQ3.out.trans h3)
        obtain ⟨t1, t2, t3⟩ := ht
        obtain rfl : q4 = 0 := HQ4.out.symm.trans t1
        subst h3
        have CSM := Lib.hid ((c_refSame 9 _ _ _ _ x4 x2 w8 LX4.out (LX2.out.keep K48.out) (by rw [t2]; exact t3) t3).mono (fun e w' q => ⟨q.1.trans (by rw [eqB_yes t2]), q.2⟩ : ∀ e w', _ → e = .returned (.bool true) ∧ Kp w8 w'))
        clear t1 t2 t3
        go_wp2_with (first | (go_at_call 28; (with_reducible refine CSM.out.mono ?_); rintro e w9 ⟨rfl, hk9⟩))
        go_ret
        exact ⟨rfl, KW8.out.trans hk9⟩
      · have b3 : (q3 != 0) = true := by simp [h3]
        go_wp2_with fail
        go_ret
        exact ⟨rfl, KW8.out⟩
    · have b1 : (q1 != 0) = false := by simp [h1]
      have b2 : (q2 != 0) = true := by simp [h2]
      clear e2 f2
      go_wp2_with fail
      go_ret
      exact ⟨rfl, hk0.trans (e6.trans f6)⟩
  · have b1 : (q1 != 0) = true := by simp [h1]
    clear e2 f2
    go_wp2_with fail
    go_ret
    exact ⟨rfl, hk0.trans (e6.trans f6)⟩
theorem twice_eq (h g k : Hd) (m : ByteArray) (w : World) :
    Calls Try.prog 7 #[h.val, g.val, k.val, .string m, .string m] w fun e w' => e = .returned (.bool true) ∧ Kp w w' := by
  have hq : (m.toList == m.toList) = true := by simp
  go_enter Try.func7, Try.ntmps7
  go_wp2_with (first | (go_at_call 18; refine (c_answers _).mono ?_; rintro e w1 ⟨rfl, hk1⟩))
  go_ret
  refine ⟨rfl, Kp.trans ?_ hk1⟩
  exact Kp.trans (b := ((w.alloc (.cells #[.int .i64 h.k, .string h.nm, .int .i64 h.con, .slice h.fa h.fl h.fc, .slice h.la h.ll h.lc, .slice h.ra h.rl h.rc] 25)).alloc (.cells #[.int .i64 g.k, .string g.nm, .int .i64 g.con, .slice g.fa g.fl g.fc, .slice g.la g.ll g.lc, .slice g.ra g.rl g.rc] 25)).alloc (.cells #[.int .i64 k.k, .string k.nm, .int .i64 k.con, .slice k.fa k.fl k.fc, .slice k.la k.ll k.lc, .slice k.ra k.rl k.rc] 25)) (((Kp.refl w).alloc _).alloc _ |>.alloc _) (by assumption)
theorem law_TypesTwice (R0 R1 R2 : Nat) (T A B : Ty) (h g k : Hd) (w : World) (m n : ByteArray) (hl : Lies w A0 R0 T h) (hm : Lies w A0 R1 A g) (hn : Lies w A0 R2 B k) (hsm : m.size ≤ 140737488351232) (hsn : n.size ≤ 140737488351232) :
    Calls Try.prog 7 #[h.val, g.val, k.val, .string m, .string n] w fun e w' => e = .returned (.bool true) ∧ Kp w w' := by
  by_cases e : m = n
  · subst e
    exact twice_eq h g k m w
  · exact twice_ne (R0 + R1 + R2 + 9) (by omega) T A B h g k m n w (hl.mono (by omega)) (hm.mono (by omega)) (hn.mono (by omega)) hsm hsn e
end Go.Proofs.Ythekgoolblnbbaa
