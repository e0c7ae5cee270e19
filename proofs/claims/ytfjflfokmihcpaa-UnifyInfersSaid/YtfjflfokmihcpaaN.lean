/- Same of the reference. Condition: the types lie in memory, and are sound. -/
import Derived.Test.YtfjflfokmihcpaaM
import Derived.Deep.RegionHeld3
import Derived.Laws.EntriesVeiled
namespace Go.Proofs.Ytfjflfokmihcpaa
open Go.RowKit
set_option linter.unusedVariables false
set_option linter.unusedSimpArgs false
set_option maxHeartbeats 1600000 in
theorem refSame_no (A B : Ty) (h g : Hd) (w : World) (hv : eqB A B = false) (hn : ¬ (h.k = g.k ∧ h.nm = g.nm ∧ h.con = g.con ∧ h.fl = g.fl ∧ h.ll = g.ll ∧ h.rl = g.rl)) :
    Calls Try.prog 20 #[h.val, g.val] w fun e w' => e = .returned (.bool (eqB A B)) ∧ Kp w w' := by
  rw [hv]
  by_cases hk : h.k = g.k
  case neg =>
    have d_hk : (h.k != g.k) = true := bne_iff_ne.2 hk
    clear hn  hv
    clear hk
    go_enter Try.func20, Try.ntmps20
    go_wp2_with fail
    go_ret
    exact ⟨rfl, ((Kp.refl w).alloc _).alloc _⟩
  by_cases hnm : h.nm = g.nm
  case neg =>
    have b_hk : (h.k != g.k) = false := by (rw [hk]; simp)
    have d_hnm : (h.nm.toList == g.nm.toList) = false := (same_or h.nm g.nm).elim (fun q => absurd q.1 hnm) (fun q => q.2)
    have dd_hnm : (h.nm.toList != g.nm.toList) = true := by simpa [bne] using d_hnm
    clear hn hk hv
    clear hnm
    go_enter Try.func20, Try.ntmps20
    go_wp2_with fail
    go_ret
    exact ⟨rfl, ((Kp.refl w).alloc _).alloc _⟩
  by_cases hcon : h.con = g.con
  case neg =>
    have b_hk : (h.k != g.k) = false := by (rw [hk]; simp)
    have b_hnm : (h.nm.toList == g.nm.toList) = true := by (rw [hnm]; simp)
    have c_hnm : (h.nm.toList != g.nm.toList) = false := by (rw [hnm]; simp)
    have d_hcon : (h.con != g.con) = true := bne_iff_ne.2 hcon
    clear hn hk hnm hv
    clear hcon
    go_enter Try.func20, Try.ntmps20
    go_wp2_with fail
    go_ret
    exact ⟨rfl, ((Kp.refl w).alloc _).alloc _⟩
  by_cases hfl : h.fl = g.fl
  case neg =>
    have b_hk : (h.k != g.k) = false := by (rw [hk]; simp)
    have b_hnm : (h.nm.toList == g.nm.toList) = true := by (rw [hnm]; simp)
    have c_hnm : (h.nm.toList != g.nm.toList) = false := by (rw [hnm]; simp)
    have b_hcon : (h.con != g.con) = false := by (rw [hcon]; simp)
    have d_hfl : ((h.fl : Int) != (g.fl : Int)) = true := bne_iff_ne.2 (by omega)
    clear hn hk hnm hcon hv
    clear hfl
    go_enter Try.func20, Try.ntmps20
    go_wp2_with fail
    go_ret
    exact ⟨rfl, ((Kp.refl w).alloc _).alloc _⟩
  by_cases hll : h.ll = g.ll
  case neg =>
    have b_hk : (h.k != g.k) = false := by (rw [hk]; simp)
    have b_hnm : (h.nm.toList == g.nm.toList) = true := by (rw [hnm]; simp)
    have c_hnm : (h.nm.toList != g.nm.toList) = false := by (rw [hnm]; simp)
    have b_hcon : (h.con != g.con) = false := by (rw [hcon]; simp)
    have b_hfl : ((h.fl : Int) != (g.fl : Int)) = false := by (rw [hfl]; simp)
    have d_hll : ((h.ll : Int) != (g.ll : Int)) = true := bne_iff_ne.2 (by omega)
    clear hn hk hnm hcon hfl hv
    clear hll
    go_enter Try.func20, Try.ntmps20
    go_wp2_with fail
    go_ret
    exact ⟨rfl, ((Kp.refl w).alloc _).alloc _⟩
  by_cases hrl : h.rl = g.rl
  case neg =>
    have b_hk : (h.k != g.k) = false := by (rw [hk]; simp)
    have b_hnm : (h.nm.toList == g.nm.toList) = true := by (rw [hnm]; simp)
    have c_hnm : (h.nm.toList != g.nm.toList) = false := by (rw [hnm]; simp)
    have b_hcon : (h.con != g.con) = false := by (rw [hcon]; simp)
    have b_hfl : ((h.fl : Int) != (g.fl : Int)) = false := by (rw [hfl]; simp)
    have b_hll : ((h.ll : Int) != (g.ll : Int)) = false := by (rw [hll]; simp)
    have d_hrl : ((h.rl : Int) != (g.rl : Int)) = true := bne_iff_ne.2 (by omega)
    clear hn hk hnm hcon hfl hll hv
    clear hrl
    go_enter Try.func20, Try.ntmps20
    go_wp2_with fail
    go_ret
    exact ⟨rfl, ((Kp.refl w).alloc _).alloc _⟩
  exact absurd ⟨hk, hnm, hcon, hfl, hll, hrl⟩ hn
set_option maxHeartbeats 3200000 in
set_option maxRecDepth 100000 in
theorem refSame_00 (A B : Ty) (h g : Hd) (K J : Nat → Hd) (w : World) (t : Top w A0 A h K) (u : Top w A0 B g J) (fa : A.kids.length ≤ 17) (fb : B.kids.length ≤ 17) (hv : topB A B = true) (h0 : g.fl = 0) (hz0 : A.kids.length = 0) (hk : h.k = g.k) (hnm : h.nm = g.nm) (hcon : h.con = g.con) (hfl : h.fl = g.fl) (hll : h.ll = g.ll) (hrl : h.rl = g.rl) :
    Calls Try.prog 20 #[h.val, g.val] w fun e w' => e = .returned (.bool (eqB A B)) ∧ Kp w w' := by
  have hv2 := Lib.hid (eqB_yes (ty_eq.2 ⟨topB_true hv, fun i hi => absurd hi (by omega)⟩))
  have HT := Lib.hid t
  have HU := Lib.hid u
  clear t u hv
  obtain ⟨gk, gnm, gcon, ga, gl, gc, gla, gll, glc, gra, grl, grc⟩ := g
  obtain ⟨ek, enm, econ, ea, el, ec, ela, ell, elc, era, erl, erc⟩ := h
  simp only at h0 hk hnm hcon hfl hll hrl
  subst h0
  subst hfl
  have vb1 : (ek != gk) = false := by rw [hk]; simp
  have vb2' : (enm.toList != gnm.toList) = false := by rw [hnm]; simp
  have vb2'' : (enm.toList == gnm.toList) = true := by rw [hnm]; simp
  have vb3 : (econ != gcon) = false := by rw [hcon]; simp
  have vb5 : ((ell : Int) != (gll : Int)) = false := by rw [hll]; simp
  have vb6 : ((erl : Int) != (grl : Int)) = false := by rw [hrl]; simp
  clear hk hnm hcon hll hrl
  go_enter Try.func20, Try.ntmps20
  go_wp2_with fail
  refine wp_loop_rounds 1 ?_
  rw [rounds_succ]
  go_wp2_with (first | (go_at_call 34; (with_reducible refine (c_Inner A (⟨ek, enm, econ, ea, 0, ec, ela, ell, elc, era, erl, erc⟩ : Hd) K _ (HT.out.keep (((Kp.refl w).alloc _).alloc _)) (by omega)).mono ?_); rintro e w2 ⟨adA, cA, rfl, htA, hk2⟩; obtain ⟨q0, q1, q2, q3, q4, q5, qs⟩ := boxed (h := (⟨gk, gnm, gcon, ga, 0, gc, gla, gll, glc, gra, grl, grc⟩ : Hd)) hk2; simp only [World.size_alloc] at q0 q1 q2 q3 q4 q5 qs; have ql : w.heap.size + 1 < w2.heap.size := qs) | (go_at_call 34; (with_reducible refine (c_Inner B (⟨gk, gnm, gcon, ga, 0, gc, gla, gll, glc, gra, grl, grc⟩ : Hd) J _ (HU.out.keep ((((Kp.refl w).alloc _).alloc _).trans hk2)) (by omega)).mono ?_); rintro e w3 ⟨adB, cB, rfl, htB, hk3⟩))
  refine wp_loop_rounds 1 ?_
  rw [rounds_succ]
  have hz2 : ¬ ((0 : Int) < (A.kids.length : Int)) := by omega
  go_wp2_with fail
  go_ret
  exact ⟨ret_bool hv2.out.symm, (((((Kp.refl w).alloc _).alloc _).trans hk2).trans hk3)⟩
set_option maxHeartbeats 6400000 in
set_option maxRecDepth 100000 in
theorem refSame_0k (R R' : Nat) (A B : Ty) (h g : Hd) (K J : Nat → Hd) (w : World) (t : Top w A0 A h K) (u : Top w A0 B g J) (fa : A.kids.length ≤ 17) (fb : B.kids.length ≤ 17) (hv : topB A B = true) (h0 : g.fl = 0) (hpA : 0 < A.kids.length) (hh : ∀ i X, A.kids[i]? = some X → Lies w A0 R X (K i)) (hg : ∀ i X, B.kids[i]? = some X → Lies w A0 R' X (J i))
    (ih : ∀ (i : Nat) (X Y : Ty) (hx hy : Hd) (W : World), A.kids[i]? = some X → B.kids[i]? = some Y → Lies W A0 R X hx → Lies W A0 R' Y hy →
      Calls Try.prog 20 #[hx.val, hy.val] W fun e w' => e = .returned (.bool (eqB X Y)) ∧ Kp W w') (hk : h.k = g.k) (hnm : h.nm = g.nm) (hcon : h.con = g.con) (hfl : h.fl = g.fl) (hll : h.ll = g.ll) (hrl : h.rl = g.rl) :
    Calls Try.prog 20 #[h.val, g.val] w fun e w' => e = .returned (.bool (eqB A B)) ∧ Kp w w' := by
  have hlen : A.kids.length ≤ B.kids.length := Nat.le_of_eq (topB_true hv).2.2.2.2.2
  have hlen' : B.kids.length ≤ A.kids.length := Nat.le_of_eq (topB_true hv).2.2.2.2.2.symm
  have TB := Lib.hid (topB_true hv)
  have hpB : 0 < B.kids.length := by omega
  have HT := Lib.hid t
  have HU := Lib.hid u
  have HH := Lib.hid hh
  have HG := Lib.hid hg
  have IH := Lib.hid ih
  clear t u hv hh hg ih
  obtain ⟨gk, gnm, gcon, ga, gl, gc, gla, gll, glc, gra, grl, grc⟩ := g
  obtain ⟨ek, enm, econ, ea, el, ec, ela, ell, elc, era, erl, erc⟩ := h
  simp only at h0 hk hnm hcon hfl hll hrl
  subst h0
  subst hfl
  have vb1 : (ek != gk) = false := by rw [hk]; simp
  have vb2' : (enm.toList != gnm.toList) = false := by rw [hnm]; simp
  have vb2'' : (enm.toList == gnm.toList) = true := by rw [hnm]; simp
  have vb3 : (econ != gcon) = false := by rw [hcon]; simp
  have vb5 : ((ell : Int) != (gll : Int)) = false := by rw [hll]; simp
  have vb6 : ((erl : Int) != (grl : Int)) = false := by rw [hrl]; simp
  clear hk hnm hcon hll hrl
  go_enter Try.func20, Try.ntmps20
  go_wp2_with fail
  refine wp_loop_rounds 1 ?_
  rw [rounds_succ]
  go_wp2_with (first | (go_at_call 34; (with_reducible refine (c_Inner A (⟨ek, enm, econ, ea, 0, ec, ela, ell, elc, era, erl, erc⟩ : Hd) K _ (HT.out.keep (((Kp.refl w).alloc _).alloc _)) (by omega)).mono ?_); rintro e w2 ⟨adA, cA, rfl, htA, hk2⟩; obtain ⟨q0, q1, q2, q3, q4, q5, qs⟩ := boxed (h := (⟨gk, gnm, gcon, ga, 0, gc, gla, gll, glc, gra, grl, grc⟩ : Hd)) hk2; simp only [World.size_alloc] at q0 q1 q2 q3 q4 q5 qs; have ql : w.heap.size + 1 < w2.heap.size := qs; have HK2 := Lib.hid ((((Kp.refl w).alloc _).alloc _).trans hk2); obtain ⟨ta, to, rfl, hra⟩ := htA.at hpA; have HRA := Lib.hid hra; clear hra htA) | (go_at_call 34; (with_reducible refine (c_Inner B (⟨gk, gnm, gcon, ga, 0, gc, gla, gll, glc, gra, grl, grc⟩ : Hd) J _ (HU.out.keep HK2.out) (by omega)).mono ?_); rintro e w3 ⟨adB, cB, rfl, htB, hk3⟩; have HK3 := Lib.hid hk3; have KW3 := Lib.hid (HK2.out.trans hk3); obtain ⟨tb, tp, rfl, hrb⟩ := htB.at hpB; have HRB := Lib.hid hrb; clear hrb htB hk3))
  go_loopw [8] (fun i wr => ∃ n : Nat, n ≤ A.kids.length ∧ i = .int .i64 n ∧ SameAt A B n ∧ Kp w3 wr) (fun i _ => A.kids.length - (intOf i).toNat)
  case atStart => exact ⟨0, by omega, rfl, fun i hi => absurd hi (by omega), Kp.refl _⟩
  case round =>
    obtain ⟨n, hn, rfl, hN, hkr⟩ := hrel
    have HN := Lib.hid hN
    have HKR := Lib.hid hkr
    have KWR := Lib.hid (KW3.out.trans hkr)
    clear hN hkr
    by_cases hlt : n < A.kids.length
    · have hltB : n < B.kids.length := by omega
      obtain ⟨X, hX⟩ : ∃ X, A.kids[n]? = some X := ⟨_, List.getElem?_eq_getElem hlt⟩
      obtain ⟨Y, hY⟩ : ∃ Y, B.kids[n]? = some Y := ⟨_, List.getElem?_eq_getElem hltB⟩
      have HX := Lib.hid hX
      have HY := Lib.hid hY
      clear hX hY
      have xx : ∀ j v, (K n).cells[j]? = some v → wr.cell? ⟨ta, to + n * 6 + j, none⟩ = some v := fun j v hv => rangeAt_mono (HRA.out n hlt) (HK3.out.trans HKR.out) j v hv
      have yy : ∀ j v, (J n).cells[j]? = some v → wr.cell? ⟨tb, tp + n * 6 + j, none⟩ = some v := fun j v hv => rangeAt_mono (HRB.out n hltB) HKR.out j v hv
      have x0 : wr.cell? ⟨ta, to + n * 6, none⟩ = some (.int .i64 (K n).k) := xx 0 _ rfl
      have x1 : wr.cell? ⟨ta, to + n * 6 + 1, none⟩ = some (.string (K n).nm) := xx 1 _ rfl
      have x2 : wr.cell? ⟨ta, to + n * 6 + 2, none⟩ = some (.int .i64 (K n).con) := xx 2 _ rfl
      have x3 : wr.cell? ⟨ta, to + n * 6 + 3, none⟩ = some (.slice (K n).fa (K n).fl (K n).fc) := xx 3 _ rfl
      have x4 : wr.cell? ⟨ta, to + n * 6 + 4, none⟩ = some (.slice (K n).la (K n).ll (K n).lc) := xx 4 _ rfl
      have x5 : wr.cell? ⟨ta, to + n * 6 + 5, none⟩ = some (.slice (K n).ra (K n).rl (K n).rc) := xx 5 _ rfl
      have y0 : wr.cell? ⟨tb, tp + n * 6, none⟩ = some (.int .i64 (J n).k) := yy 0 _ rfl
      have y1 : wr.cell? ⟨tb, tp + n * 6 + 1, none⟩ = some (.string (J n).nm) := yy 1 _ rfl
      have y2 : wr.cell? ⟨tb, tp + n * 6 + 2, none⟩ = some (.int .i64 (J n).con) := yy 2 _ rfl
      have y3 : wr.cell? ⟨tb, tp + n * 6 + 3, none⟩ = some (.slice (J n).fa (J n).fl (J n).fc) := yy 3 _ rfl
      have y4 : wr.cell? ⟨tb, tp + n * 6 + 4, none⟩ = some (.slice (J n).la (J n).ll (J n).lc) := yy 4 _ rfl
      have y5 : wr.cell? ⟨tb, tp + n * 6 + 5, none⟩ = some (.slice (J n).ra (J n).rl (J n).rc) := yy 5 _ rfl
      clear xx yy
      have j1 : (0 : Int) ≤ n := by omega
      have j2 : (n : Int) < B.kids.length := by omega
      have j3 : (n : Int) < A.kids.length := by omega
      have LX := Lib.hid ((HH.out n X HX.out).keep (KWR.out.drew))
      have LY := Lib.hid ((HG.out n Y HY.out).keep (KWR.out.drew))
      have CX := Lib.hid (IH.out n X Y (K n) (J n) wr.drew HX.out HY.out LX.out LY.out)
      cases c2 : eqB X Y with
      | false =>
        have hv2 := Lib.hid (eqB_no (A := A) (B := B) (fun e => eqB_false c2 (by have := (ty_eq.1 e).2 n hlt; rw [HX.out, HY.out] at this; exact Option.some.inj this)))
        go_wp2_with fail
        go_region_held3 (fun w' => w'.cell? ⟨ta, to + n * 6, none⟩ = some (.int .i64 (K n).k) ∧ w'.cell? ⟨ta, to + n * 6 + 1, none⟩ = some (.string (K n).nm) ∧ w'.cell? ⟨ta, to + n * 6 + 2, none⟩ = some (.int .i64 (K n).con) ∧ w'.cell? ⟨ta, to + n * 6 + 3, none⟩ = some (.slice (K n).fa (K n).fl (K n).fc) ∧ w'.cell? ⟨ta, to + n * 6 + 4, none⟩ = some (.slice (K n).la (K n).ll (K n).lc) ∧ w'.cell? ⟨ta, to + n * 6 + 5, none⟩ = some (.slice (K n).ra (K n).rl (K n).rc) ∧ w'.cell? ⟨tb, tp + n * 6, none⟩ = some (.int .i64 (J n).k) ∧ w'.cell? ⟨tb, tp + n * 6 + 1, none⟩ = some (.string (J n).nm) ∧ w'.cell? ⟨tb, tp + n * 6 + 2, none⟩ = some (.int .i64 (J n).con) ∧ w'.cell? ⟨tb, tp + n * 6 + 3, none⟩ = some (.slice (J n).fa (J n).fl (J n).fc) ∧ w'.cell? ⟨tb, tp + n * 6 + 4, none⟩ = some (.slice (J n).la (J n).ll (J n).lc) ∧ w'.cell? ⟨tb, tp + n * 6 + 5, none⟩ = some (.slice (J n).ra (J n).rl (J n).rc))
          (first | exact ⟨x0, x1, x2, x3, x4, x5, y0, y1, y2, y3, y4, y5⟩ | exact ⟨hk6.cellv x0, hk6.cellv x1, hk6.cellv x2, hk6.cellv x3, hk6.cellv x4, hk6.cellv x5, hk6.cellv y0, hk6.cellv y1, hk6.cellv y2, hk6.cellv y3, hk6.cellv y4, hk6.cellv y5⟩)
          ((first | (go_at_call 20; (with_reducible refine CX.out.mono ?_); rintro e w6 ⟨rfl, hk6⟩; rw [c2])))
        go_wp2_with fail
        go_ret
        exact ⟨ret_bool hv2.out.symm, (KWR.out.drew).trans hk6⟩
      | true =>
        have hxy := Lib.hid (eqB_true c2)
        go_wp2_with fail
        go_region_held3 (fun w' => w'.cell? ⟨ta, to + n * 6, none⟩ = some (.int .i64 (K n).k) ∧ w'.cell? ⟨ta, to + n * 6 + 1, none⟩ = some (.string (K n).nm) ∧ w'.cell? ⟨ta, to + n * 6 + 2, none⟩ = some (.int .i64 (K n).con) ∧ w'.cell? ⟨ta, to + n * 6 + 3, none⟩ = some (.slice (K n).fa (K n).fl (K n).fc) ∧ w'.cell? ⟨ta, to + n * 6 + 4, none⟩ = some (.slice (K n).la (K n).ll (K n).lc) ∧ w'.cell? ⟨ta, to + n * 6 + 5, none⟩ = some (.slice (K n).ra (K n).rl (K n).rc) ∧ w'.cell? ⟨tb, tp + n * 6, none⟩ = some (.int .i64 (J n).k) ∧ w'.cell? ⟨tb, tp + n * 6 + 1, none⟩ = some (.string (J n).nm) ∧ w'.cell? ⟨tb, tp + n * 6 + 2, none⟩ = some (.int .i64 (J n).con) ∧ w'.cell? ⟨tb, tp + n * 6 + 3, none⟩ = some (.slice (J n).fa (J n).fl (J n).fc) ∧ w'.cell? ⟨tb, tp + n * 6 + 4, none⟩ = some (.slice (J n).la (J n).ll (J n).lc) ∧ w'.cell? ⟨tb, tp + n * 6 + 5, none⟩ = some (.slice (J n).ra (J n).rl (J n).rc))
          (first | exact ⟨x0, x1, x2, x3, x4, x5, y0, y1, y2, y3, y4, y5⟩ | exact ⟨hk6.cellv x0, hk6.cellv x1, hk6.cellv x2, hk6.cellv x3, hk6.cellv x4, hk6.cellv x5, hk6.cellv y0, hk6.cellv y1, hk6.cellv y2, hk6.cellv y3, hk6.cellv y4, hk6.cellv y5⟩)
          ((first | (go_at_call 20; (with_reducible refine CX.out.mono ?_); rintro e w6 ⟨rfl, hk6⟩; rw [c2])))
        go_wp2_with fail
        go_roundw
        case rel => exact ⟨n + 1, by omega, by go_num, fun i hi => by
          by_cases e : i = n
          · subst e; rw [HX.out, HY.out, hxy.out]
          · exact HN.out i (by omega), (HKR.out.drew).trans hk6⟩
        case measure => simp [intOf]; omega
    · have hv2 := Lib.hid (eqB_yes (ty_eq.2 ⟨TB.out, fun i hi => HN.out i (by omega)⟩))
      have hz : ¬ ((n : Int) < (A.kids.length : Int)) := by omega
      go_wp2_with fail
      go_ret
      exact ⟨ret_bool hv2.out.symm, KWR.out⟩
set_option maxHeartbeats 12800000 in
set_option maxRecDepth 100000 in
theorem refSame_Fk (R R' : Nat) (A B : Ty) (h g : Hd) (K J : Nat → Hd) (w : World) (t : Top w A0 A h K) (u : Top w A0 B g J) (fa : A.kids.length ≤ 17) (fb : B.kids.length ≤ 17) (hv : topB A B = true) (h0 : 0 < g.fl) (hh : ∀ i X, A.kids[i]? = some X → Lies w A0 R X (K i)) (hg : ∀ i X, B.kids[i]? = some X → Lies w A0 R' X (J i))
    (ih : ∀ (i : Nat) (X Y : Ty) (hx hy : Hd) (W : World), A.kids[i]? = some X → B.kids[i]? = some Y → Lies W A0 R X hx → Lies W A0 R' Y hy →
      Calls Try.prog 20 #[hx.val, hy.val] W fun e w' => e = .returned (.bool (eqB X Y)) ∧ Kp W w') (hk : h.k = g.k) (hnm : h.nm = g.nm) (hcon : h.con = g.con) (hfl : h.fl = g.fl) (hll : h.ll = g.ll) (hrl : h.rl = g.rl) :
    Calls Try.prog 20 #[h.val, g.val] w fun e w' => e = .returned (.bool (eqB A B)) ∧ Kp w w' := by
  have hlen : A.kids.length ≤ B.kids.length := Nat.le_of_eq (topB_true hv).2.2.2.2.2
  have hlen' : B.kids.length ≤ A.kids.length := Nat.le_of_eq (topB_true hv).2.2.2.2.2.symm
  have TB := Lib.hid (topB_true hv)
  have ef := t.ef
  have hfk : h.fl ≤ A.kids.length := by have := t.es; omega
  obtain ⟨b1, o1, hea, her⟩ := t.tf.at (by omega)
  obtain ⟨b2, o2, hga, hgr⟩ := u.tf.at (by omega)
  have HER := Lib.hid her
  have HGR := Lib.hid hgr
  have hpA : 0 < A.kids.length := by omega
  have hpB : 0 < B.kids.length := by omega
  clear her hgr
  have HT := Lib.hid t
  have HU := Lib.hid u
  have HH := Lib.hid hh
  have HG := Lib.hid hg
  have IH := Lib.hid ih
  clear t u hv hh hg ih
  obtain ⟨gk, gnm, gcon, ga, gl, gc, gla, gll, glc, gra, grl, grc⟩ := g
  obtain ⟨ek, enm, econ, ea, el, ec, ela, ell, elc, era, erl, erc⟩ := h
  simp only at h0 hk hnm hcon hfl hll hrl hea hga ef hfk
  subst hfl
  subst hea
  subst hga
  have vb1 : (ek != gk) = false := by rw [hk]; simp
  have vb2' : (enm.toList != gnm.toList) = false := by rw [hnm]; simp
  have vb2'' : (enm.toList == gnm.toList) = true := by rw [hnm]; simp
  have vb3 : (econ != gcon) = false := by rw [hcon]; simp
  have vb5 : ((ell : Int) != (gll : Int)) = false := by rw [hll]; simp
  have vb6 : ((erl : Int) != (grl : Int)) = false := by rw [hrl]; simp
  clear hk hnm hcon hll hrl
  go_enter Try.func20, Try.ntmps20
  go_wp2_with fail
  go_loopw [5] (fun i wr => ∃ n : Nat, n ≤ el ∧ i = .int .i64 n ∧ NmEq A.fn B.fn n ∧ Kp ((w.alloc (.cells #[.int .i64 ek, .string enm, .int .i64 econ, .slice (some ⟨b1, o1, none⟩) el ec, .slice ela ell elc, .slice era erl erc] 42)).alloc (.cells #[.int .i64 gk, .string gnm, .int .i64 gcon, .slice (some ⟨b2, o2, none⟩) el gc, .slice gla gll glc, .slice gra grl grc] 42)) wr) (fun i _ => el - (intOf i).toNat)
  case atStart => exact ⟨0, by omega, rfl, fun i hi => absurd hi (by omega), Kp.refl _⟩
  case round =>
    obtain ⟨n, hn, rfl, hN, hkr⟩ := hrel
    have HN := Lib.hid hN
    have HKF := Lib.hid hkr
    have KWF := Lib.hid ((((Kp.refl w).alloc _).alloc _).trans hkr)
    obtain ⟨p0, p1, p2, p3, p4, p5, ps⟩ := boxed (h := (⟨ek, enm, econ, some ⟨b1, o1, none⟩, el, ec, ela, ell, elc, era, erl, erc⟩ : Hd)) (Kp.trans ((Kp.refl _).alloc _) hkr)
    have pl : w.heap.size < wr.heap.size := ps
    obtain ⟨s0, s1, s2, s3, s4, s5, ss⟩ := boxed (h := (⟨gk, gnm, gcon, some ⟨b2, o2, none⟩, el, gc, gla, gll, glc, gra, grl, grc⟩ : Hd)) hkr
    simp only [World.size_alloc] at s0 s1 s2 s3 s4 s5 ss
    have sl : w.heap.size + 1 < wr.heap.size := ss
    clear hN hkr
    by_cases hltf : n < el
    · have j1 : (0 : Int) ≤ n := by omega
      have j2 : (n : Int) < el := by omega
      have g1 : wr.cell? ⟨b1, o1 + n * 7, none⟩ = some (.string (fnAt A.fn n)) := KWF.out.cellv (rangeAt_head (HER.out n hltf))
      have g2 : wr.cell? ⟨b2, o2 + n * 7, none⟩ = some (.string (fnAt B.fn n)) := KWF.out.cellv (rangeAt_head (HGR.out n hltf))
      have g1l : b1 < wr.heap.size := lt_of_cell g1
      have g2l : b2 < wr.heap.size := lt_of_cell g2
      have e1 : fnAt A.fn n = fnAt B.fn n := by rw [TB.out.2.2.2.1]
      have E := Lib.hid e1
      have e2 : ((fnAt A.fn n).toList == (fnAt B.fn n).toList) = true := by rw [e1]; simp
      have e3 : ((fnAt A.fn n).toList != (fnAt B.fn n).toList) = false := by rw [e1]; simp
      clear e1
      go_wp2_with fail
      go_quiet (fail)
      go_wp2_with fail
      go_roundw
      case rel => exact ⟨n + 1, by omega, by go_num, fun i hi => by
        by_cases e : i = n
        · subst e; exact E.out
        · exact HN.out i (by omega), HKF.out.drewN _⟩
      case measure => simp [intOf]; omega
    · obtain rfl : el = n := by omega
      go_wp2_with (first | (go_at_call 34; (with_reducible refine (c_Inner A (⟨ek, enm, econ, some ⟨b1, o1, none⟩, el, ec, ela, ell, elc, era, erl, erc⟩ : Hd) K _ (HT.out.keep KWF.out) (by omega)).mono ?_); rintro e w2 ⟨adA, cA, rfl, htA, hk2⟩; obtain ⟨q0, q1, q2, q3, q4, q5, qs⟩ := boxed (h := (⟨gk, gnm, gcon, some ⟨b2, o2, none⟩, el, gc, gla, gll, glc, gra, grl, grc⟩ : Hd)) (HKF.out.trans hk2); simp only [World.size_alloc] at q0 q1 q2 q3 q4 q5 qs; have ql : w.heap.size + 1 < w2.heap.size := qs; have HK2 := Lib.hid (KWF.out.trans hk2); obtain ⟨ta, to, rfl, hra⟩ := htA.at hpA; have HRA := Lib.hid hra; clear hra htA) | (go_at_call 34; (with_reducible refine (c_Inner B (⟨gk, gnm, gcon, some ⟨b2, o2, none⟩, el, gc, gla, gll, glc, gra, grl, grc⟩ : Hd) J _ (HU.out.keep HK2.out) (by omega)).mono ?_); rintro e w3 ⟨adB, cB, rfl, htB, hk3⟩; have HK3 := Lib.hid hk3; have KW3 := Lib.hid (HK2.out.trans hk3); obtain ⟨tb, tp, rfl, hrb⟩ := htB.at hpB; have HRB := Lib.hid hrb; clear hrb htB hk3))
      go_loopw [8] (fun i wr => ∃ n : Nat, n ≤ A.kids.length ∧ i = .int .i64 n ∧ SameAt A B n ∧ Kp w3 wr) (fun i _ => A.kids.length - (intOf i).toNat)
      case atStart => exact ⟨0, by omega, rfl, fun i hi => absurd hi (by omega), Kp.refl _⟩
      case round =>
        obtain ⟨n, hn, rfl, hN, hkr⟩ := hrel
        have HN := Lib.hid hN
        have HKR := Lib.hid hkr
        have KWR := Lib.hid (KW3.out.trans hkr)
        clear hN hkr
        by_cases hlt : n < A.kids.length
        · have hltB : n < B.kids.length := by omega
          obtain ⟨X, hX⟩ : ∃ X, A.kids[n]? = some X := ⟨_, List.getElem?_eq_getElem hlt⟩
          obtain ⟨Y, hY⟩ : ∃ Y, B.kids[n]? = some Y := ⟨_, List.getElem?_eq_getElem hltB⟩
          have HX := Lib.hid hX
          have HY := Lib.hid hY
          clear hX hY
          have xx : ∀ j v, (K n).cells[j]? = some v → wr.cell? ⟨ta, to + n * 6 + j, none⟩ = some v := fun j v hv => rangeAt_mono (HRA.out n hlt) (HK3.out.trans HKR.out) j v hv
          have yy : ∀ j v, (J n).cells[j]? = some v → wr.cell? ⟨tb, tp + n * 6 + j, none⟩ = some v := fun j v hv => rangeAt_mono (HRB.out n hltB) HKR.out j v hv
          have x0 : wr.cell? ⟨ta, to + n * 6, none⟩ = some (.int .i64 (K n).k) := xx 0 _ rfl
          have x1 : wr.cell? ⟨ta, to + n * 6 + 1, none⟩ = some (.string (K n).nm) := xx 1 _ rfl
          have x2 : wr.cell? ⟨ta, to + n * 6 + 2, none⟩ = some (.int .i64 (K n).con) := xx 2 _ rfl
          have x3 : wr.cell? ⟨ta, to + n * 6 + 3, none⟩ = some (.slice (K n).fa (K n).fl (K n).fc) := xx 3 _ rfl
          have x4 : wr.cell? ⟨ta, to + n * 6 + 4, none⟩ = some (.slice (K n).la (K n).ll (K n).lc) := xx 4 _ rfl
          have x5 : wr.cell? ⟨ta, to + n * 6 + 5, none⟩ = some (.slice (K n).ra (K n).rl (K n).rc) := xx 5 _ rfl
          have y0 : wr.cell? ⟨tb, tp + n * 6, none⟩ = some (.int .i64 (J n).k) := yy 0 _ rfl
          have y1 : wr.cell? ⟨tb, tp + n * 6 + 1, none⟩ = some (.string (J n).nm) := yy 1 _ rfl
          have y2 : wr.cell? ⟨tb, tp + n * 6 + 2, none⟩ = some (.int .i64 (J n).con) := yy 2 _ rfl
          have y3 : wr.cell? ⟨tb, tp + n * 6 + 3, none⟩ = some (.slice (J n).fa (J n).fl (J n).fc) := yy 3 _ rfl
          have y4 : wr.cell? ⟨tb, tp + n * 6 + 4, none⟩ = some (.slice (J n).la (J n).ll (J n).lc) := yy 4 _ rfl
          have y5 : wr.cell? ⟨tb, tp + n * 6 + 5, none⟩ = some (.slice (J n).ra (J n).rl (J n).rc) := yy 5 _ rfl
          clear xx yy
          have j1 : (0 : Int) ≤ n := by omega
          have j2 : (n : Int) < B.kids.length := by omega
          have j3 : (n : Int) < A.kids.length := by omega
          have LX := Lib.hid ((HH.out n X HX.out).keep (KWR.out.drew))
          have LY := Lib.hid ((HG.out n Y HY.out).keep (KWR.out.drew))
          have CX := Lib.hid (IH.out n X Y (K n) (J n) wr.drew HX.out HY.out LX.out LY.out)
          cases c2 : eqB X Y with
          | false =>
            have hv2 := Lib.hid (eqB_no (A := A) (B := B) (fun e => eqB_false c2 (by have := (ty_eq.1 e).2 n hlt; rw [HX.out, HY.out] at this; exact Option.some.inj this)))
            go_wp2_with fail
            go_region_held3 (fun w' => w'.cell? ⟨ta, to + n * 6, none⟩ = some (.int .i64 (K n).k) ∧ w'.cell? ⟨ta, to + n * 6 + 1, none⟩ = some (.string (K n).nm) ∧ w'.cell? ⟨ta, to + n * 6 + 2, none⟩ = some (.int .i64 (K n).con) ∧ w'.cell? ⟨ta, to + n * 6 + 3, none⟩ = some (.slice (K n).fa (K n).fl (K n).fc) ∧ w'.cell? ⟨ta, to + n * 6 + 4, none⟩ = some (.slice (K n).la (K n).ll (K n).lc) ∧ w'.cell? ⟨ta, to + n * 6 + 5, none⟩ = some (.slice (K n).ra (K n).rl (K n).rc) ∧ w'.cell? ⟨tb, tp + n * 6, none⟩ = some (.int .i64 (J n).k) ∧ w'.cell? ⟨tb, tp + n * 6 + 1, none⟩ = some (.string (J n).nm) ∧ w'.cell? ⟨tb, tp + n * 6 + 2, none⟩ = some (.int .i64 (J n).con) ∧ w'.cell? ⟨tb, tp + n * 6 + 3, none⟩ = some (.slice (J n).fa (J n).fl (J n).fc) ∧ w'.cell? ⟨tb, tp + n * 6 + 4, none⟩ = some (.slice (J n).la (J n).ll (J n).lc) ∧ w'.cell? ⟨tb, tp + n * 6 + 5, none⟩ = some (.slice (J n).ra (J n).rl (J n).rc))
              (first | exact ⟨x0, x1, x2, x3, x4, x5, y0, y1, y2, y3, y4, y5⟩ | exact ⟨hk6.cellv x0, hk6.cellv x1, hk6.cellv x2, hk6.cellv x3, hk6.cellv x4, hk6.cellv x5, hk6.cellv y0, hk6.cellv y1, hk6.cellv y2, hk6.cellv y3, hk6.cellv y4, hk6.cellv y5⟩)
              ((first | (go_at_call 20; (with_reducible refine CX.out.mono ?_); rintro e w6 ⟨rfl, hk6⟩; rw [c2])))
            go_wp2_with fail
            go_ret
            exact ⟨ret_bool hv2.out.symm, (KWR.out.drew).trans hk6⟩
          | true =>
            have hxy := Lib.hid (eqB_true c2)
            go_wp2_with fail
            go_region_held3 (fun w' => w'.cell? ⟨ta, to + n * 6, none⟩ = some (.int .i64 (K n).k) ∧ w'.cell? ⟨ta, to + n * 6 + 1, none⟩ = some (.string (K n).nm) ∧ w'.cell? ⟨ta, to + n * 6 + 2, none⟩ = some (.int .i64 (K n).con) ∧ w'.cell? ⟨ta, to + n * 6 + 3, none⟩ = some (.slice (K n).fa (K n).fl (K n).fc) ∧ w'.cell? ⟨ta, to + n * 6 + 4, none⟩ = some (.slice (K n).la (K n).ll (K n).lc) ∧ w'.cell? ⟨ta, to + n * 6 + 5, none⟩ = some (.slice (K n).ra (K n).rl (K n).rc) ∧ w'.cell? ⟨tb, tp + n * 6, none⟩ = some (.int .i64 (J n).k) ∧ w'.cell? ⟨tb, tp + n * 6 + 1, none⟩ = some (.string (J n).nm) ∧ w'.cell? ⟨tb, tp + n * 6 + 2, none⟩ = some (.int .i64 (J n).con) ∧ w'.cell? ⟨tb, tp + n * 6 + 3, none⟩ = some (.slice (J n).fa (J n).fl (J n).fc) ∧ w'.cell? ⟨tb, tp + n * 6 + 4, none⟩ = some (.slice (J n).la (J n).ll (J n).lc) ∧ w'.cell? ⟨tb, tp + n * 6 + 5, none⟩ = some (.slice (J n).ra (J n).rl (J n).rc))
              (first | exact ⟨x0, x1, x2, x3, x4, x5, y0, y1, y2, y3, y4, y5⟩ | exact ⟨hk6.cellv x0, hk6.cellv x1, hk6.cellv x2, hk6.cellv x3, hk6.cellv x4, hk6.cellv x5, hk6.cellv y0, hk6.cellv y1, hk6.cellv y2, hk6.cellv y3, hk6.cellv y4, hk6.cellv y5⟩)
              ((first | (go_at_call 20; (with_reducible refine CX.out.mono ?_); rintro e w6 ⟨rfl, hk6⟩; rw [c2])))
            go_wp2_with fail
            go_roundw
            case rel => exact ⟨n + 1, by omega, by go_num, fun i hi => by
              by_cases e : i = n
              · subst e; rw [HX.out, HY.out, hxy.out]
              · exact HN.out i (by omega), (HKR.out.drew).trans hk6⟩
            case measure => simp [intOf]; omega
        · have hv2 := Lib.hid (eqB_yes (ty_eq.2 ⟨TB.out, fun i hi => HN.out i (by omega)⟩))
          have hz : ¬ ((n : Int) < (A.kids.length : Int)) := by omega
          go_wp2_with fail
          go_ret
          exact ⟨ret_bool hv2.out.symm, KWR.out⟩
set_option maxHeartbeats 6400000 in
set_option maxRecDepth 100000 in
theorem refSame_no2 (A B : Ty) (h g : Hd) (K J : Nat → Hd) (w : World) (t : Top w A0 A h K) (u : Top w A0 B g J) (fa : A.kids.length ≤ 17) (fb : B.kids.length ≤ 17) (hv : topB A B = false) (h0 : 0 < g.fl) (hk : h.k = g.k) (hnm : h.nm = g.nm) (hcon : h.con = g.con) (hfl : h.fl = g.fl) (hll : h.ll = g.ll) (hrl : h.rl = g.rl) :
    Calls Try.prog 20 #[h.val, g.val] w fun e w' => e = .returned (.bool (eqB A B)) ∧ Kp w w' := by
  have hv2 := Lib.hid (eqB_no (fun e => topB_false hv (ty_eq.1 e).1))
  have hiff := Lib.hid (fun q => topB_false hv ((topEq_iff t u).2 ⟨hk, hnm, hcon, hfl, hll, hrl, q⟩))
  have ef := t.ef
  have hfk : h.fl ≤ A.kids.length := by have := t.es; omega
  obtain ⟨b1, o1, hea, her⟩ := t.tf.at (by omega)
  obtain ⟨b2, o2, hga, hgr⟩ := u.tf.at (by omega)
  have HER := Lib.hid her
  have HGR := Lib.hid hgr
  clear her hgr
  have HT := Lib.hid t
  have HU := Lib.hid u
  clear t u hv
  obtain ⟨gk, gnm, gcon, ga, gl, gc, gla, gll, glc, gra, grl, grc⟩ := g
  obtain ⟨ek, enm, econ, ea, el, ec, ela, ell, elc, era, erl, erc⟩ := h
  simp only at h0 hk hnm hcon hfl hll hrl hea hga ef hfk
  subst hfl
  subst hea
  subst hga
  have vb1 : (ek != gk) = false := by rw [hk]; simp
  have vb2' : (enm.toList != gnm.toList) = false := by rw [hnm]; simp
  have vb2'' : (enm.toList == gnm.toList) = true := by rw [hnm]; simp
  have vb3 : (econ != gcon) = false := by rw [hcon]; simp
  have vb5 : ((ell : Int) != (gll : Int)) = false := by rw [hll]; simp
  have vb6 : ((erl : Int) != (grl : Int)) = false := by rw [hrl]; simp
  clear hk hnm hcon hll hrl
  go_enter Try.func20, Try.ntmps20
  go_wp2_with fail
  go_loopw [5] (fun i wr => ∃ n : Nat, n ≤ el ∧ i = .int .i64 n ∧ NmEq A.fn B.fn n ∧ Kp ((w.alloc (.cells #[.int .i64 ek, .string enm, .int .i64 econ, .slice (some ⟨b1, o1, none⟩) el ec, .slice ela ell elc, .slice era erl erc] 42)).alloc (.cells #[.int .i64 gk, .string gnm, .int .i64 gcon, .slice (some ⟨b2, o2, none⟩) el gc, .slice gla gll glc, .slice gra grl grc] 42)) wr) (fun i _ => el - (intOf i).toNat)
  case atStart => exact ⟨0, by omega, rfl, fun i hi => absurd hi (by omega), Kp.refl _⟩
  case round =>
    obtain ⟨n, hn, rfl, hN, hkr⟩ := hrel
    have HN := Lib.hid hN
    have HKF := Lib.hid hkr
    have KWF := Lib.hid ((((Kp.refl w).alloc _).alloc _).trans hkr)
    obtain ⟨p0, p1, p2, p3, p4, p5, ps⟩ := boxed (h := (⟨ek, enm, econ, some ⟨b1, o1, none⟩, el, ec, ela, ell, elc, era, erl, erc⟩ : Hd)) (Kp.trans ((Kp.refl _).alloc _) hkr)
    have pl : w.heap.size < wr.heap.size := ps
    obtain ⟨s0, s1, s2, s3, s4, s5, ss⟩ := boxed (h := (⟨gk, gnm, gcon, some ⟨b2, o2, none⟩, el, gc, gla, gll, glc, gra, grl, grc⟩ : Hd)) hkr
    simp only [World.size_alloc] at s0 s1 s2 s3 s4 s5 ss
    have sl : w.heap.size + 1 < wr.heap.size := ss
    clear hN hkr
    by_cases hltf : n < el
    · have j1 : (0 : Int) ≤ n := by omega
      have j2 : (n : Int) < el := by omega
      have g1 : wr.cell? ⟨b1, o1 + n * 7, none⟩ = some (.string (fnAt A.fn n)) := KWF.out.cellv (rangeAt_head (HER.out n hltf))
      have g2 : wr.cell? ⟨b2, o2 + n * 7, none⟩ = some (.string (fnAt B.fn n)) := KWF.out.cellv (rangeAt_head (HGR.out n hltf))
      have g1l : b1 < wr.heap.size := lt_of_cell g1
      have g2l : b2 < wr.heap.size := lt_of_cell g2
      rcases same_or (fnAt A.fn n) (fnAt B.fn n) with ⟨e1, e2⟩ | ⟨e1, e2⟩
      · have E := Lib.hid e1
        have e3 : ((fnAt A.fn n).toList != (fnAt B.fn n).toList) = false := by simpa [bne] using e2
        clear e1
        go_wp2_with fail
        go_quiet (fail)
        go_wp2_with fail
        go_roundw
        case rel => exact ⟨n + 1, by omega, by go_num, fun i hi => by
          by_cases e : i = n
          · subst e; exact E.out
          · exact HN.out i (by omega), HKF.out.drewN _⟩
        case measure => simp [intOf]; omega
      · have e3 : ((fnAt A.fn n).toList != (fnAt B.fn n).toList) = true := by simpa [bne] using e2
        clear e1
        go_wp2_with fail
        go_quiet (fail)
        go_wp2_with fail
        go_ret
        exact ⟨ret_bool hv2.out.symm, KWF.out.drewN _⟩
    · obtain rfl : el = n := by omega
      exact (hiff.out HN.out).elim
theorem c_refSame : ∀ (r R R' : Nat) (A B : Ty) (h g : Hd) (w : World), Lies w A0 R A h → Lies w A0 R' B g → (look r A).2.2 = true → (look r B).2.2 = true →
    Calls Try.prog 20 #[h.val, g.val] w fun e w' => e = .returned (.bool (eqB A B)) ∧ Kp w w' := by
  intro r
  induction r with
  | zero => intro R R' A B h g w _ _ hs; rw [look_zero] at hs; cases hs
  | succ r ih =>
    intro R R' A B h g w hl hm hs hs'
    cases R with
    | zero => exact hl.elim
    | succ R =>
      cases R' with
      | zero => exact hm.elim
      | succ R' =>
        have f1 := few_of hs
        have f2 := few_of hs'
        obtain ⟨K, t, hh⟩ := hl
        obtain ⟨J, u, hg⟩ := hm
        have k1 := (look_parts hs).2
        have k2 := (look_parts hs').2
        have IH : ∀ (i : Nat) (X Y : Ty) (hx hy : Hd) (W : World), A.kids[i]? = some X → B.kids[i]? = some Y → Lies W A0 R X hx → Lies W A0 R' Y hy →
            Calls Try.prog 20 #[hx.val, hy.val] W fun e w' => e = .returned (.bool (eqB X Y)) ∧ Kp W w' :=
          fun i X Y hx hy W a b c d => ih R R' X Y hx hy W c d (k1 i X a) (k2 i Y b)
        by_cases hn : h.k = g.k ∧ h.nm = g.nm ∧ h.con = g.con ∧ h.fl = g.fl ∧ h.ll = g.ll ∧ h.rl = g.rl
        · obtain ⟨a, b, c, d, e, f⟩ := hn
          cases hv : topB A B with
          | false =>
            by_cases h0 : g.fl = 0
            · exact absurd ((topEq_iff t u).2 ⟨a, b, c, d, e, f, fun i hi => absurd hi (by omega)⟩) (topB_false hv)
            · exact refSame_no2 A B h g K J w t u f1 f2 hv (by omega) a b c d e f
          | true =>
            by_cases h0 : g.fl = 0
            · by_cases hz : A.kids.length = 0
              · exact refSame_00 A B h g K J w t u f1 f2 hv h0 hz a b c d e f
              · exact refSame_0k R R' A B h g K J w t u f1 f2 hv h0 (by omega) hh hg IH a b c d e f
            · exact refSame_Fk R R' A B h g K J w t u f1 f2 hv (by omega) hh hg IH a b c d e f
        · exact refSame_no A B h g w (eqB_no (fun q => hn (by obtain ⟨a, b, c, d, e, f, _⟩ := (topEq_iff t u).1 (ty_eq.1 q).1; exact ⟨a, b, c, d, e, f⟩))) hn
end Go.Proofs.Ytfjflfokmihcpaa
