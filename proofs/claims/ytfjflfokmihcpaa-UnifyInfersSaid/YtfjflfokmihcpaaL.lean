/- Same of package types. Condition: the types lie in memory. -/
import Derived.Test.YtfjflfokmihcpaaH
import Derived.Test.YtfjflfokmihcpaaK
import Derived.Deep.RegionHeld3
import Derived.Laws.EntriesVeiled
namespace Go.Proofs.Ytfjflfokmihcpaa
open Go.RowKit
set_option linter.unusedVariables false
set_option linter.unusedSimpArgs false

noncomputable def eqB (A B : Ty) : Bool := @decide (A = B) (Classical.propDecidable _)
theorem eqB_yes {A B : Ty} (h : A = B) : eqB A B = true := by unfold eqB; exact @decide_eq_true _ (Classical.propDecidable _) h
theorem eqB_no {A B : Ty} (h : ¬ A = B) : eqB A B = false := by unfold eqB; exact @decide_eq_false _ (Classical.propDecidable _) h
theorem eqB_true {A B : Ty} (h : eqB A B = true) : A = B := Classical.byContradiction fun hn => by rw [eqB_no hn] at h; cases h
theorem eqB_false {A B : Ty} (h : eqB A B = false) : ¬ A = B := fun hn => by rw [eqB_yes hn] at h; cases h
theorem ty_eq {A B : Ty} : A = B ↔ TopEq A B ∧ ∀ i, i < A.kids.length → A.kids[i]? = B.kids[i]? := by
  constructor
  · intro h; subst h; exact ⟨⟨rfl, rfl, rfl, rfl, rfl, rfl⟩, fun _ _ => rfl⟩
  · intro ⟨⟨a, b, c, d, e, f⟩, hk⟩
    have hkk : A.kids = B.kids := List.ext_getElem? fun i => by
      by_cases hi : i < A.kids.length
      · exact hk i hi
      · rw [List.getElem?_eq_none (by omega), List.getElem?_eq_none (by omega)]
    cases A
    cases B
    simp only [Ty.k, Ty.nm, Ty.con, Ty.fn, Ty.nl, Ty.kids] at a b c d e hkk
    subst a; subst b; subst c; subst d; subst e; subst hkk
    rfl
theorem topB_true {A B : Ty} (h : topB A B = true) : TopEq A B := Classical.byContradiction fun hn => by rw [topB_no hn] at h; cases h
theorem topB_false {A B : Ty} (h : topB A B = false) : ¬ TopEq A B := fun hn => by rw [topB_yes hn] at h; cases h
def SameAt (A B : Ty) (n : Nat) : Prop := ∀ i, i < n → A.kids[i]? = B.kids[i]?
/-- A sound type has few types in it. -/
theorem few_of {r : Nat} {T : Ty} (h : (look r T).2.2 = true) : T.kids.length ≤ 17 := by
  cases r with
  | zero => rw [look_zero] at h; cases h
  | succ r =>
    have := fm_few (h := hdOf T) (look_parts h).1
    simp only [hdOf] at this
    omega
set_option maxHeartbeats 1600000 in
theorem same_no (lp r R R' : Nat) (A B : Ty) (h g : Hd) (K J : Nat → Hd) (w : World) (hE : w.cell? ⟨lp, 0, none⟩ = some (.func (.func 58) #[] #[.pointer (some ⟨lp, 0, none⟩)])) (t : Top w A0 A h K) (u : Top w A0 B g J) (fa : A.kids.length ≤ 17) (fb : B.kids.length ≤ 17) (hv : topB A B = false) :
    Calls Try.prog 58 #[h.val, g.val, .pointer (some ⟨lp, 0, none⟩)] w fun e w' => e = .returned (.bool (eqB A B)) ∧ Kp w w' := by
  have ht := Lib.hid t
  have hu := Lib.hid u
  have hv2 := Lib.hid (eqB_no (fun e => topB_false hv (ty_eq.1 e).1))
  have c1 := hv
  clear t u hv
  go_enter Try.func58, Try.ntmps58
  go_wp2_with (first | (go_at_call 59; (with_reducible refine (c_sameTop A B h g K J _ (ht.out.keep (((Kp.refl w).alloc _).alloc _)) (hu.out.keep (((Kp.refl w).alloc _).alloc _))).mono ?_); rintro e w2 ⟨rfl, hk2⟩; rw [c1]; skip))
  go_ret
  exact ⟨ret_bool hv2.out.symm, (((Kp.refl w).alloc _).alloc _).trans hk2⟩
set_option maxHeartbeats 3200000 in
set_option maxRecDepth 100000 in
theorem same_yes0 (lp r R R' : Nat) (A B : Ty) (h g : Hd) (K J : Nat → Hd) (w : World) (hE : w.cell? ⟨lp, 0, none⟩ = some (.func (.func 58) #[] #[.pointer (some ⟨lp, 0, none⟩)])) (t : Top w A0 A h K) (u : Top w A0 B g J) (fa : A.kids.length ≤ 17) (fb : B.kids.length ≤ 17) (hv : topB A B = true) (h0 : B.kids.length = 0) :
    Calls Try.prog 58 #[h.val, g.val, .pointer (some ⟨lp, 0, none⟩)] w fun e w' => e = .returned (.bool (eqB A B)) ∧ Kp w w' := by
  have ht := Lib.hid t
  have hu := Lib.hid u
  have hlen : A.kids.length = B.kids.length := (topB_true hv).2.2.2.2.2
  have hv2 := Lib.hid (eqB_yes (ty_eq.2 ⟨topB_true hv, fun i hi => absurd hi (by omega)⟩))
  have c1 := hv
  have hz : ¬ ((0 : Int) < (A.kids.length : Int)) := by omega
  clear t u hv hlen h0
  go_enter Try.func58, Try.ntmps58
  go_wp2_with (first | (go_at_call 59; (with_reducible refine (c_sameTop A B h g K J _ (ht.out.keep (((Kp.refl w).alloc _).alloc _)) (hu.out.keep (((Kp.refl w).alloc _).alloc _))).mono ?_); rintro e w2 ⟨rfl, hk2⟩; rw [c1]; obtain ⟨p0, p1, p2, p3, p4, p5, ps⟩ := boxed (h := h) (Kp.trans ((Kp.refl _).alloc _) hk2); have pl : w.heap.size < w2.heap.size := ps; obtain ⟨q0, q1, q2, q3, q4, q5, qs⟩ := boxed (h := g) hk2; simp only [World.size_alloc] at q0 q1 q2 q3 q4 q5 qs; have ql : w.heap.size + 1 < w2.heap.size := qs; have KW2 := Lib.hid ((((Kp.refl w).alloc _).alloc _).trans hk2)) | (go_at_call 45; (with_reducible refine (c_parts B g J _ (hu.out.keep KW2.out) (by omega)).mono ?_); rintro e w3 ⟨adB, cB, rfl, htB, hk3⟩; obtain ⟨r0, r1, r2, r3, r4, r5, rs⟩ := boxed (h := h) (Kp.trans ((Kp.refl _).alloc _) (hk2.trans hk3)); have rl : w.heap.size < w3.heap.size := rs; have KW3 := Lib.hid hk3; clear hk3) | (go_at_call 45; (with_reducible refine (c_parts A h K _ (ht.out.keep (KW2.out.trans KW3.out)) (by omega)).mono ?_); rintro e w4 ⟨adA, cA, rfl, htA, hk4⟩; have HTA := Lib.hid htA; have KW4 := Lib.hid hk4; clear htA hk4))
  refine wp_loop_rounds 1 ?_
  rw [rounds_succ]
  go_wp2_with fail
  go_ret
  exact ⟨ret_bool hv2.out.symm, (KW2.out.trans KW3.out).trans KW4.out⟩
theorem rangeAt_mono {w w' : World} {b o : Nat} {cs : List Value} (h : w.rangeAt b o cs) (hk : Kp w w') : w'.rangeAt b o cs := hk.range h
set_option maxHeartbeats 6400000 in
set_option maxRecDepth 100000 in
theorem same_yes (lp r R R' : Nat) (A B : Ty) (h g : Hd) (K J : Nat → Hd) (w : World) (hE : w.cell? ⟨lp, 0, none⟩ = some (.func (.func 58) #[] #[.pointer (some ⟨lp, 0, none⟩)])) (t : Top w A0 A h K) (u : Top w A0 B g J) (fa : A.kids.length ≤ 17) (fb : B.kids.length ≤ 17) (hv : topB A B = true) (h0 : 0 < B.kids.length) (hh : ∀ i X, A.kids[i]? = some X → Lies w A0 R X (K i)) (hg : ∀ i X, B.kids[i]? = some X → Lies w A0 R' X (J i))
    (ih : ∀ (i : Nat) (X Y : Ty) (hx hy : Hd) (W : World), A.kids[i]? = some X → B.kids[i]? = some Y → W.cell? ⟨lp, 0, none⟩ = some (.func (.func 58) #[] #[.pointer (some ⟨lp, 0, none⟩)]) → Lies W A0 R X hx → Lies W A0 R' Y hy →
      Calls Try.prog 58 #[hx.val, hy.val, .pointer (some ⟨lp, 0, none⟩)] W fun e w' => e = .returned (.bool (eqB X Y)) ∧ Kp W w') :
    Calls Try.prog 58 #[h.val, g.val, .pointer (some ⟨lp, 0, none⟩)] w fun e w' => e = .returned (.bool (eqB A B)) ∧ Kp w w' := by
  have ht := Lib.hid t
  have hu := Lib.hid u
  have HE := Lib.hid hE
  have HH := Lib.hid hh
  have HG := Lib.hid hg
  have IH := Lib.hid ih
  have HV := Lib.hid (topB_true hv)
  have hlen : A.kids.length ≤ B.kids.length := Nat.le_of_eq (topB_true hv).2.2.2.2.2
  have hlen' : B.kids.length ≤ A.kids.length := Nat.le_of_eq (topB_true hv).2.2.2.2.2.symm
  have c1 := hv
  clear t u hv hE hh hg ih
  go_enter Try.func58, Try.ntmps58
  go_wp2_with (first | (go_at_call 59; (with_reducible refine (c_sameTop A B h g K J _ (ht.out.keep (((Kp.refl w).alloc _).alloc _)) (hu.out.keep (((Kp.refl w).alloc _).alloc _))).mono ?_); rintro e w2 ⟨rfl, hk2⟩; rw [c1]; obtain ⟨p0, p1, p2, p3, p4, p5, ps⟩ := boxed (h := h) (Kp.trans ((Kp.refl _).alloc _) hk2); have pl : w.heap.size < w2.heap.size := ps; obtain ⟨q0, q1, q2, q3, q4, q5, qs⟩ := boxed (h := g) hk2; simp only [World.size_alloc] at q0 q1 q2 q3 q4 q5 qs; have ql : w.heap.size + 1 < w2.heap.size := qs; have KW2 := Lib.hid ((((Kp.refl w).alloc _).alloc _).trans hk2)) | (go_at_call 45; (with_reducible refine (c_parts B g J _ (hu.out.keep KW2.out) (by omega)).mono ?_); rintro e w3 ⟨adB, cB, rfl, htB, hk3⟩; obtain ⟨r0, r1, r2, r3, r4, r5, rs⟩ := boxed (h := h) (Kp.trans ((Kp.refl _).alloc _) (hk2.trans hk3)); have rl : w.heap.size < w3.heap.size := rs; have KW3 := Lib.hid hk3; clear hk3; obtain ⟨tb, to, rfl, hrb⟩ := htB.at h0; have HRB := Lib.hid hrb; clear hrb htB) | (go_at_call 45; (with_reducible refine (c_parts A h K _ (ht.out.keep (KW2.out.trans KW3.out)) (by omega)).mono ?_); rintro e w4 ⟨adA, cA, rfl, htA, hk4⟩; have HTA := Lib.hid htA; have KW4 := Lib.hid hk4; clear htA hk4))
  go_loopw [18] (fun i wr => ∃ n : Nat, n ≤ A.kids.length ∧ i = .int .i64 n ∧ SameAt A B n ∧ Kp w4 wr) (fun i _ => A.kids.length - (intOf i).toNat)
  case atStart => exact ⟨0, by omega, rfl, fun i hi => absurd hi (by omega), Kp.refl _⟩
  case round =>
    obtain ⟨n, hn, rfl, hN, hkr⟩ := hrel
    have HN := Lib.hid hN
    have HKR := Lib.hid hkr
    have KR3 := Lib.hid (KW4.out.trans hkr)
    have KWR := Lib.hid ((KW2.out.trans KW3.out).trans (KW4.out.trans hkr))
    clear hN hkr
    by_cases hlt : n < A.kids.length
    · have hltB : n < B.kids.length := by omega
      obtain ⟨b, o, ha, hr⟩ := (HTA.out.keep HKR.out).at (by omega)
      have HA := Lib.hid ha
      have HR := Lib.hid (hr n hlt)
      clear ha hr
      obtain ⟨X, hX⟩ : ∃ X, A.kids[n]? = some X := ⟨_, List.getElem?_eq_getElem hlt⟩
      obtain ⟨Y, hY⟩ : ∃ Y, B.kids[n]? = some Y := ⟨_, List.getElem?_eq_getElem hltB⟩
      have HX := Lib.hid hX
      have HY := Lib.hid hY
      clear hX hY
      have KB := Lib.hid ((Kp.refl wr).alloc (.cells #[.int .i64 (K n).k, .string (K n).nm, .int .i64 (K n).con, .slice (K n).fa (K n).fl (K n).fc, .slice (K n).la (K n).ll (K n).lc, .slice (K n).ra (K n).rl (K n).rc] 42))
      have a0 : (wr.alloc (.cells #[.int .i64 (K n).k, .string (K n).nm, .int .i64 (K n).con, .slice (K n).fa (K n).fl (K n).fc, .slice (K n).la (K n).ll (K n).lc, .slice (K n).ra (K n).rl (K n).rc] 42)).cell? ⟨lp, 0, none⟩ = some (.func (.func 58) #[] #[.pointer (some ⟨lp, 0, none⟩)]) := KB.out.cellv (KWR.out.cellv HE.out)
      obtain ⟨x0, x1, x2, x3, x4, x5, xs⟩ := boxed (h := K n) (Kp.refl (wr.alloc (.cells #[.int .i64 (K n).k, .string (K n).nm, .int .i64 (K n).con, .slice (K n).fa (K n).fl (K n).fc, .slice (K n).la (K n).ll (K n).lc, .slice (K n).ra (K n).rl (K n).rc] 42)))
      have yy : ∀ j v, (J n).cells[j]? = some v → (wr.alloc (.cells #[.int .i64 (K n).k, .string (K n).nm, .int .i64 (K n).con, .slice (K n).fa (K n).fl (K n).fc, .slice (K n).la (K n).ll (K n).lc, .slice (K n).ra (K n).rl (K n).rc] 42)).cell? ⟨tb, to + n * 6 + j, none⟩ = some v := fun j v hv => KB.out.cellv (rangeAt_mono (HRB.out n hltB) KR3.out j v hv)
      have y0 : (wr.alloc (.cells #[.int .i64 (K n).k, .string (K n).nm, .int .i64 (K n).con, .slice (K n).fa (K n).fl (K n).fc, .slice (K n).la (K n).ll (K n).lc, .slice (K n).ra (K n).rl (K n).rc] 42)).cell? ⟨tb, to + n * 6, none⟩ = some (.int .i64 (J n).k) := yy 0 _ rfl
      have y1 : (wr.alloc (.cells #[.int .i64 (K n).k, .string (K n).nm, .int .i64 (K n).con, .slice (K n).fa (K n).fl (K n).fc, .slice (K n).la (K n).ll (K n).lc, .slice (K n).ra (K n).rl (K n).rc] 42)).cell? ⟨tb, to + n * 6 + 1, none⟩ = some (.string (J n).nm) := yy 1 _ rfl
      have y2 : (wr.alloc (.cells #[.int .i64 (K n).k, .string (K n).nm, .int .i64 (K n).con, .slice (K n).fa (K n).fl (K n).fc, .slice (K n).la (K n).ll (K n).lc, .slice (K n).ra (K n).rl (K n).rc] 42)).cell? ⟨tb, to + n * 6 + 2, none⟩ = some (.int .i64 (J n).con) := yy 2 _ rfl
      have y3 : (wr.alloc (.cells #[.int .i64 (K n).k, .string (K n).nm, .int .i64 (K n).con, .slice (K n).fa (K n).fl (K n).fc, .slice (K n).la (K n).ll (K n).lc, .slice (K n).ra (K n).rl (K n).rc] 42)).cell? ⟨tb, to + n * 6 + 3, none⟩ = some (.slice (J n).fa (J n).fl (J n).fc) := yy 3 _ rfl
      have y4 : (wr.alloc (.cells #[.int .i64 (K n).k, .string (K n).nm, .int .i64 (K n).con, .slice (K n).fa (K n).fl (K n).fc, .slice (K n).la (K n).ll (K n).lc, .slice (K n).ra (K n).rl (K n).rc] 42)).cell? ⟨tb, to + n * 6 + 4, none⟩ = some (.slice (J n).la (J n).ll (J n).lc) := yy 4 _ rfl
      have y5 : (wr.alloc (.cells #[.int .i64 (K n).k, .string (K n).nm, .int .i64 (K n).con, .slice (K n).fa (K n).fl (K n).fc, .slice (K n).la (K n).ll (K n).lc, .slice (K n).ra (K n).rl (K n).rc] 42)).cell? ⟨tb, to + n * 6 + 5, none⟩ = some (.slice (J n).ra (J n).rl (J n).rc) := yy 5 _ rfl
      clear yy
      have j1 : (0 : Int) ≤ n := by omega
      have j2 : (n : Int) < B.kids.length := by omega
      have LX := Lib.hid ((HH.out n X HX.out).keep ((KWR.out.trans KB.out).drew))
      have LY := Lib.hid ((HG.out n Y HY.out).keep ((KWR.out.trans KB.out).drew))
      have CX := Lib.hid (IH.out n X Y (K n) (J n) (wr.alloc (.cells #[.int .i64 (K n).k, .string (K n).nm, .int .i64 (K n).con, .slice (K n).fa (K n).fl (K n).fc, .slice (K n).la (K n).ll (K n).lc, .slice (K n).ra (K n).rl (K n).rc] 42)).drew HX.out HY.out a0 LX.out LY.out)
      cases c2 : eqB X Y with
      | false =>
        have hv2 := Lib.hid (eqB_no (A := A) (B := B) (fun e => eqB_false c2 (by have := (ty_eq.1 e).2 n hlt; rw [HX.out, HY.out] at this; exact Option.some.inj this)))
        go_wp2_with (first | ((with_reducible show wpList _ _ _ (⟨some 21, _, _, _, _, _⟩ :: _) _ _); refine wpList_index_tab (d := 21) _ _ _ rfl 42 Try.underlying23 6 rfl _ _ _ _ o (by rfl) HA.out n (by rfl) hlt ?_) | ((with_reducible show wpList _ _ _ (⟨some 22, _, _, _, _, _⟩ :: _) _ _); refine wpList_load_ty (d := 22) _ _ rfl _ Try.underlying42 wr _ _ b (o + n * 6) (by rfl) rfl (by first | rfl | omega) (K n) HR.out (Kp.refl _) rfl ?_))
        go_region_held3 (fun w' => w'.cell? ⟨lp, 0, none⟩ = some (.func (.func 58) #[] #[.pointer (some ⟨lp, 0, none⟩)]) ∧ w'.cell? ⟨wr.heap.size, 0, none⟩ = some (.int .i64 (K n).k) ∧ w'.cell? ⟨wr.heap.size, 1, none⟩ = some (.string (K n).nm) ∧ w'.cell? ⟨wr.heap.size, 2, none⟩ = some (.int .i64 (K n).con) ∧ w'.cell? ⟨wr.heap.size, 3, none⟩ = some (.slice (K n).fa (K n).fl (K n).fc) ∧ w'.cell? ⟨wr.heap.size, 4, none⟩ = some (.slice (K n).la (K n).ll (K n).lc) ∧ w'.cell? ⟨wr.heap.size, 5, none⟩ = some (.slice (K n).ra (K n).rl (K n).rc) ∧ w'.cell? ⟨tb, to + n * 6, none⟩ = some (.int .i64 (J n).k) ∧ w'.cell? ⟨tb, to + n * 6 + 1, none⟩ = some (.string (J n).nm) ∧ w'.cell? ⟨tb, to + n * 6 + 2, none⟩ = some (.int .i64 (J n).con) ∧ w'.cell? ⟨tb, to + n * 6 + 3, none⟩ = some (.slice (J n).fa (J n).fl (J n).fc) ∧ w'.cell? ⟨tb, to + n * 6 + 4, none⟩ = some (.slice (J n).la (J n).ll (J n).lc) ∧ w'.cell? ⟨tb, to + n * 6 + 5, none⟩ = some (.slice (J n).ra (J n).rl (J n).rc))
          (first | exact ⟨a0, x0, x1, x2, x3, x4, x5, y0, y1, y2, y3, y4, y5⟩ | exact ⟨hk6.cellv a0, hk6.cellv x0, hk6.cellv x1, hk6.cellv x2, hk6.cellv x3, hk6.cellv x4, hk6.cellv x5, hk6.cellv y0, hk6.cellv y1, hk6.cellv y2, hk6.cellv y3, hk6.cellv y4, hk6.cellv y5⟩)
          ((first | (go_at_call 58; refine CX.out.mono ?_; rintro e w6 ⟨rfl, hk6⟩; rw [c2])))
        go_wp2_with fail
        go_ret
        exact ⟨ret_bool hv2.out.symm, ((KWR.out.trans KB.out).drew).trans hk6⟩
      | true =>
        have hxy := Lib.hid (eqB_true c2)
        go_wp2_with (first | ((with_reducible show wpList _ _ _ (⟨some 21, _, _, _, _, _⟩ :: _) _ _); refine wpList_index_tab (d := 21) _ _ _ rfl 42 Try.underlying23 6 rfl _ _ _ _ o (by rfl) HA.out n (by rfl) hlt ?_) | ((with_reducible show wpList _ _ _ (⟨some 22, _, _, _, _, _⟩ :: _) _ _); refine wpList_load_ty (d := 22) _ _ rfl _ Try.underlying42 wr _ _ b (o + n * 6) (by rfl) rfl (by first | rfl | omega) (K n) HR.out (Kp.refl _) rfl ?_))
        go_region_held3 (fun w' => w'.cell? ⟨lp, 0, none⟩ = some (.func (.func 58) #[] #[.pointer (some ⟨lp, 0, none⟩)]) ∧ w'.cell? ⟨wr.heap.size, 0, none⟩ = some (.int .i64 (K n).k) ∧ w'.cell? ⟨wr.heap.size, 1, none⟩ = some (.string (K n).nm) ∧ w'.cell? ⟨wr.heap.size, 2, none⟩ = some (.int .i64 (K n).con) ∧ w'.cell? ⟨wr.heap.size, 3, none⟩ = some (.slice (K n).fa (K n).fl (K n).fc) ∧ w'.cell? ⟨wr.heap.size, 4, none⟩ = some (.slice (K n).la (K n).ll (K n).lc) ∧ w'.cell? ⟨wr.heap.size, 5, none⟩ = some (.slice (K n).ra (K n).rl (K n).rc) ∧ w'.cell? ⟨tb, to + n * 6, none⟩ = some (.int .i64 (J n).k) ∧ w'.cell? ⟨tb, to + n * 6 + 1, none⟩ = some (.string (J n).nm) ∧ w'.cell? ⟨tb, to + n * 6 + 2, none⟩ = some (.int .i64 (J n).con) ∧ w'.cell? ⟨tb, to + n * 6 + 3, none⟩ = some (.slice (J n).fa (J n).fl (J n).fc) ∧ w'.cell? ⟨tb, to + n * 6 + 4, none⟩ = some (.slice (J n).la (J n).ll (J n).lc) ∧ w'.cell? ⟨tb, to + n * 6 + 5, none⟩ = some (.slice (J n).ra (J n).rl (J n).rc))
          (first | exact ⟨a0, x0, x1, x2, x3, x4, x5, y0, y1, y2, y3, y4, y5⟩ | exact ⟨hk6.cellv a0, hk6.cellv x0, hk6.cellv x1, hk6.cellv x2, hk6.cellv x3, hk6.cellv x4, hk6.cellv x5, hk6.cellv y0, hk6.cellv y1, hk6.cellv y2, hk6.cellv y3, hk6.cellv y4, hk6.cellv y5⟩)
          ((first | (go_at_call 58; refine CX.out.mono ?_; rintro e w6 ⟨rfl, hk6⟩; rw [c2])))
        go_wp2_with fail
        go_roundw
        case rel => exact ⟨n + 1, by omega, by go_num, fun i hi => by
          by_cases e : i = n
          · subst e; rw [HX.out, HY.out, hxy.out]
          · exact HN.out i (by omega), ((HKR.out.trans KB.out).drew).trans hk6⟩
        case measure => simp [intOf]; omega
    · have hv2 := Lib.hid (eqB_yes (ty_eq.2 ⟨HV.out, fun i hi => HN.out i (by omega)⟩))
      have hz : ¬ ((n : Int) < (A.kids.length : Int)) := by omega
      go_wp2_with fail
      go_ret
      exact ⟨ret_bool hv2.out.symm, KWR.out⟩
theorem c_same1 (lp : Nat) : ∀ (r R R' : Nat) (A B : Ty) (h g : Hd) (w : World), w.cell? ⟨lp, 0, none⟩ = some (.func (.func 58) #[] #[.pointer (some ⟨lp, 0, none⟩)]) → Lies w A0 R A h → Lies w A0 R' B g → (look r A).2.2 = true → (look r B).2.2 = true →
    Calls Try.prog 58 #[h.val, g.val, .pointer (some ⟨lp, 0, none⟩)] w fun e w' => e = .returned (.bool (eqB A B)) ∧ Kp w w' := by
  intro r
  induction r with
  | zero => intro R R' A B h g w _ _ _ hs; rw [look_zero] at hs; cases hs
  | succ r ih =>
    intro R R' A B h g w hE hl hm hs hs'
    cases R with
    | zero => exact hl.elim
    | succ R =>
      cases R' with
      | zero => exact hm.elim
      | succ R' =>
        have f1 := few_of hs
        have f2 := few_of hs'
        obtain ⟨K, t, hh⟩ := hl
        obtain ⟨J, u, hg⟩ := hm
        have k1 := (look_parts hs).2
        have k2 := (look_parts hs').2
        cases hv : topB A B with
        | false => exact same_no lp r R R' A B h g K J w hE t u f1 f2 hv
        | true =>
          by_cases h0 : B.kids.length = 0
          · exact same_yes0 lp r R R' A B h g K J w hE t u f1 f2 hv h0
          · exact same_yes lp r R R' A B h g K J w hE t u f1 f2 hv (by omega) hh hg (fun i X Y hx hy W a b c d e => ih R R' X Y hx hy W c d e (k1 i X a) (k2 i Y b))
end Go.Proofs.Ytfjflfokmihcpaa
