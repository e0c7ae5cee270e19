/- Which values can be compared: Equals of the reference, Comparable of package types. Condition: the type lies in memory. -/
import Derived.Test.YtfjflfokmihcpaaL
import Derived.Deep.RegionHeld3
import Derived.Laws.EntriesVeiled
namespace Go.Proofs.Ytfjflfokmihcpaa
open Go.RowKit
set_option linter.unusedVariables false
set_option linter.unusedSimpArgs false
/-- Values of the type can be compared; of a struct, those of each of its fields. -/
def cmp : Nat → Ty → Bool
  | 0, _ => true
  | r + 1, T => if T.k = 9 ∨ T.k = 11 ∨ (T.k = 12 ∧ T.con = 1) then false else (T.kids.take T.fn.length).all (cmp r)
theorem cmp_no {r : Nat} {T : Ty} (h : T.k = 9 ∨ T.k = 11 ∨ (T.k = 12 ∧ T.con = 1)) : cmp (r + 1) T = false := by rw [cmp, if_pos h]
theorem cmp_all {r : Nat} {T : Ty} (h : ¬ (T.k = 9 ∨ T.k = 11 ∨ (T.k = 12 ∧ T.con = 1))) (ha : ∀ i X, i < T.fn.length → T.kids[i]? = some X → cmp r X = true) : cmp (r + 1) T = true := by
  rw [cmp, if_neg h, List.all_eq_true]
  intro X hX
  obtain ⟨i, hi, e⟩ := List.getElem_of_mem hX
  simp only [List.length_take] at hi
  refine ha i X (by omega) ?_
  rw [← e, List.getElem_take, List.getElem?_eq_getElem]
theorem cmp_one {r : Nat} {T : Ty} (h : ¬ (T.k = 9 ∨ T.k = 11 ∨ (T.k = 12 ∧ T.con = 1))) {i : Nat} {X : Ty} (hi : i < T.fn.length) (hX : T.kids[i]? = some X) (hc : cmp r X = false) : cmp (r + 1) T = false := by
  rw [cmp, if_neg h]
  refine Bool.eq_false_iff.2 fun ha => ?_
  rw [List.all_eq_true] at ha
  have : X ∈ T.kids.take T.fn.length := List.mem_of_getElem? (i := i) (by rw [List.getElem?_take_of_lt hi]; exact hX)
  rw [ha X this] at hc
  cases hc
theorem equals_no (r : Nat) (T : Ty) (h : Hd) (K : Nat → Hd) (w : World) (t : Top w A0 T h K) (hb : T.k = 9 ∨ T.k = 11 ∨ (T.k = 12 ∧ T.con = 1)) :
    Calls Try.prog 41 #[h.val] w fun e w' => e = .returned (.bool (cmp (r + 1) T)) ∧ Kp w w' := by
  have hv := Lib.hid (cmp_no (r := r) hb)
  rw [t.ek, t.ec] at hb
  clear t
  by_cases e9 : h.k = 9
  · have h1 : (h.k == 9) = true := beq_iff_eq.2 e9
    clear hb e9
    go_enter Try.func41, Try.ntmps41
    go_wp2_with fail
    go_ret
    exact ⟨ret_bool hv.out.symm, (Kp.refl w).alloc _⟩
  by_cases e11 : h.k = 11
  · have h1 : (h.k == 9) = false := beq_eq_false_iff_ne.2 e9
    have h2 : (h.k == 11) = true := beq_iff_eq.2 e11
    clear hb e9 e11
    go_enter Try.func41, Try.ntmps41
    go_wp2_with fail
    go_ret
    exact ⟨ret_bool hv.out.symm, (Kp.refl w).alloc _⟩
  · have h1 : (h.k == 9) = false := beq_eq_false_iff_ne.2 e9
    have h2 : (h.k == 11) = false := beq_eq_false_iff_ne.2 e11
    have h3 : (h.k == 12) = true := beq_iff_eq.2 (by omega)
    have h4 : (h.con == 1) = true := beq_iff_eq.2 (by omega)
    clear hb e9 e11
    go_enter Try.func41, Try.ntmps41
    go_wp2_with fail
    go_ret
    exact ⟨ret_bool hv.out.symm, (Kp.refl w).alloc _⟩
set_option maxHeartbeats 3200000 in
set_option maxRecDepth 100000 in
theorem equals_yes12 (r R : Nat) (T : Ty) (h : Hd) (K : Nat → Hd) (w : World) (t : Top w A0 T h K) (hb : ¬ (T.k = 9 ∨ T.k = 11 ∨ (T.k = 12 ∧ T.con = 1))) (q12 : h.k = 12) (hh : ∀ i X, T.kids[i]? = some X → Lies w A0 R X (K i))
    (ih : ∀ (i : Nat) (X : Ty) (hx : Hd) (W : World), T.kids[i]? = some X → Lies W A0 R X hx → Calls Try.prog 41 #[hx.val] W fun e w' => e = .returned (.bool (cmp r X)) ∧ Kp W w') :
    Calls Try.prog 41 #[h.val] w fun e w' => e = .returned (.bool (cmp (r + 1) T)) ∧ Kp w w' := by
  have HT := Lib.hid t
  have HH := Lib.hid hh
  have IH := Lib.hid ih
  have hbn := Lib.hid hb
  have hef2 := Lib.hid t.ef
  have hef := Lib.hid (fun (n : Nat) (q : n < h.fl) => (show n < T.fn.length by rw [t.ef]; exact q))
  have hfk : h.fl ≤ T.kids.length := by have := t.es; omega
  have hbf := t.bf
  rw [t.ek, t.ec] at hb
  clear t hh ih
  have h1 : (h.k == 9) = false := beq_eq_false_iff_ne.2 (by omega)
  have h2 : (h.k == 11) = false := beq_eq_false_iff_ne.2 (by omega)
  have h3 : (h.k == 12) = true := beq_iff_eq.2 q12
  have h4 : (h.con == 1) = false := beq_eq_false_iff_ne.2 (by omega)
  clear hb q12
  go_enter Try.func41, Try.ntmps41
  go_wp2_with fail
  go_loopw [3] (fun i wr => ∃ n : Nat, n ≤ h.fl ∧ i = .int .i64 n ∧ (∀ j X, j < n → T.kids[j]? = some X → cmp r X = true) ∧ Kp (w.alloc (.cells #[.int .i64 h.k, .string h.nm, .int .i64 h.con, .slice h.fa h.fl h.fc, .slice h.la h.ll h.lc, .slice h.ra h.rl h.rc] 42)) wr) (fun i _ => h.fl - (intOf i).toNat)
  case atStart => exact ⟨0, by omega, rfl, fun i _ hi => absurd hi (by omega), Kp.refl _⟩
  case round =>
    obtain ⟨n, hn, rfl, hN, hkr⟩ := hrel
    have HN := Lib.hid hN
    have HKR := Lib.hid hkr
    have KWR := Lib.hid (((Kp.refl w).alloc _).trans hkr)
    obtain ⟨p0, p1, p2, p3, p4, p5, ps⟩ := boxed (h := h) hkr
    have pl : w.heap.size < wr.heap.size := ps
    clear hN hkr
    by_cases hlt : n < h.fl
    · obtain ⟨b, o, ha, hr⟩ := HT.out.tf.at (by omega)
      have HA := Lib.hid ha
      have HR := Lib.hid (hr n hlt)
      clear ha hr
      obtain ⟨X, hX⟩ : ∃ X, T.kids[n]? = some X := ⟨_, List.getElem?_eq_getElem (by omega)⟩
      have HX := Lib.hid hX
      clear hX
      have j1 : (0 : Int) ≤ n := by omega
      have j2 : (n : Int) < h.fl := by omega
      have CX := Lib.hid (IH.out n X (K n) wr HX.out ((HH.out n X HX.out).keep KWR.out))
      cases c2 : cmp r X with
      | false =>
        have hv2 := Lib.hid (cmp_one hbn.out (hef.out n hlt) HX.out c2)
        go_wp2_with (first | ((with_reducible show wpList _ _ _ (⟨some 32, _, _, _, _, _⟩ :: _) _ _); refine wpList_index_tab (d := 32) _ _ _ rfl 52 Try.underlying40 7 rfl _ _ _ _ o (by rfl) HA.out n (by rfl) hlt ?_) | ((with_reducible show wpList _ _ _ (⟨some 34, _, _, _, _, _⟩ :: _) _ _); refine wpList_load_ty (d := 34) _ _ rfl _ Try.underlying42 w _ _ b (o + n * 7 + 1) (by rfl) rfl (by first | rfl | omega) (K n) (rangeAt_tail HR.out) KWR.out rfl ?_) | (go_at_call 41; (with_reducible refine CX.out.mono ?_); rintro e w6 ⟨rfl, hk6⟩; rw [c2]))
        go_ret
        exact ⟨ret_bool hv2.out.symm, KWR.out.trans hk6⟩
      | true =>
        go_wp2_with (first | ((with_reducible show wpList _ _ _ (⟨some 32, _, _, _, _, _⟩ :: _) _ _); refine wpList_index_tab (d := 32) _ _ _ rfl 52 Try.underlying40 7 rfl _ _ _ _ o (by rfl) HA.out n (by rfl) hlt ?_) | ((with_reducible show wpList _ _ _ (⟨some 34, _, _, _, _, _⟩ :: _) _ _); refine wpList_load_ty (d := 34) _ _ rfl _ Try.underlying42 w _ _ b (o + n * 7 + 1) (by rfl) rfl (by first | rfl | omega) (K n) (rangeAt_tail HR.out) KWR.out rfl ?_) | (go_at_call 41; (with_reducible refine CX.out.mono ?_); rintro e w6 ⟨rfl, hk6⟩; rw [c2]))
        go_roundw
        case rel => exact ⟨n + 1, by omega, by go_num, fun j Y hj hY => by
          by_cases e : j = n
          · subst e; rw [HX.out] at hY; cases hY; exact c2
          · exact HN.out j Y (by omega) hY, HKR.out.trans hk6⟩
        case measure => simp [intOf]; omega
    · have hv2 := Lib.hid (cmp_all hbn.out (fun j Y hj hY => HN.out j Y (by have := hef2.out; omega) hY))
      have hz : ¬ ((n : Int) < (h.fl : Int)) := by omega
      go_wp2_with fail
      go_ret
      exact ⟨ret_bool hv2.out.symm, KWR.out⟩
set_option maxHeartbeats 3200000 in
set_option maxRecDepth 100000 in
theorem equals_yes (r R : Nat) (T : Ty) (h : Hd) (K : Nat → Hd) (w : World) (t : Top w A0 T h K) (hb : ¬ (T.k = 9 ∨ T.k = 11 ∨ (T.k = 12 ∧ T.con = 1))) (q12 : ¬ h.k = 12) (hh : ∀ i X, T.kids[i]? = some X → Lies w A0 R X (K i))
    (ih : ∀ (i : Nat) (X : Ty) (hx : Hd) (W : World), T.kids[i]? = some X → Lies W A0 R X hx → Calls Try.prog 41 #[hx.val] W fun e w' => e = .returned (.bool (cmp r X)) ∧ Kp W w') :
    Calls Try.prog 41 #[h.val] w fun e w' => e = .returned (.bool (cmp (r + 1) T)) ∧ Kp w w' := by
  have HT := Lib.hid t
  have HH := Lib.hid hh
  have IH := Lib.hid ih
  have hbn := Lib.hid hb
  have hef2 := Lib.hid t.ef
  have hef := Lib.hid (fun (n : Nat) (q : n < h.fl) => (show n < T.fn.length by rw [t.ef]; exact q))
  have hfk : h.fl ≤ T.kids.length := by have := t.es; omega
  have hbf := t.bf
  rw [t.ek, t.ec] at hb
  clear t hh ih
  have h1 : (h.k == 9) = false := beq_eq_false_iff_ne.2 (by omega)
  have h2 : (h.k == 11) = false := beq_eq_false_iff_ne.2 (by omega)
  have h3 : (h.k == 12) = false := beq_eq_false_iff_ne.2 q12
  clear hb q12
  go_enter Try.func41, Try.ntmps41
  go_wp2_with fail
  go_loopw [3] (fun i wr => ∃ n : Nat, n ≤ h.fl ∧ i = .int .i64 n ∧ (∀ j X, j < n → T.kids[j]? = some X → cmp r X = true) ∧ Kp (w.alloc (.cells #[.int .i64 h.k, .string h.nm, .int .i64 h.con, .slice h.fa h.fl h.fc, .slice h.la h.ll h.lc, .slice h.ra h.rl h.rc] 42)) wr) (fun i _ => h.fl - (intOf i).toNat)
  case atStart => exact ⟨0, by omega, rfl, fun i _ hi => absurd hi (by omega), Kp.refl _⟩
  case round =>
    obtain ⟨n, hn, rfl, hN, hkr⟩ := hrel
    have HN := Lib.hid hN
    have HKR := Lib.hid hkr
    have KWR := Lib.hid (((Kp.refl w).alloc _).trans hkr)
    obtain ⟨p0, p1, p2, p3, p4, p5, ps⟩ := boxed (h := h) hkr
    have pl : w.heap.size < wr.heap.size := ps
    clear hN hkr
    by_cases hlt : n < h.fl
    · obtain ⟨b, o, ha, hr⟩ := HT.out.tf.at (by omega)
      have HA := Lib.hid ha
      have HR := Lib.hid (hr n hlt)
      clear ha hr
      obtain ⟨X, hX⟩ : ∃ X, T.kids[n]? = some X := ⟨_, List.getElem?_eq_getElem (by omega)⟩
      have HX := Lib.hid hX
      clear hX
      have j1 : (0 : Int) ≤ n := by omega
      have j2 : (n : Int) < h.fl := by omega
      have CX := Lib.hid (IH.out n X (K n) wr HX.out ((HH.out n X HX.out).keep KWR.out))
      cases c2 : cmp r X with
      | false =>
        have hv2 := Lib.hid (cmp_one hbn.out (hef.out n hlt) HX.out c2)
        go_wp2_with (first | ((with_reducible show wpList _ _ _ (⟨some 32, _, _, _, _, _⟩ :: _) _ _); refine wpList_index_tab (d := 32) _ _ _ rfl 52 Try.underlying40 7 rfl _ _ _ _ o (by rfl) HA.out n (by rfl) hlt ?_) | ((with_reducible show wpList _ _ _ (⟨some 34, _, _, _, _, _⟩ :: _) _ _); refine wpList_load_ty (d := 34) _ _ rfl _ Try.underlying42 w _ _ b (o + n * 7 + 1) (by rfl) rfl (by first | rfl | omega) (K n) (rangeAt_tail HR.out) KWR.out rfl ?_) | (go_at_call 41; (with_reducible refine CX.out.mono ?_); rintro e w6 ⟨rfl, hk6⟩; rw [c2]))
        go_ret
        exact ⟨ret_bool hv2.out.symm, KWR.out.trans hk6⟩
      | true =>
        go_wp2_with (first | ((with_reducible show wpList _ _ _ (⟨some 32, _, _, _, _, _⟩ :: _) _ _); refine wpList_index_tab (d := 32) _ _ _ rfl 52 Try.underlying40 7 rfl _ _ _ _ o (by rfl) HA.out n (by rfl) hlt ?_) | ((with_reducible show wpList _ _ _ (⟨some 34, _, _, _, _, _⟩ :: _) _ _); refine wpList_load_ty (d := 34) _ _ rfl _ Try.underlying42 w _ _ b (o + n * 7 + 1) (by rfl) rfl (by first | rfl | omega) (K n) (rangeAt_tail HR.out) KWR.out rfl ?_) | (go_at_call 41; (with_reducible refine CX.out.mono ?_); rintro e w6 ⟨rfl, hk6⟩; rw [c2]))
        go_roundw
        case rel => exact ⟨n + 1, by omega, by go_num, fun j Y hj hY => by
          by_cases e : j = n
          · subst e; rw [HX.out] at hY; cases hY; exact c2
          · exact HN.out j Y (by omega) hY, HKR.out.trans hk6⟩
        case measure => simp [intOf]; omega
    · have hv2 := Lib.hid (cmp_all hbn.out (fun j Y hj hY => HN.out j Y (by have := hef2.out; omega) hY))
      have hz : ¬ ((n : Int) < (h.fl : Int)) := by omega
      go_wp2_with fail
      go_ret
      exact ⟨ret_bool hv2.out.symm, KWR.out⟩
theorem c_Equals : ∀ (r R : Nat) (T : Ty) (h : Hd) (w : World), Lies w A0 R T h → (look r T).2.2 = true →
    Calls Try.prog 41 #[h.val] w fun e w' => e = .returned (.bool (cmp r T)) ∧ Kp w w' := by
  intro r
  induction r with
  | zero => intro R T h w _ hs; rw [look_zero] at hs; cases hs
  | succ r ih =>
    intro R T h w hl hs
    cases R with
    | zero => exact hl.elim
    | succ R =>
      obtain ⟨K, t, hh⟩ := hl
      have k1 := (look_parts hs).2
      by_cases hb : T.k = 9 ∨ T.k = 11 ∨ (T.k = 12 ∧ T.con = 1)
      · exact equals_no r T h K w t hb
      · have IH := fun (i : Nat) (X : Ty) (hx : Hd) (W : World) (a : T.kids[i]? = some X) (c : Lies W A0 R X hx) => ih R X hx W c (k1 i X a)
        by_cases q12 : h.k = 12
        · exact equals_yes12 r R T h K w t hb q12 hh IH
        · exact equals_yes r R T h K w t hb q12 hh IH
theorem fm_flat {h : Hd} {fn : List ByteArray} (hf : fm h fn = true) (hk : ¬ h.k = 8) : h.fl = 0 := by
  unfold fm at hf
  rw [if_neg hk] at hf
  split at hf
  · simp [bareB] at hf; omega
  · split at hf
    · simp [bareB] at hf; omega
    · split at hf
      · simp [bareB] at hf; omega
      · simp [bareB] at hf; omega
theorem ask_flat (lp r : Nat) (T : Ty) (h : Hd) (K : Nat → Hd) (w : World) (t : Top w A0 T h K) (h8 : ¬ h.k = 8) (h0 : h.fl = 0) :
    Calls Try.prog 53 #[h.val, .pointer (some ⟨lp, 0, none⟩)] w fun e w' => e = .returned (.bool (cmp (r + 1) T)) ∧ Kp w w' := by
  have ek := t.ek
  have ec := t.ec
  have ef := t.ef
  clear t
  have g8 : (h.k == 8) = false := beq_eq_false_iff_ne.2 h8
  by_cases e9 : h.k = 9
  · have hv := Lib.hid (cmp_no (r := r) (T := T) (.inl (by omega)))
    have h1 : (h.k == 9) = true := beq_iff_eq.2 e9
    clear ek ec ef e9 h8 h0
    go_enter Try.func53, Try.ntmps53
    go_wp2_with fail
    go_ret
    exact ⟨ret_bool hv.out.symm, (Kp.refl w).alloc _⟩
  have h1 : (h.k == 9) = false := beq_eq_false_iff_ne.2 e9
  by_cases e11 : h.k = 11
  · have hv := Lib.hid (cmp_no (r := r) (T := T) (.inr (.inl (by omega))))
    have h2 : (h.k == 11) = true := beq_iff_eq.2 e11
    clear ek ec ef e9 e11 h8 h0
    go_enter Try.func53, Try.ntmps53
    go_wp2_with fail
    go_ret
    exact ⟨ret_bool hv.out.symm, (Kp.refl w).alloc _⟩
  have h2 : (h.k == 11) = false := beq_eq_false_iff_ne.2 e11
  by_cases e12 : h.k = 12
  · have h3 : (h.k == 12) = true := beq_iff_eq.2 e12
    by_cases e1 : h.con = 1
    · have hv := Lib.hid (cmp_no (r := r) (T := T) (.inr (.inr (by omega))))
      have h4 : (h.con != 1) = false := by rw [e1]; rfl
      have h5 : (h.con == 1) = true := by rw [e1]; rfl
      clear ek ec ef e9 e11 e12 e1 h8 h0
      go_enter Try.func53, Try.ntmps53
      go_wp2_with fail
      go_ret
      exact ⟨ret_bool hv.out.symm, (Kp.refl w).alloc _⟩
    · have hv := Lib.hid (cmp_all (r := r) (T := T) (by omega) (fun i X hi _ => absurd hi (by omega)))
      have h4 : (h.con != 1) = true := bne_iff_ne.2 e1
      have h5 : (h.con == 1) = false := beq_eq_false_iff_ne.2 e1
      clear ek ec ef e9 e11 e12 e1 h8 h0
      go_enter Try.func53, Try.ntmps53
      go_wp2_with fail
      go_ret
      exact ⟨ret_bool hv.out.symm, (Kp.refl w).alloc _⟩
  · have hv := Lib.hid (cmp_all (r := r) (T := T) (by omega) (fun i X hi _ => absurd hi (by omega)))
    have h3 : (h.k == 12) = false := beq_eq_false_iff_ne.2 e12
    clear ek ec ef e9 e11 e12 h8 h0
    go_enter Try.func53, Try.ntmps53
    go_wp2_with fail
    go_ret
    exact ⟨ret_bool hv.out.symm, (Kp.refl w).alloc _⟩
set_option maxHeartbeats 3200000 in
set_option maxRecDepth 100000 in
theorem ask_yes (lp : Nat) (r R : Nat) (T : Ty) (h : Hd) (K : Nat → Hd) (w : World) (hE : w.cell? ⟨lp, 0, none⟩ = some (.func (.func 53) #[] #[.pointer (some ⟨lp, 0, none⟩)])) (t : Top w A0 T h K) (hb : ¬ (T.k = 9 ∨ T.k = 11 ∨ (T.k = 12 ∧ T.con = 1))) (q8 : h.k = 8) (hh : ∀ i X, T.kids[i]? = some X → Lies w A0 R X (K i))
    (ih : ∀ (i : Nat) (X : Ty) (hx : Hd) (W : World), T.kids[i]? = some X → W.cell? ⟨lp, 0, none⟩ = some (.func (.func 53) #[] #[.pointer (some ⟨lp, 0, none⟩)]) → Lies W A0 R X hx → Calls Try.prog 53 #[hx.val, .pointer (some ⟨lp, 0, none⟩)] W fun e w' => e = .returned (.bool (cmp r X)) ∧ Kp W w') :
    Calls Try.prog 53 #[h.val, .pointer (some ⟨lp, 0, none⟩)] w fun e w' => e = .returned (.bool (cmp (r + 1) T)) ∧ Kp w w' := by
  have HT := Lib.hid t
  have HH := Lib.hid hh
  have IH := Lib.hid ih
  have hbn := Lib.hid hb
  have hef2 := Lib.hid t.ef
  have hef := Lib.hid (fun (n : Nat) (q : n < h.fl) => (show n < T.fn.length by rw [t.ef]; exact q))
  have hfk : h.fl ≤ T.kids.length := by have := t.es; omega
  have hbf := t.bf
  rw [t.ek, t.ec] at hb
  clear t hh ih
  have HEE := Lib.hid hE
  have h1 : (h.k == 9) = false := beq_eq_false_iff_ne.2 (by omega)
  have h2 : (h.k == 11) = false := beq_eq_false_iff_ne.2 (by omega)
  have h3 : (h.k == 12) = false := beq_eq_false_iff_ne.2 (by omega)
  have h4 : (h.k == 8) = true := beq_iff_eq.2 q8
  clear hb q8 hE
  go_enter Try.func53, Try.ntmps53
  go_wp2_with fail
  go_loopw [21] (fun i wr => ∃ n : Nat, n ≤ h.fl ∧ i = .int .i64 n ∧ (∀ j X, j < n → T.kids[j]? = some X → cmp r X = true) ∧ Kp (w.alloc (.cells #[.int .i64 h.k, .string h.nm, .int .i64 h.con, .slice h.fa h.fl h.fc, .slice h.la h.ll h.lc, .slice h.ra h.rl h.rc] 42)) wr) (fun i _ => h.fl - (intOf i).toNat)
  case atStart => exact ⟨0, by omega, rfl, fun i _ hi => absurd hi (by omega), Kp.refl _⟩
  case round =>
    obtain ⟨n, hn, rfl, hN, hkr⟩ := hrel
    have HN := Lib.hid hN
    have HKR := Lib.hid hkr
    have KWR := Lib.hid (((Kp.refl w).alloc _).trans hkr)
    obtain ⟨p0, p1, p2, p3, p4, p5, ps⟩ := boxed (h := h) hkr
    have pl : w.heap.size < wr.heap.size := ps
    clear hN hkr
    by_cases hlt : n < h.fl
    · obtain ⟨b, o, ha, hr⟩ := HT.out.tf.at (by omega)
      have HA := Lib.hid ha
      have HR := Lib.hid (hr n hlt)
      clear ha hr
      obtain ⟨X, hX⟩ : ∃ X, T.kids[n]? = some X := ⟨_, List.getElem?_eq_getElem (by omega)⟩
      have HX := Lib.hid hX
      clear hX
      have j1 : (0 : Int) ≤ n := by omega
      have j2 : (n : Int) < h.fl := by omega
      have a0 : wr.cell? ⟨lp, 0, none⟩ = some (.func (.func 53) #[] #[.pointer (some ⟨lp, 0, none⟩)]) := KWR.out.cellv HEE.out
      have lpl : lp < wr.heap.size := lt_of_cell a0
      have CX := Lib.hid (fun (W : World) (q : Kp wr W) => IH.out n X (K n) W HX.out (q.cellv a0) ((HH.out n X HX.out).keep (KWR.out.trans q)))
      cases c2 : cmp r X with
      | false =>
        have hv2 := Lib.hid (cmp_one hbn.out (hef.out n hlt) HX.out c2)
        go_wp2_with (first | ((with_reducible show wpList _ _ _ (⟨some 23, _, _, _, _, _⟩ :: _) _ _); refine wpList_index_tab (d := 23) _ _ _ rfl 52 Try.underlying40 7 rfl _ _ _ _ o (by rfl) HA.out n (by rfl) hlt ?_) | ((with_reducible show wpList _ _ _ (⟨some 24, _, _, _, _, _⟩ :: _) _ _); refine wpList_load_fd (d := 24) _ _ rfl _ Try.underlying52 w _ _ b (o + n * 7) (by rfl) rfl (by first | rfl | omega) (fnAt T.fn n) (K n) HR.out KWR.out rfl ?_) | (go_at_call 53; (with_reducible refine (CX.out _ ((Kp.refl wr).alloc _)).mono ?_); rintro e w6 ⟨rfl, hk6⟩; rw [c2]))
        go_ret
        exact ⟨ret_bool hv2.out.symm, (KWR.out.alloc _).trans hk6⟩
      | true =>
        go_wp2_with (first | ((with_reducible show wpList _ _ _ (⟨some 23, _, _, _, _, _⟩ :: _) _ _); refine wpList_index_tab (d := 23) _ _ _ rfl 52 Try.underlying40 7 rfl _ _ _ _ o (by rfl) HA.out n (by rfl) hlt ?_) | ((with_reducible show wpList _ _ _ (⟨some 24, _, _, _, _, _⟩ :: _) _ _); refine wpList_load_fd (d := 24) _ _ rfl _ Try.underlying52 w _ _ b (o + n * 7) (by rfl) rfl (by first | rfl | omega) (fnAt T.fn n) (K n) HR.out KWR.out rfl ?_) | (go_at_call 53; (with_reducible refine (CX.out _ ((Kp.refl wr).alloc _)).mono ?_); rintro e w6 ⟨rfl, hk6⟩; rw [c2]))
        go_roundw
        case rel => exact ⟨n + 1, by omega, by go_num, fun j Y hj hY => by
          by_cases e : j = n
          · subst e; rw [HX.out] at hY; cases hY; exact c2
          · exact HN.out j Y (by omega) hY, (HKR.out.alloc _).trans hk6⟩
        case measure => simp [intOf]; omega
    · have hv2 := Lib.hid (cmp_all hbn.out (fun j Y hj hY => HN.out j Y (by have := hef2.out; omega) hY))
      have hz : ¬ ((n : Int) < (h.fl : Int)) := by omega
      go_wp2_with fail
      go_ret
      exact ⟨ret_bool hv2.out.symm, KWR.out⟩
theorem c_ask (lp : Nat) : ∀ (r R : Nat) (T : Ty) (h : Hd) (w : World), w.cell? ⟨lp, 0, none⟩ = some (.func (.func 53) #[] #[.pointer (some ⟨lp, 0, none⟩)]) → Lies w A0 R T h → (look r T).2.2 = true →
    Calls Try.prog 53 #[h.val, .pointer (some ⟨lp, 0, none⟩)] w fun e w' => e = .returned (.bool (cmp r T)) ∧ Kp w w' := by
  intro r
  induction r with
  | zero => intro R T h w _ _ hs; rw [look_zero] at hs; cases hs
  | succ r ih =>
    intro R T h w hE hl hs
    cases R with
    | zero => exact hl.elim
    | succ R =>
      obtain ⟨K, t, hh⟩ := hl
      have k1 := (look_parts hs).2
      have hf := t.fmT.trans (look_parts hs).1
      by_cases h8 : h.k = 8
      · exact ask_yes lp r R T h K w hE t (by rw [t.ek]; omega) h8 hh (fun i X hx W a b c => ih R X hx W b c (k1 i X a))
      · exact ask_flat lp r T h K w t h8 (fm_flat hf h8)
theorem c_isComparable (R : Nat) (T : Ty) (h : Hd) (w : World) (hl : Lies w A0 R T h) (hs : (look 9 T).2.2 = true) :
    Calls Try.prog 39 #[h.val] w fun e w' => e = .returned (.bool (cmp 9 T)) ∧ Kp w w' := by
  have HL := Lib.hid hl
  have HS := Lib.hid hs
  clear hl hs
  go_enter Try.func39, Try.ntmps39
  go_wp2_with (first | (go_at_call 53; refine (c_ask _ 9 R T h _ (by first | (rw [cell_of_row _ _ _ _ _ _ (heap_alloc_new _ _)]; rfl) | (simp [go_sem]; done)) (HL.out.keep (by first | exact ((Kp.refl w).alloc _) | exact (((Kp.refl w).alloc _).alloc _))) HS.out).mono ?_; rintro e w4 ⟨rfl, hk4⟩))
  go_ret
  exact ⟨rfl, by first | exact ((Kp.refl w).alloc _).trans hk4 | exact (((Kp.refl w).alloc _).alloc _).trans hk4⟩
end Go.Proofs.Ytfjflfokmihcpaa
