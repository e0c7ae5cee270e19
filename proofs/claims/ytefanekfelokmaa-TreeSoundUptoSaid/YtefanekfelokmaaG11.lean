/- Right of the reference. Condition: the node lies in memory. -/
import Derived.Test.YtefanekfelokmaaG10
namespace Go.Proofs.Ytefanekfelokmaa
open Go.RowKit
set_option linter.unusedVariables false
set_option linter.unusedSimpArgs false
/-- Is a node as the table has it, and no deeper than so? -/
noncomputable def rightN : Nat → Int → Nd → Bool
  | 0, _, _ => false
  | r + 1, left, T => decide (0 ≤ left) && labB T.k T.tx T.n (ksN T) && kidsB T.k T.n (ksN T) && T.kids.all (rightN r (left - 1))
set_option maxHeartbeats 6400000 in
set_option maxRecDepth 100000 in
theorem right_step (r : Nat) (T : Nd) (h : Hn) (K : Nat → Hn) (w : World) (left : Int) (t : Top w A0 T h K) (hh : ∀ i X, T.kids[i]? = some X → Lies w A0 r X (K i)) (h0 : 0 ≤ left ∧ left ≤ 64) (h1 : labB T.k T.tx T.n (ksN T) = true) (h2 : kidsB T.k T.n (ksN T) = true)
    (ih : ∀ (X : Nd) (h : Hn) (w : World), Lies w A0 r X h → Calls Try.prog 28 #[h.val, .int .i64 (left - 1)] w fun e w' => e = .returned (.bool (rightN r (left - 1) X)) ∧ Kp w w') :
    Calls Try.prog 28 #[h.val, .int .i64 left] w fun e w' => e = .returned (.bool (rightN (r + 1) left T)) ∧ Kp w w' := by
  have hes := t.es
  have hbl := t.bl
  have HTL := Lib.hid t.tl
  have HH := Lib.hid hh
  have IH := Lib.hid ih
  have HES := Lib.hid hes
  have HLA := Lib.hid (list_of t hh)
  have hek := t.ek
  have het := t.et
  have hen := t.en
  have hrt := t.rt
  rw [hek, het, hen] at h1
  rw [hek, hen] at h2
  have HV := Lib.hid (show ∀ b, T.kids.all (rightN r (left - 1)) = b → rightN (r + 1) left T = b from fun b hb => by rw [rightN, hek, het, hen, h1, h2, hb, decide_eq_true h0.1]; simp)
  have d0 : decide (left < 0) = false := decide_eq_false (by omega)
  have h13 : h.k = 13 → 0 ≤ h.n ∧ h.n ≤ 1 := fun h3 => by
    rw [h3] at h1
    have h4 : eitherB h.tx h.n = true := h1
    unfold eitherB at h4
    exact ⟨t.rn.1, (@of_decide_eq_true _ (Classical.propDecidable _) h4).2⟩
  have CL := Lib.hid (fun w' hk => c_label (ksN T) h.k h.tx h.n h.at_ h.la h.ll h.lc K w' hrt (HLA.out.keep hk))
  have CC := Lib.hid (fun w' hk => c_children (ksN T) h.k h.tx h.n h.at_ h.la h.ll h.lc K w' (HLA.out.keep hk) h13)
  clear t hh ih hes hek het hen hrt h13
  obtain ⟨k, tx, nn, at_, la, ll, lc⟩ := h
  simp only at HTL hbl HES HLA h1 h2 CL CC
  go_enter Try.func28, Try.ntmps28
  go_wp2_with (first | (go_at_call 38; (with_reducible refine (CL.out _ (by (repeat (first | with_reducible exact Kp.refl _ | with_reducible refine Kp.alloc ?_ _ | with_reducible refine Kp.drew ?_ | with_reducible refine Kp.back (by assumption) ?_)))).mono ?_); rintro e w1 ⟨rfl, hk1⟩; rw [h1]; have bb := boxed (w := w) (h := ⟨k, tx, nn, at_, la, ll, lc⟩) (show Kp _ w1 by (repeat (first | with_reducible exact Kp.refl _ | with_reducible refine Kp.alloc ?_ _ | with_reducible refine Kp.drew ?_ | with_reducible refine Kp.back (by assumption) ?_))); simp only at bb; obtain ⟨b0, b1, b2, b3, b4, bs⟩ := bb) | (go_at_call 39; (with_reducible refine (CC.out _ (by (repeat (first | with_reducible exact Kp.refl _ | with_reducible refine Kp.alloc ?_ _ | with_reducible refine Kp.drew ?_ | with_reducible refine Kp.back (by assumption) ?_)))).mono ?_); rintro e w2 ⟨rfl, hk2⟩; rw [h2]; have bb := boxed (w := w) (h := ⟨k, tx, nn, at_, la, ll, lc⟩) (show Kp _ w2 by (repeat (first | with_reducible exact Kp.refl _ | with_reducible refine Kp.alloc ?_ _ | with_reducible refine Kp.drew ?_ | with_reducible refine Kp.back (by assumption) ?_))); simp only at bb; obtain ⟨b0, b1, b2, b3, b4, bs⟩ := bb))
  have hkw2 : Kp (w.alloc (.cells #[.int .i64 k, .string tx, .int .u64 nn, .int .i64 at_, .slice la ll lc] 25)) w2 := by (repeat (first | with_reducible exact Kp.refl _ | with_reducible refine Kp.alloc ?_ _ | with_reducible refine Kp.drew ?_ | with_reducible refine Kp.back (by assumption) ?_))
  go_loopw [5] (fun i wr => ∃ m : Nat, m ≤ ll ∧ i = .int .i64 m ∧ Hid (∀ (i : Nat) (X : Nd), i < m → T.kids[i]? = some X → rightN r (left - 1) X = true) ∧ Kp (w.alloc (.cells #[.int .i64 k, .string tx, .int .u64 nn, .int .i64 at_, .slice la ll lc] 25)) wr) (fun i _ => ll - (intOf i).toNat)
  case atStart => exact ⟨0, by omega, rfl, Lib.hid (fun i _ hi => absurd hi (by omega)), hkw2⟩
  case round =>
    obtain ⟨m, hm, rfl, HN, hkr⟩ := hrel
    clear b0 b1 b2 b3 b4 bs
    have bb := boxed (w := w) (h := ⟨k, tx, nn, at_, la, ll, lc⟩) hkr
    simp only at bb
    obtain ⟨b0, b1, b2, b3, b4, bs⟩ := bb
    have HKW : Hid (Kp w wr) := Lib.hid (((Kp.refl w).alloc _).trans hkr)
    by_cases hlt : m < ll
    · obtain ⟨b, o, ha, hr⟩ := HTL.out.at (by omega)
      have HA := Lib.hid ha
      have HR := Lib.hid (hr m hlt)
      obtain ⟨X, hX⟩ : ∃ X, T.kids[m]? = some X := ⟨_, List.getElem?_eq_getElem (by have := HES.out; omega)⟩
      have LX := Lib.hid ((HH.out m X hX).keep HKW.out)
      have HXX := Lib.hid hX
      have hw := Lib.hid (show wrap64 (left - 1) = left - 1 from by unfold wrap64; omega)
      clear ha hr hX
      cases hq : rightN r (left - 1) X with
      | true =>
        go_wp2_with (first | ((with_reducible show wpList _ _ _ (⟨some 28, _, _, _, _, _⟩ :: _) _ _); refine wpList_index_tab (d := 28) _ _ _ rfl 25 Try.underlying23 5 rfl _ _ _ _ o (by rfl) HA.out m (by rfl) hlt ?_) | ((with_reducible show wpList _ _ _ (⟨some 29, _, _, _, _, _⟩ :: _) _ _); refine wpList_load_nd (d := 29) _ _ rfl _ Try.underlying25 w _ _ b (o+m*5) (by rfl) rfl (by first | rfl | omega) (K m) HR.out HKW.out rfl ?_) | (go_at_call 28; (with_reducible refine (IH.out X (K m) _ LX.out).mono ?_); rintro e w3 ⟨rfl, hk3⟩; rw [hq]))
        go_roundw
        case rel => exact ⟨m + 1, by omega, by go_num, Lib.hid (fun i X' hi hX' => by
          by_cases e : i = m
          · subst e
            obtain rfl := Option.some.inj (hX'.symm.trans HXX.out)
            exact hq
          · exact HN.out i X' (by omega) hX'), hkr.trans hk3⟩
        case measure => simp [intOf]; omega
      | false =>
        have hv := Lib.hid (HV.out false (List.all_eq_false.2 ⟨X, List.mem_of_getElem? HXX.out, by rw [hq]; decide⟩))
        go_wp2_with (first | ((with_reducible show wpList _ _ _ (⟨some 28, _, _, _, _, _⟩ :: _) _ _); refine wpList_index_tab (d := 28) _ _ _ rfl 25 Try.underlying23 5 rfl _ _ _ _ o (by rfl) HA.out m (by rfl) hlt ?_) | ((with_reducible show wpList _ _ _ (⟨some 29, _, _, _, _, _⟩ :: _) _ _); refine wpList_load_nd (d := 29) _ _ rfl _ Try.underlying25 w _ _ b (o+m*5) (by rfl) rfl (by first | rfl | omega) (K m) HR.out HKW.out rfl ?_) | (go_at_call 28; (with_reducible refine (IH.out X (K m) _ LX.out).mono ?_); rintro e w3 ⟨rfl, hk3⟩; rw [hq]))
        go_ret
        exact ⟨ret_boolA hv.out.symm, HKW.out.trans hk3⟩
    · obtain rfl : ll = m := by omega
      have hv := Lib.hid (HV.out true (List.all_eq_true.2 fun X hX => by
        obtain ⟨i, hi⟩ := List.mem_iff_getElem?.1 hX
        exact HN.out i X (by have := (List.getElem?_eq_some_iff.1 hi).1; have := HES.out; omega) hi))
      go_wp2_with fail
      go_ret
      exact ⟨ret_boolA hv.out.symm, HKW.out⟩
set_option maxHeartbeats 6400000 in
set_option maxRecDepth 100000 in
theorem right_no (r : Nat) (T : Nd) (h : Hn) (K : Nat → Hn) (w : World) (left : Int) (t : Top w A0 T h K) (hh : ∀ i X, T.kids[i]? = some X → Lies w A0 r X (K i)) (h0 : left ≤ 64) (h1 : left < 0 ∨ (0 ≤ left ∧ (labB T.k T.tx T.n (ksN T) = false ∨ (labB T.k T.tx T.n (ksN T) = true ∧ kidsB T.k T.n (ksN T) = false)))) :
    Calls Try.prog 28 #[h.val, .int .i64 left] w fun e w' => e = .returned (.bool (rightN (r + 1) left T)) ∧ Kp w w' := by
  have HLA := Lib.hid (list_of t hh)
  have hek := t.ek
  have het := t.et
  have hen := t.en
  have hrt := t.rt
  have hrn := t.rn
  rw [hek, het, hen] at h1
  have hF : rightN (r + 1) left T = false := by
    rw [rightN, hek, het, hen]
    rcases h1 with h1 | ⟨_, h1 | ⟨_, h1⟩⟩
    · rw [decide_eq_false (show ¬ (0 ≤ left) by omega)]; simp
    · rw [h1]; simp
    · rw [h1]; simp
  have HV := Lib.hid hF
  have CL := Lib.hid (fun w' hk => c_label (ksN T) h.k h.tx h.n h.at_ h.la h.ll h.lc K w' hrt (HLA.out.keep hk))
  have CC := Lib.hid (fun w' hk h13 => c_children (ksN T) h.k h.tx h.n h.at_ h.la h.ll h.lc K w' (HLA.out.keep hk) h13)
  clear t hh hek het hen hrt hF
  obtain ⟨k, tx, nn, at_, la, ll, lc⟩ := h
  simp only at HLA h1 CL CC hrn
  rcases h1 with h1 | ⟨h2, h1 | ⟨h3, h1⟩⟩
  · have d0 : decide (left < 0) = true := decide_eq_true h1
    go_enter Try.func28, Try.ntmps28
    go_wp2_with fail
    go_ret
    exact ⟨ret_boolA HV.out.symm, (Kp.refl w).alloc _⟩
  · have d0 : decide (left < 0) = false := decide_eq_false (by omega)
    go_enter Try.func28, Try.ntmps28
    go_wp2_with (first | (go_at_call 38; (with_reducible refine (CL.out _ (by (repeat (first | with_reducible exact Kp.refl _ | with_reducible refine Kp.alloc ?_ _ | with_reducible refine Kp.drew ?_ | with_reducible refine Kp.back (by assumption) ?_)))).mono ?_); rintro e w1 ⟨rfl, hk1⟩; rw [h1]))
    go_ret
    exact ⟨ret_boolA HV.out.symm, by (repeat (first | with_reducible exact Kp.refl _ | with_reducible refine Kp.alloc ?_ _ | with_reducible refine Kp.drew ?_ | with_reducible refine Kp.back (by assumption) ?_))⟩
  · have d0 : decide (left < 0) = false := decide_eq_false (by omega)
    have h13 : k = 13 → 0 ≤ nn ∧ nn ≤ 1 := fun h5 => by
      rw [h5] at h3
      have h4 : eitherB tx nn = true := h3
      unfold eitherB at h4
      exact ⟨hrn.1, (@of_decide_eq_true _ (Classical.propDecidable _) h4).2⟩
    have C2 := Lib.hid (fun w' hk => CC.out w' hk h13)
    clear h13
    go_enter Try.func28, Try.ntmps28
    go_wp2_with (first | (go_at_call 38; (with_reducible refine (CL.out _ (by (repeat (first | with_reducible exact Kp.refl _ | with_reducible refine Kp.alloc ?_ _ | with_reducible refine Kp.drew ?_ | with_reducible refine Kp.back (by assumption) ?_)))).mono ?_); rintro e w1 ⟨rfl, hk1⟩; rw [h3]; have bb := boxed (w := w) (h := ⟨k, tx, nn, at_, la, ll, lc⟩) (show Kp _ w1 by (repeat (first | with_reducible exact Kp.refl _ | with_reducible refine Kp.alloc ?_ _ | with_reducible refine Kp.drew ?_ | with_reducible refine Kp.back (by assumption) ?_))); simp only at bb; obtain ⟨b0, b1, b2, b3, b4, bs⟩ := bb) | (go_at_call 39; (with_reducible refine (C2.out _ (by (repeat (first | with_reducible exact Kp.refl _ | with_reducible refine Kp.alloc ?_ _ | with_reducible refine Kp.drew ?_ | with_reducible refine Kp.back (by assumption) ?_)))).mono ?_); rintro e w2 ⟨rfl, hk2⟩; rw [h1]))
    go_ret
    exact ⟨ret_boolA HV.out.symm, by (repeat (first | with_reducible exact Kp.refl _ | with_reducible refine Kp.alloc ?_ _ | with_reducible refine Kp.drew ?_ | with_reducible refine Kp.back (by assumption) ?_))⟩
theorem c_Right : ∀ (r : Nat) (T : Nd) (h : Hn) (w : World) (left : Int), Lies w A0 r T h → left ≤ 64 → -1 ≤ left → Calls Try.prog 28 #[h.val, .int .i64 left] w fun e w' => e = .returned (.bool (rightN r left T)) ∧ Kp w w'
  | 0, _, _, _, _, hl, _, _ => hl.elim
  | r + 1, T, h, w, left, hl, hle, hge => by
    obtain ⟨K, t, hh⟩ := hl
    by_cases h0 : left < 0
    · exact right_no r T h K w left t hh hle (.inl h0)
    · cases h1 : labB T.k T.tx T.n (ksN T) with
      | false => exact right_no r T h K w left t hh hle (.inr ⟨by omega, .inl h1⟩)
      | true =>
        cases h2 : kidsB T.k T.n (ksN T) with
        | false => exact right_no r T h K w left t hh hle (.inr ⟨by omega, .inr ⟨h1, h2⟩⟩)
        | true => exact right_step r T h K w left t hh ⟨by omega, hle⟩ h1 h2 (fun X h w hl => c_Right r X h w (left - 1) hl (by omega) (by omega))
end Go.Proofs.Ytefanekfelokmaa
