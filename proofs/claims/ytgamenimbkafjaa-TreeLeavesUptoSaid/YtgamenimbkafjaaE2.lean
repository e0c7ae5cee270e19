/- Size and Depth of the reference. Condition: the node lies in memory; for Depth: it is no deeper than a million millions. -/
import Derived.Test.YtgamenimbkafjaaE1
import Derived.Test.YtgamenimbkafjaaF13
namespace Go.Proofs.Ytgamenimbkafjaa
open Go.RowKit
set_option linter.unusedVariables false
set_option linter.unusedSimpArgs false

/-- How many nodes, and how deep. -/
def sizeN : Nat → Nd → Nat
  | 0, _ => 0
  | r + 1, T => 1 + (T.kids.map (sizeN r)).sum
def depthN : Nat → Nd → Nat
  | 0, _ => 0
  | r + 1, T => T.kids.foldl (fun a X => max a (depthN r X + 1)) 0
theorem flat_size : ∀ (r : Nat) (d : Int) (T : Nd), (flatN r d T).length = sizeN r T
  | 0, _, _ => rfl
  | r + 1, d, T => by
    rw [flatN, List.length_cons, sizeN, List.length_flatMap]
    have : (fun X => (flatN r (wrap64 (d + 1)) X).length) = sizeN r := funext fun X => flat_size r _ X
    rw [this]
    omega
def sumN (r : Nat) (l : List Nd) (m : Nat) : Nat := ((l.take m).map (sizeN r)).sum
theorem sumN_next {r : Nat} {l : List Nd} {m : Nat} {X : Nd} (h : l[m]? = some X) : sumN r l (m + 1) = sumN r l m + sizeN r X := by
  unfold sumN
  rw [List.take_add_one, h]
  simp
def deepN (r : Nat) (l : List Nd) (m : Nat) : Nat := (l.take m).foldl (fun a X => max a (depthN r X + 1)) 0
theorem deepN_next {r : Nat} {l : List Nd} {m : Nat} {X : Nd} (h : l[m]? = some X) : deepN r l (m + 1) = max (deepN r l m) (depthN r X + 1) := by
  unfold deepN
  rw [List.take_add_one, h, Option.toList_some, List.foldl_append]
  rfl
theorem fold_ge {f : Nd → Nat} : ∀ (l : List Nd) (a : Nat), a ≤ l.foldl (fun a X => max a (f X)) a
  | [], a => Nat.le_refl _
  | X :: l, a => Nat.le_trans (Nat.le_max_left _ _) (fold_ge l (max a (f X)))
theorem fold_mem {f : Nd → Nat} : ∀ {l : List Nd} {a : Nat} {X : Nd}, X ∈ l → f X ≤ l.foldl (fun a X => max a (f X)) a
  | Y :: l, a, X, h => by
    rcases List.mem_cons.1 h with rfl | h
    · exact Nat.le_trans (Nat.le_max_right _ _) (fold_ge l _)
    · exact fold_mem (a := max a (f Y)) h
theorem depth_kid {r : Nat} {T X : Nd} (h : X ∈ T.kids) : depthN r X + 1 ≤ depthN (r + 1) T := fold_mem (f := fun X => depthN r X + 1) h
set_option maxHeartbeats 6400000 in
set_option maxRecDepth 100000 in
theorem rSize_step (r : Nat) (T : Nd) (h : Hn) (K : Nat → Hn) (w : World) (t : Top w A0 T h K) (hh : ∀ i X, T.kids[i]? = some X → Lies w A0 r X (K i))
    (ih : ∀ (X : Nd) (h : Hn) (w : World), Lies w A0 r X h → Calls Try.prog 17 #[h.val] w fun e w' => e = .returned (.int .i64 (wrap64 (sizeN r X))) ∧ Kp w w') :
    Calls Try.prog 17 #[h.val] w fun e w' => e = .returned (.int .i64 (wrap64 (sizeN (r + 1) T))) ∧ Kp w w' := by
  have hes := t.es
  have hbl := t.bl
  have HTL := Lib.hid t.tl
  have HH := Lib.hid hh
  have IH := Lib.hid ih
  have HES := Lib.hid hes
  clear t hh ih hes
  obtain ⟨k, tx, nn, at_, la, ll, lc⟩ := h
  simp only at HTL hbl HES
  go_enter Try.func17, Try.ntmps17
  go_wp2_with fail
  go_loopw [3, 4] (fun s i wr => ∃ n : Nat, n ≤ ll ∧ i = .int .i64 n ∧ s = .int .i64 (wrap64 ((1 + sumN r T.kids n : Nat) : Int)) ∧ Kp (w.alloc (.cells #[.int .i64 k, .string tx, .int .u64 nn, .int .i64 at_, .slice la ll lc] 25)) wr) (fun _ i _ => ll - (intOf i).toNat)
  case atStart => exact ⟨0, by omega, rfl, by simp [sumN]; unfold wrap64; omega, Kp.refl _⟩
  case round =>
    obtain ⟨n, hn, rfl, rfl, hkr⟩ := hrel
    have bb := boxed (w := w) (h := ⟨k, tx, nn, at_, la, ll, lc⟩) hkr
    simp only at bb
    obtain ⟨b0, b1, b2, b3, b4, bs⟩ := bb
    have HKW : Hid (Kp w wr) := Lib.hid (((Kp.refl w).alloc _).trans hkr)
    by_cases hlt : n < ll
    · obtain ⟨b, o, ha, hr⟩ := HTL.out.at (by omega)
      have HA := Lib.hid ha
      have HR := Lib.hid (hr n hlt)
      obtain ⟨X, hX⟩ : ∃ X, T.kids[n]? = some X := ⟨_, List.getElem?_eq_getElem (by have := HES.out; omega)⟩
      have LX := Lib.hid ((HH.out n X hX).keep HKW.out)
      have hnx := Lib.hid (sumN_next (r := r) hX)
      clear ha hr hX
      go_wp2_with (first | ((with_reducible show wpList _ _ _ (⟨some 16, _, _, _, _, _⟩ :: _) _ _); refine wpList_index_tab (d := 16) _ _ _ rfl 25 Try.underlying23 5 rfl _ _ _ _ o (by rfl) HA.out n (by rfl) hlt ?_) | ((with_reducible show wpList _ _ _ (⟨some 17, _, _, _, _, _⟩ :: _) _ _); refine wpList_load_nd (d := 17) _ _ rfl _ Try.underlying25 w _ _ b (o+n*5) (by rfl) rfl (by first | rfl | omega) (K n) HR.out HKW.out rfl ?_) | (go_at_call 17; (with_reducible refine (IH.out X (K n) _ LX.out).mono ?_); rintro e w1 ⟨rfl, hk1⟩))
      go_roundw
      case rel => exact ⟨n + 1, by omega, by go_num, by rw [hnx.out]; congr 1; unfold wrap64; omega, hkr.trans hk1⟩
      case measure => simp [intOf]; omega
    · obtain rfl : ll = n := by omega
      have hv := Lib.hid (show sizeN (r + 1) T = 1 + sumN r T.kids ll from by rw [sizeN, sumN, HES.out, List.take_length])
      go_wp2_with fail
      go_ret
      exact ⟨by rw [hv.out]; rfl, HKW.out⟩
set_option maxHeartbeats 6400000 in
set_option maxRecDepth 100000 in
theorem rDepth_step (r : Nat) (T : Nd) (h : Hn) (K : Nat → Hn) (w : World) (t : Top w A0 T h K) (hh : ∀ i X, T.kids[i]? = some X → Lies w A0 r X (K i)) (hd : depthN (r + 1) T ≤ 1099511627776)
    (ih : ∀ (X : Nd) (h : Hn) (w : World), Lies w A0 r X h → depthN r X ≤ 1099511627776 → Calls Try.prog 19 #[h.val] w fun e w' => e = .returned (.int .i64 (depthN r X)) ∧ Kp w w') :
    Calls Try.prog 19 #[h.val] w fun e w' => e = .returned (.int .i64 (depthN (r + 1) T)) ∧ Kp w w' := by
  have hes := t.es
  have hbl := t.bl
  have HTL := Lib.hid t.tl
  have HH := Lib.hid hh
  have IH := Lib.hid ih
  have HES := Lib.hid hes
  clear t hh ih hes
  obtain ⟨k, tx, nn, at_, la, ll, lc⟩ := h
  simp only at HTL hbl HES
  go_enter Try.func19, Try.ntmps19
  go_wp2_with fail
  have HDD := Lib.hid (fun m (hm : m ≤ ll) => (show deepN r T.kids m ≤ 1099511627776 from Nat.le_trans (by
    have h1 : depthN (r + 1) T = deepN r T.kids T.kids.length := by rw [depthN, deepN, List.take_length]
    rw [h1]
    have hml : m ≤ T.kids.length := by have := HES.out; omega
    clear hm
    obtain ⟨c, hc⟩ := Nat.exists_eq_add_of_le hml
    unfold deepN
    rw [List.take_length]
    conv => rhs; rw [← List.take_append_drop m T.kids, List.foldl_append]
    exact fold_ge (f := fun X => depthN r X + 1) _ _) hd))
  clear hd
  go_loopw [3, 4] (fun s i wr => ∃ n : Nat, n ≤ ll ∧ i = .int .i64 n ∧ s = .int .i64 ((deepN r T.kids n : Nat) : Int) ∧ Kp (w.alloc (.cells #[.int .i64 k, .string tx, .int .u64 nn, .int .i64 at_, .slice la ll lc] 25)) wr) (fun _ i _ => ll - (intOf i).toNat)
  case atStart => exact ⟨0, by omega, rfl, by simp [deepN], Kp.refl _⟩
  case round =>
    obtain ⟨n, hn, rfl, rfl, hkr⟩ := hrel
    have bb := boxed (w := w) (h := ⟨k, tx, nn, at_, la, ll, lc⟩) hkr
    simp only at bb
    obtain ⟨b0, b1, b2, b3, b4, bs⟩ := bb
    have HKW : Hid (Kp w wr) := Lib.hid (((Kp.refl w).alloc _).trans hkr)
    by_cases hlt : n < ll
    · obtain ⟨b, o, ha, hr⟩ := HTL.out.at (by omega)
      have HA := Lib.hid ha
      have HR := Lib.hid (hr n hlt)
      obtain ⟨X, hX⟩ : ∃ X, T.kids[n]? = some X := ⟨_, List.getElem?_eq_getElem (by have := HES.out; omega)⟩
      have LX := Lib.hid ((HH.out n X hX).keep HKW.out)
      have hnx := Lib.hid (deepN_next (r := r) hX)
      have hd1 := HDD.out (n + 1) (by omega)
      have hd0 := HDD.out n (by omega)
      rw [deepN_next (r := r) hX] at hd1
      have hdx : depthN r X + 1 ≤ 1099511627776 := Nat.le_trans (Nat.le_max_right _ _) hd1
      clear ha hr hX hd1
      by_cases hc : deepN r T.kids n < depthN r X + 1
      · have e1 : decide (((deepN r T.kids n : Nat) : Int) < ((depthN r X : Nat) : Int) + 1) = true := decide_eq_true (by omega)
        have hmx := Lib.hid (show max (deepN r T.kids n) (depthN r X + 1) = depthN r X + 1 from Nat.max_eq_right (by omega))
        clear hc
        go_wp2_with (first | ((with_reducible show wpList _ _ _ (⟨some 16, _, _, _, _, _⟩ :: _) _ _); refine wpList_index_tab (d := 16) _ _ _ rfl 25 Try.underlying23 5 rfl _ _ _ _ o (by rfl) HA.out n (by rfl) hlt ?_) | ((with_reducible show wpList _ _ _ (⟨some 17, _, _, _, _, _⟩ :: _) _ _); refine wpList_load_nd (d := 17) _ _ rfl _ Try.underlying25 w _ _ b (o+n*5) (by rfl) rfl (by first | rfl | omega) (K n) HR.out HKW.out rfl ?_) | (go_at_call 19; (with_reducible refine (IH.out X (K n) _ LX.out (by omega)).mono ?_); rintro e w1 ⟨rfl, hk1⟩))
        go_roundw
        case rel => exact ⟨n + 1, by omega, by go_num, by rw [hnx.out, hmx.out]; rfl, hkr.trans hk1⟩
        case measure => simp [intOf]; omega
      · have e1 : decide (((deepN r T.kids n : Nat) : Int) < ((depthN r X : Nat) : Int) + 1) = false := decide_eq_false (by omega)
        have hmx := Lib.hid (show max (deepN r T.kids n) (depthN r X + 1) = deepN r T.kids n from Nat.max_eq_left (by omega))
        clear hc
        go_wp2_with (first | ((with_reducible show wpList _ _ _ (⟨some 16, _, _, _, _, _⟩ :: _) _ _); refine wpList_index_tab (d := 16) _ _ _ rfl 25 Try.underlying23 5 rfl _ _ _ _ o (by rfl) HA.out n (by rfl) hlt ?_) | ((with_reducible show wpList _ _ _ (⟨some 17, _, _, _, _, _⟩ :: _) _ _); refine wpList_load_nd (d := 17) _ _ rfl _ Try.underlying25 w _ _ b (o+n*5) (by rfl) rfl (by first | rfl | omega) (K n) HR.out HKW.out rfl ?_) | (go_at_call 19; (with_reducible refine (IH.out X (K n) _ LX.out (by omega)).mono ?_); rintro e w1 ⟨rfl, hk1⟩))
        go_roundw
        case rel => exact ⟨n + 1, by omega, by go_num, by rw [hnx.out, hmx.out], hkr.trans hk1⟩
        case measure => simp [intOf]; omega
    · obtain rfl : ll = n := by omega
      have hv := Lib.hid (show depthN (r + 1) T = deepN r T.kids ll from by rw [depthN, deepN, HES.out, List.take_length])
      go_wp2_with fail
      go_ret
      exact ⟨by rw [hv.out]; rfl, HKW.out⟩
theorem c_rSize : ∀ (r : Nat) (T : Nd) (h : Hn) (w : World), Lies w A0 r T h → Calls Try.prog 17 #[h.val] w fun e w' => e = .returned (.int .i64 (wrap64 (sizeN r T))) ∧ Kp w w'
  | 0, _, _, _, hl => hl.elim
  | r + 1, T, h, w, hl => by
    obtain ⟨K, t, hh⟩ := hl
    exact rSize_step r T h K w t hh (fun X h w hl => c_rSize r X h w hl)
theorem c_rDepth : ∀ (r : Nat) (T : Nd) (h : Hn) (w : World), Lies w A0 r T h → depthN r T ≤ 1099511627776 → Calls Try.prog 19 #[h.val] w fun e w' => e = .returned (.int .i64 (depthN r T)) ∧ Kp w w'
  | 0, _, _, _, hl, _ => hl.elim
  | r + 1, T, h, w, hl, hd => by
    obtain ⟨K, t, hh⟩ := hl
    exact rDepth_step r T h K w t hh hd (fun X h w hl hx => c_rDepth r X h w hl hx)
theorem foldD_ge : ∀ (l : List (Int × Nd)) (a : Int), a ≤ l.foldl (fun a y => if a < y.1 then y.1 else a) a
  | [], a => Int.le_refl _
  | y :: l, a => by
    refine Int.le_trans ?_ (foldD_ge l _)
    show a ≤ (if a < y.1 then y.1 else a)
    split <;> omega
theorem foldD_flat {f : Nd → List (Int × Nd)} {g : Nd → Int} {d : Int} : ∀ (l : List Nd) (a : Int), (∀ X ∈ l, ∀ a, (f X).foldl (fun a y => if a < y.1 then y.1 else a) a = max a (g X)) → (l.flatMap f).foldl (fun a y => if a < y.1 then y.1 else a) a = l.foldl (fun a X => max a (g X)) a
  | [], a, _ => rfl
  | X :: l, a, h => by
    rw [List.flatMap_cons, List.foldl_append, h X (by simp) a, List.foldl_cons]
    exact foldD_flat (d := d) l _ (fun Y hY => h Y (by simp [hY]))
theorem fold_shift (r : Nat) (d : Int) : ∀ (l : List Nd) (a : Nat), l.foldl (fun (a : Int) X => max a (d + 1 + (depthN r X : Int))) (d + (a : Int)) = d + ((l.foldl (fun a X => max a (depthN r X + 1)) a : Nat) : Int)
  | [], a => rfl
  | X :: l, a => by
    rw [List.foldl_cons, List.foldl_cons, ← fold_shift r d l (max a (depthN r X + 1))]
    congr 1
    omega
/-- The greatest depth that is given is how deep the node is. -/
theorem foldD_depth : ∀ (r : Nat) (w : World) (B : Sel) (h : Hn) (T : Nd) (d : Int), Lies w B r T h → 0 ≤ d → d + (depthN r T : Int) ≤ 1099511627776 → ∀ a : Int, (flatN r d T).foldl (fun a y => if a < y.1 then y.1 else a) a = max a (d + (depthN r T : Int))
  | 0, _, _, _, _, _, hl, _, _, _ => hl.elim
  | r + 1, w, B, h, T, d, hl, hd, hb, a => by
    obtain ⟨K, t, hh⟩ := hl
    have e1 : wrap64 (d + 1) = d + 1 := by unfold wrap64; omega
    rw [flatN, e1, List.foldl_cons]
    rw [foldD_flat (d := d) (g := fun X => d + 1 + (depthN r X : Int)) T.kids _ (fun X hX a => by
      obtain ⟨i, hi⟩ := List.mem_iff_getElem?.1 hX
      have hk := depth_kid (r := r) hX
      exact foldD_depth r w B (K i) X (d + 1) (hh i X hi) (by omega) (by omega) a)]
    have h1 : (if a < ((d, T) : Int × Nd).1 then ((d, T) : Int × Nd).1 else a) = max a d := by show (if a < d then d else a) = max a d; split <;> omega
    rw [h1]
    have h2 : ∀ (l : List Nd) (a b : Int), l.foldl (fun (a : Int) X => max a (d + 1 + (depthN r X : Int))) (max a b) = max a (l.foldl (fun (a : Int) X => max a (d + 1 + (depthN r X : Int))) b) := by
      intro l
      induction l with
      | nil => intro a b; rfl
      | cons X l ih =>
        intro a b
        rw [List.foldl_cons, List.foldl_cons, ← ih]
        congr 1
        omega
    rw [h2]
    have h3 := fold_shift r d T.kids 0
    rw [show d + ((0 : Nat) : Int) = d by omega] at h3
    rw [h3]
    rfl
theorem maxD_depth {r : Nat} {w : World} {B : Sel} {h : Hn} {T : Nd} (hl : Lies w B r T h) (hb : depthN r T ≤ 1099511627776) : maxD (flatN r 0 T) = (depthN r T : Int) := by
  unfold maxD
  rw [foldD_depth r w B h T 0 hl (by omega) (by omega)]
  omega
end Go.Proofs.Ytgamenimbkafjaa
