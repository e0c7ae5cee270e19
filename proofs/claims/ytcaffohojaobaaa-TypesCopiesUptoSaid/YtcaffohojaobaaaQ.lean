/- The text of a sound type, by the reference. Condition: the type lies in memory, and is sound. -/
import Derived.Test.YtcaffohojaobaaaL
import Derived.Deep.RegionHeld3
import Derived.Laws.EntriesVeiled
namespace Go.Proofs.Ytcaffohojaobaaa
open Go.RowKit
set_option linter.unusedVariables false
set_option linter.unusedSimpArgs false
theorem catB (a b : List UInt8) : (⟨a.toArray⟩ : ByteArray) ++ ⟨b.toArray⟩ = ⟨(a ++ b).toArray⟩ := by
  apply ByteArray.ext
  simp
theorem rTold_8 (r : Nat) (T : Ty) (h : Hd) (K : Nat → Hd) (w : World) (t : Top w A0 T h K) (hk : h.k = 8 ∨ h.k = 12) :
    Calls Try.prog 19 #[h.val] w fun e w' => e = .returned (.string ⟨(told (r + 1) T).toArray⟩) ∧ Kp w w' := by
  have hv := Lib.hid (show (⟨(told (r + 1) T).toArray⟩ : ByteArray) = h.nm by rw [told, if_pos (by rw [t.ek]; exact hk), t.en])
  clear t
  by_cases h8 : h.k = 8
  · have h1 : (h.k == 8) = true := beq_iff_eq.2 h8
    clear hk h8
    go_enter Try.func19, Try.ntmps19
    go_wp2_with fail
    go_ret
    exact ⟨by rw [hv.out]; rfl, ((Kp.refl w).alloc _).alloc _⟩
  · have h1 : (h.k == 8) = false := beq_eq_false_iff_ne.2 h8
    have h2 : (h.k == 12) = true := beq_iff_eq.2 (by omega)
    clear hk h8
    go_enter Try.func19, Try.ntmps19
    go_wp2_with fail
    go_ret
    exact ⟨by rw [hv.out]; rfl, ((Kp.refl w).alloc _).alloc _⟩
theorem rTold_w (r : Nat) (T : Ty) (h : Hd) (K : Nat → Hd) (w : World) (t : Top w A0 T h K) (hk : 1 ≤ h.k ∧ h.k ≤ 7) :
    Calls Try.prog 19 #[h.val] w fun e w' => e = .returned (.string ⟨(told (r + 1) T).toArray⟩) ∧ Kp w w' := by
  have hv : told (r + 1) T = wordL h.k := by rw [told, if_neg (by rw [t.ek]; omega), if_neg (by rw [t.ek]; omega), if_neg (by rw [t.ek]; omega), if_neg (by rw [t.ek]; omega), t.ek]
  clear t
  rw [hv]
  clear hv
  obtain ⟨k, nm, con, fa, fl, fc, la, ll, lc, ra, rl, rc⟩ := h
  simp only at hk
  have hc : k = 1 ∨ k = 2 ∨ k = 3 ∨ k = 4 ∨ k = 5 ∨ k = 6 ∨ k = 7 := by omega
  clear hk
  rcases hc with rfl | rfl | rfl | rfl | rfl | rfl | rfl
  · go_enter Try.func19, Try.ntmps19
    go_wp2_with fail
    go_ret
    exact ⟨rfl, ((Kp.refl w).alloc _).alloc _⟩
  · go_enter Try.func19, Try.ntmps19
    go_wp2_with fail
    go_ret
    exact ⟨rfl, ((Kp.refl w).alloc _).alloc _⟩
  · go_enter Try.func19, Try.ntmps19
    go_wp2_with fail
    go_ret
    exact ⟨rfl, ((Kp.refl w).alloc _).alloc _⟩
  · go_enter Try.func19, Try.ntmps19
    go_wp2_with fail
    go_ret
    exact ⟨rfl, ((Kp.refl w).alloc _).alloc _⟩
  · go_enter Try.func19, Try.ntmps19
    go_wp2_with fail
    go_ret
    exact ⟨rfl, ((Kp.refl w).alloc _).alloc _⟩
  · go_enter Try.func19, Try.ntmps19
    go_wp2_with fail
    go_ret
    exact ⟨rfl, ((Kp.refl w).alloc _).alloc _⟩
  · go_enter Try.func19, Try.ntmps19
    go_wp2_with fail
    go_ret
    exact ⟨rfl, ((Kp.refl w).alloc _).alloc _⟩
set_option maxHeartbeats 1600000 in
set_option maxRecDepth 100000 in
theorem rTold_9 (r R : Nat) (T : Ty) (h : Hd) (K : Nat → Hd) (w : World) (t : Top w A0 T h K) (hk : h.k = 9) (hf : h.fl = 0 ∧ h.ll = 1 ∧ h.rl = 0) (hh : ∀ i X, T.kids[i]? = some X → Lies w A0 R X (K i)) (hs : ∀ (i : Nat) (X : Ty), T.kids[i]? = some X → (look r X).2.2 = true) (hlb : ∀ X, (look r X).2.2 = true → (told r X).length ≤ 140737488355328)
    (ih : ∀ (X : Ty) (hx : Hd) (W : World), Lies W A0 R X hx → (look r X).2.2 = true → Calls Try.prog 19 #[hx.val] W fun e w' => e = .returned (.string ⟨(told r X).toArray⟩) ∧ Kp W w') :
    Calls Try.prog 19 #[h.val] w fun e w' => e = .returned (.string ⟨(told (r + 1) T).toArray⟩) ∧ Kp w w' := by
  have hes := t.es
  obtain ⟨X, hX⟩ : ∃ X, T.kids[0]? = some X := ⟨_, List.getElem?_eq_getElem (by omega)⟩
  have hv := Lib.hid (show told (r + 1) T = [91, 93] ++ told r X by rw [told, if_neg (by rw [t.ek]; omega), if_pos (by rw [t.ek]; exact hk), hX])
  have hlen := hlb X (hs 0 X hX)
  obtain ⟨tb, to, ha, hr⟩ := t.tl.at (by omega)
  have hr0 := hr 0 (by omega)
  have IH := Lib.hid (fun W (q : Kp w W) => ih X (K 0) W ((hh 0 X hX).keep q) (hs 0 X hX))
  obtain ⟨k, nm, con, fa, fl, fc, la, ll, lc, ra, rl, rc⟩ := h
  obtain ⟨hf0, hf1, hf2⟩ := hf
  simp only at hk ha hr0 hf0 hf1 hf2
  subst hk
  subst ha
  subst hf0
  subst hf1
  subst hf2
  simp only [Nat.zero_mul, Nat.add_zero, Nat.zero_add] at hr0
  have g0 : w.cell? ⟨tb, to, none⟩ = some (.int .i64 (K 0).k) := by simpa using hr0 0 _ rfl
  have g1 : w.cell? ⟨tb, to + 1, none⟩ = some (.string (K 0).nm) := hr0 1 _ rfl
  have g2 : w.cell? ⟨tb, to + 2, none⟩ = some (.int .i64 (K 0).con) := hr0 2 _ rfl
  have g3 : w.cell? ⟨tb, to + 3, none⟩ = some (.slice (K 0).fa (K 0).fl (K 0).fc) := hr0 3 _ rfl
  have g4 : w.cell? ⟨tb, to + 4, none⟩ = some (.slice (K 0).la (K 0).ll (K 0).lc) := hr0 4 _ rfl
  have g5 : w.cell? ⟨tb, to + 5, none⟩ = some (.slice (K 0).ra (K 0).rl (K 0).rc) := hr0 5 _ rfl
  have gl : tb < w.heap.size := lt_of_cell g0
  have hcc : ¬ (9223372036854775807 < 2 + (told r X).length) := by omega
  clear t hr hr0 hh hs hlb ih hes hlen
  go_enter Try.func19, Try.ntmps19
  go_wp2_with (first | (go_at_call 19; (with_reducible refine (IH.out _ (((Kp.refl w).alloc _).alloc _)).mono ?_); rintro e w3 ⟨rfl, hk3⟩))
  go_ret
  exact ⟨congrArg (fun x => Ending.returned (Value.string x)) (show (⟨#[91, 93]⟩ : ByteArray) ++ ⟨(told r X).toArray⟩ = ⟨(told (r + 1) T).toArray⟩ by rw [hv.out]; exact catB [91, 93] _), (((Kp.refl w).alloc _).alloc _).trans hk3⟩
set_option maxHeartbeats 1600000 in
set_option maxRecDepth 100000 in
theorem rTold_10 (r R : Nat) (T : Ty) (h : Hd) (K : Nat → Hd) (w : World) (t : Top w A0 T h K) (hk : h.k = 10) (hf : h.fl = 0 ∧ h.ll = 1 ∧ h.rl = 0) (hh : ∀ i X, T.kids[i]? = some X → Lies w A0 R X (K i)) (hs : ∀ (i : Nat) (X : Ty), T.kids[i]? = some X → (look r X).2.2 = true) (hlb : ∀ X, (look r X).2.2 = true → (told r X).length ≤ 140737488355328)
    (ih : ∀ (X : Ty) (hx : Hd) (W : World), Lies W A0 R X hx → (look r X).2.2 = true → Calls Try.prog 19 #[hx.val] W fun e w' => e = .returned (.string ⟨(told r X).toArray⟩) ∧ Kp W w') :
    Calls Try.prog 19 #[h.val] w fun e w' => e = .returned (.string ⟨(told (r + 1) T).toArray⟩) ∧ Kp w w' := by
  have hes := t.es
  obtain ⟨X, hX⟩ : ∃ X, T.kids[0]? = some X := ⟨_, List.getElem?_eq_getElem (by omega)⟩
  have hv := Lib.hid (show told (r + 1) T = [99, 104, 97, 110, 32] ++ told r X by rw [told, if_neg (by rw [t.ek]; omega), if_neg (by rw [t.ek]; omega), if_pos (by rw [t.ek]; exact hk), hX])
  have hlen := hlb X (hs 0 X hX)
  obtain ⟨tb, to, ha, hr⟩ := t.tl.at (by omega)
  have hr0 := hr 0 (by omega)
  have IH := Lib.hid (fun W (q : Kp w W) => ih X (K 0) W ((hh 0 X hX).keep q) (hs 0 X hX))
  obtain ⟨k, nm, con, fa, fl, fc, la, ll, lc, ra, rl, rc⟩ := h
  obtain ⟨hf0, hf1, hf2⟩ := hf
  simp only at hk ha hr0 hf0 hf1 hf2
  subst hk
  subst ha
  subst hf0
  subst hf1
  subst hf2
  simp only [Nat.zero_mul, Nat.add_zero, Nat.zero_add] at hr0
  have g0 : w.cell? ⟨tb, to, none⟩ = some (.int .i64 (K 0).k) := by simpa using hr0 0 _ rfl
  have g1 : w.cell? ⟨tb, to + 1, none⟩ = some (.string (K 0).nm) := hr0 1 _ rfl
  have g2 : w.cell? ⟨tb, to + 2, none⟩ = some (.int .i64 (K 0).con) := hr0 2 _ rfl
  have g3 : w.cell? ⟨tb, to + 3, none⟩ = some (.slice (K 0).fa (K 0).fl (K 0).fc) := hr0 3 _ rfl
  have g4 : w.cell? ⟨tb, to + 4, none⟩ = some (.slice (K 0).la (K 0).ll (K 0).lc) := hr0 4 _ rfl
  have g5 : w.cell? ⟨tb, to + 5, none⟩ = some (.slice (K 0).ra (K 0).rl (K 0).rc) := hr0 5 _ rfl
  have gl : tb < w.heap.size := lt_of_cell g0
  have hcc : ¬ (9223372036854775807 < 5 + (told r X).length) := by omega
  clear t hr hr0 hh hs hlb ih hes hlen
  go_enter Try.func19, Try.ntmps19
  go_wp2_with (first | (go_at_call 19; (with_reducible refine (IH.out _ (((Kp.refl w).alloc _).alloc _)).mono ?_); rintro e w3 ⟨rfl, hk3⟩))
  go_ret
  exact ⟨congrArg (fun x => Ending.returned (Value.string x)) (show (⟨#[99, 104, 97, 110, 32]⟩ : ByteArray) ++ ⟨(told r X).toArray⟩ = ⟨(told (r + 1) T).toArray⟩ by rw [hv.out]; exact catB [99, 104, 97, 110, 32] _), (((Kp.refl w).alloc _).alloc _).trans hk3⟩
theorem rListL_nx {f : Ty → List UInt8} {l : List Ty} {n : Nat} {X : Ty} (hX : l[n]? = some X) : listL f l (n + 1) = listL f l n ++ (if 0 < n then [44, 32] else []) ++ f X := by rw [listL, hX]
theorem rResL_nx {f : Ty → List UInt8} {l : List Ty} {n : Nat} {X : Ty} (hX : l[n]? = some X) : resL f l (n + 1) = resL f l n ++ [32] ++ f X := by rw [resL, hX]
set_option maxHeartbeats 3200000 in
set_option maxRecDepth 100000 in
theorem rTold_11 (r R : Nat) (T : Ty) (h : Hd) (K : Nat → Hd) (w : World) (t : Top w A0 T h K) (hk : h.k = 11) (hf : h.fl = 0 ∧ h.ll ≤ 16 ∧ h.rl ≤ 1) (hh : ∀ i X, T.kids[i]? = some X → Lies w A0 R X (K i)) (hs : ∀ (i : Nat) (X : Ty), T.kids[i]? = some X → (look r X).2.2 = true) (hL : LB r ≤ 140737488355328)
    (ih : ∀ (X : Ty) (hx : Hd) (W : World), Lies W A0 R X hx → (look r X).2.2 = true → Calls Try.prog 19 #[hx.val] W fun e w' => e = .returned (.string ⟨(told r X).toArray⟩) ∧ Kp W w') :
    Calls Try.prog 19 #[h.val] w fun e w' => e = .returned (.string ⟨(told (r + 1) T).toArray⟩) ∧ Kp w w' := by
  have hv := Lib.hid (show told (r + 1) T = [102, 117, 110, 99, 40] ++ listL (told r) T.kids T.nl ++ [41] ++ resL (told r) (T.kids.drop T.nl) (T.kids.length - T.nl) by rw [told, if_neg (by rw [t.ek]; omega), if_neg (by rw [t.ek]; omega), if_neg (by rw [t.ek]; omega), if_pos (by rw [t.ek]; exact hk)])
  have HT := Lib.hid t
  have hes := t.es
  have hel := t.el
  have HB1 := Lib.hid (show ∀ n, (listL (told r) T.kids n).length ≤ n * (LB r + 2) from fun n => listL_len (fun X hX => by
    obtain ⟨i, hi, e⟩ := List.getElem_of_mem hX
    exact told_len (hs i X (by rw [List.getElem?_eq_getElem hi, e]))) n)
  have HB2 := Lib.hid (show ∀ i X, T.kids[i]? = some X → (told r X).length ≤ LB r from fun i X hX => told_len (hs i X hX))
  have IH := Lib.hid (fun i X (hX : T.kids[i]? = some X) W (q : Kp w W) => ih X (K i) W ((hh i X hX).keep q) (hs i X hX))
  generalize hq : LB r = q at hL HB1 HB2
  clear t hh hs ih hq
  obtain ⟨k, nm, con, fa, fl, fc, la, ll, lc, ra, rl, rc⟩ := h
  obtain ⟨hf0, hf1, hf2⟩ := hf
  simp only at hk hes hel hf0 hf1 hf2
  subst hk
  subst hf0
  have HES := Lib.hid hes
  have HEL := Lib.hid hel
  clear hes hel
  go_enter Try.func19, Try.ntmps19
  go_wp2_with fail
  go_loopw [4, 5] (fun s i wr => ∃ (n : Nat) (u : List UInt8), n ≤ ll ∧ i = .int .i64 n ∧ s = .string ⟨u.toArray⟩ ∧ u = [102, 117, 110, 99, 40] ++ listL (told r) T.kids n ∧ Kp (w.alloc (.cells #[.int .i64 11, .string nm, .int .i64 con, .slice fa 0 fc, .slice la ll lc, .slice ra rl rc] 25)) wr) (fun _ i _ => ll - (intOf i).toNat)
  case atStart => exact ⟨0, [102, 117, 110, 99, 40], by omega, rfl, rfl, by simp [listL], (Kp.refl _).alloc _⟩
  case round =>
    obtain ⟨n, u, hnl, rfl, rfl, hu, hkr⟩ := hrel
    have HU := Lib.hid hu
    have HKR := Lib.hid hkr
    have KWR := Lib.hid (((Kp.refl w).alloc _).trans hkr)
    obtain ⟨_, _, _, _, q4, q5, qz⟩ := boxed (h := ⟨11, nm, con, fa, 0, fc, la, ll, lc, ra, rl, rc⟩) hkr
    have pl : w.heap.size < wr.heap.size := qz
    simp only at q4 q5
    have hul : u.length ≤ 5 + 16 * (q + 2) := by
      have e1 := HB1.out n
      have e2 : n * (q + 2) ≤ 16 * (q + 2) := Nat.mul_le_mul_right _ (by omega)
      rw [hu]
      simp only [List.length_append, List.length_cons, List.length_nil]
      omega
    clear hu hkr
    by_cases hlt : n < ll
    · obtain ⟨tb, to, ha, hr⟩ := HT.out.tl.at (by show 0 < ll; omega)
      have HA := Lib.hid ha
      have HR := Lib.hid (hr n hlt)
      clear ha hr
      simp only [Nat.zero_add] at HR
      obtain ⟨X, hX⟩ : ∃ X, T.kids[n]? = some X := ⟨_, List.getElem?_eq_getElem (by have := HES.out; omega)⟩
      have HX := Lib.hid hX
      have hxl := HB2.out n X hX
      clear hX
      have j1 : (0 : Int) ≤ n := by omega
      have j2 : (n : Int) < ll := by omega
      have c0 : ¬ (9223372036854775807 < u.length + (told r X).length) := by omega
      have c1 : ¬ (9223372036854775807 < u.length + 2) := by omega
      have c2 : ¬ (9223372036854775807 < u.length + 2 + (told r X).length) := by omega
      have CX := Lib.hid (IH.out n X HX.out wr KWR.out)
      by_cases hn0 : 0 < n
      · have i0 : (0 : Int) < n := by omega
        go_wp2_with (first | ((with_reducible show wpList _ _ _ (⟨some 47, _, _, _, _, _⟩ :: _) _ _); refine wpList_index_tab (d := 47) _ _ _ rfl 25 Try.underlying23 6 rfl _ _ _ _ to (by rfl) HA.out n (by rfl) hlt ?_) | ((with_reducible show wpList _ _ _ (⟨some 48, _, _, _, _, _⟩ :: _) _ _); refine wpList_load_ty (d := 48) _ _ rfl _ Try.underlying25 w _ _ tb (to + n * 6) (by rfl) rfl (by first | rfl | omega) (K n) HR.out KWR.out rfl ?_) | (go_at_call 19; (with_reducible refine CX.out.mono ?_); rintro e w6 ⟨rfl, hk6⟩))
        go_roundw
        case rel => exact ⟨n + 1, u ++ [44, 32] ++ told r X, by omega, by go_num, congrArg Value.string (show (⟨u.toArray⟩ : ByteArray) ++ ⟨#[44, 32]⟩ ++ ⟨(told r X).toArray⟩ = ⟨(u ++ [44, 32] ++ told r X).toArray⟩ by rw [← catB, ← catB]), by rw [rListL_nx HX.out, if_pos hn0, HU.out]; simp, HKR.out.trans hk6⟩
        case measure => simp [intOf]; omega
      · obtain rfl : n = 0 := by omega
        go_wp2_with (first | ((with_reducible show wpList _ _ _ (⟨some 47, _, _, _, _, _⟩ :: _) _ _); refine wpList_index_tab (d := 47) _ _ _ rfl 25 Try.underlying23 6 rfl _ _ _ _ to (by rfl) HA.out 0 (by rfl) hlt ?_) | ((with_reducible show wpList _ _ _ (⟨some 48, _, _, _, _, _⟩ :: _) _ _); refine wpList_load_ty (d := 48) _ _ rfl _ Try.underlying25 w _ _ tb (to + 0 * 6) (by rfl) rfl (by first | rfl | omega) (K 0) HR.out KWR.out rfl ?_) | (go_at_call 19; (with_reducible refine CX.out.mono ?_); rintro e w6 ⟨rfl, hk6⟩))
        go_roundw
        case rel => exact ⟨0 + 1, u ++ told r X, by omega, by go_num, congrArg Value.string (catB u (told r X)), by rw [rListL_nx HX.out, if_neg (by omega), HU.out]; simp, HKR.out.trans hk6⟩
        case measure => simp [intOf]; omega
    · obtain rfl : ll = n := by omega
      have hz : ¬ ((ll : Int) < (ll : Int)) := by omega
      have c1 : ¬ (9223372036854775807 < u.length + 1) := by omega
      by_cases h0 : rl = 0
      · subst h0
        go_wp2_with fail
        go_ret
        exact ⟨congrArg (fun x => Ending.returned (Value.string x)) (show (⟨u.toArray⟩ : ByteArray) ++ ⟨#[41]⟩ = ⟨(told (r + 1) T).toArray⟩ by
          have e : T.kids.length - T.nl = 0 := by have := HES.out; have := HEL.out; omega
          rw [hv.out, e, HEL.out, ← HU.out, resL, List.append_nil]; exact catB u [41]), KWR.out⟩
      · obtain rfl : rl = 1 := by omega
        obtain ⟨tb, to, ha, hr⟩ := HT.out.tr.at (by show 0 < 1; omega)
        have hr0 := hr 0 (by show 0 < 1; omega)
        simp only at ha
        subst ha
        simp only [Nat.zero_mul, Nat.add_zero, Nat.zero_add] at hr0
        obtain ⟨X, hX⟩ : ∃ X, T.kids[ll]? = some X := ⟨_, List.getElem?_eq_getElem (by have := HES.out; omega)⟩
        have HX := Lib.hid hX
        have hxl := HB2.out ll X hX
        clear hX
        have g0 : wr.cell? ⟨tb, to, none⟩ = some (.int .i64 (K ll).k) := KWR.out.cellv (by simpa using hr0 0 _ rfl)
        have g1 : wr.cell? ⟨tb, to + 1, none⟩ = some (.string (K ll).nm) := KWR.out.cellv (hr0 1 _ rfl)
        have g2 : wr.cell? ⟨tb, to + 2, none⟩ = some (.int .i64 (K ll).con) := KWR.out.cellv (hr0 2 _ rfl)
        have g3 : wr.cell? ⟨tb, to + 3, none⟩ = some (.slice (K ll).fa (K ll).fl (K ll).fc) := KWR.out.cellv (hr0 3 _ rfl)
        have g4 : wr.cell? ⟨tb, to + 4, none⟩ = some (.slice (K ll).la (K ll).ll (K ll).lc) := KWR.out.cellv (hr0 4 _ rfl)
        have g5 : wr.cell? ⟨tb, to + 5, none⟩ = some (.slice (K ll).ra (K ll).rl (K ll).rc) := KWR.out.cellv (hr0 5 _ rfl)
        have gl : tb < wr.heap.size := lt_of_cell g0
        have CX := Lib.hid (IH.out ll X HX.out wr KWR.out)
        have c2 : ¬ (9223372036854775807 < u.length + 1 + 1) := by omega
        have c3 : ¬ (9223372036854775807 < u.length + 1 + 1 + (told r X).length) := by omega
        clear hr hr0
        go_wp2_with (first | (go_at_call 19; (with_reducible refine CX.out.mono ?_); rintro e w6 ⟨rfl, hk6⟩))
        go_ret
        exact ⟨congrArg (fun x => Ending.returned (Value.string x)) (show (⟨u.toArray⟩ : ByteArray) ++ ⟨#[41]⟩ ++ ⟨#[32]⟩ ++ ⟨(told r X).toArray⟩ = ⟨(told (r + 1) T).toArray⟩ by
          have e : T.kids.length - T.nl = 0 + 1 := by have := HES.out; have := HEL.out; omega
          have e2 : (T.kids.drop ll)[0]? = some X := by rw [List.getElem?_drop]; exact HX.out
          rw [hv.out, e, HEL.out, ← HU.out, rResL_nx e2, resL, List.nil_append, show u ++ [41] ++ ([32] ++ told r X) = u ++ [41] ++ [32] ++ told r X by simp, ← catB, ← catB, ← catB]), KWR.out.trans hk6⟩
theorem rLB_le {r : Nat} (h : r ≤ 9) : LB r ≤ 140737488355328 := by
  refine Nat.le_trans ?_ LB_9
  have mono : ∀ n, LB n ≤ LB (n + 1) := fun n => by show LB n ≤ 17 * (LB n + 2) + 70; omega
  have hm : ∀ k n, LB n ≤ LB (n + k) := fun k => by
    induction k with
    | zero => exact fun n => Nat.le_refl _
    | succ k ih => exact fun n => Nat.le_trans (ih n) (mono _)
  have := hm (9 - r) r
  rwa [show r + (9 - r) = 9 by omega] at this
theorem c_Told : ∀ (r R : Nat) (T : Ty) (h : Hd) (w : World), r ≤ 9 → Lies w A0 R T h → (look r T).2.2 = true →
    Calls Try.prog 19 #[h.val] w fun e w' => e = .returned (.string ⟨(told r T).toArray⟩) ∧ Kp w w' := by
  intro r
  induction r with
  | zero => intro R T h w _ _ hs; rw [look_zero] at hs; cases hs
  | succ r ih =>
    intro R T h w hr hl hs
    cases R with
    | zero => exact hl.elim
    | succ R =>
      obtain ⟨K, t, hh⟩ := hl
      have k1 := (look_parts hs).2
      have hf := t.fmT.trans (look_parts hs).1
      have IH := fun (X : Ty) (hx : Hd) (W : World) (a : Lies W A0 R X hx) (b : (look r X).2.2 = true) => ih R X hx W (by omega) a b
      have hL : LB r ≤ 140737488355328 := rLB_le (by omega)
      have hlb : ∀ X, (look r X).2.2 = true → (told r X).length ≤ 140737488355328 := fun X hX => Nat.le_trans (told_len hX) hL
      have hk := fm_k hf
      by_cases h8 : h.k = 8 ∨ h.k = 12
      · exact rTold_8 r T h K w t h8
      by_cases h9 : h.k = 9
      · exact rTold_9 r R T h K w t h9 (fm_9 hf (.inl h9)) hh k1 hlb IH
      by_cases h10 : h.k = 10
      · exact rTold_10 r R T h K w t h10 (fm_9 hf (.inr h10)) hh k1 hlb IH
      by_cases h11 : h.k = 11
      · exact rTold_11 r R T h K w t h11 (fm_11 hf h11) hh k1 hL IH
      exact rTold_w r T h K w t (by omega)
end Go.Proofs.Ytcaffohojaobaaa
