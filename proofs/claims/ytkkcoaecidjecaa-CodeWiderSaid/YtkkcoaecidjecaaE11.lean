/- The cells of shapes, by the reference. Condition: the shapes lie in memory. -/
import Derived.Test.YtkkcoaecidjecaaE10
import Derived.Deep.DeepCutAuto
namespace Go.Proofs.Ytkkcoaecidjecaa
open Go.RowKit
set_option linter.unusedVariables false
set_option linter.unusedSimpArgs false
/-- What comes of the shapes by the reference. -/
def WidthsR (l : List Sh) (w : World) (e : Ending) (w' : World) : Prop :=
  ∃ cv b, e = .returned (.tuple #[cv, .bool b]) ∧ Kp w w' ∧ ((widthsL l = none ∧ b = false ∧ cv = .slice none 0 0) ∨ ∃ c, widthsL l = some c ∧ b = decide (l.length ≤ 256) ∧ IL w' (From w.heap.size) c cv ∧ cellsOk c l.length)
theorem widths_no {l : List Sh} {w w' : World} (hk : Kp w w') (h : widthsL l = none) : WidthsR l w (.returned (.tuple #[.slice none 0 0, .bool false])) w' := ⟨_, _, rfl, hk, .inl ⟨h, rfl, rfl⟩⟩
/-- What is asked of a shape, but that it is not there yet. -/
def okA (x : Sh) (k : Int) (c : List Int) : Bool := formB x k && decide (cellsB x c ≤ 64)
theorem okSh_of {seen : List Sh} {c : List Int} {x : Sh} {k : Nat} (hk : seen.length = k) {q : Bool} (h : q = (okA x k c && (x.k == 8 || !seen.any (sameSh x)))) : okSh seen c x = q := by
  subst hk
  subst h
  unfold okSh okA
  cases formB x seen.length <;> cases (x.k == 8) <;> cases (seen.any (sameSh x)) <;> simp
theorem any_take {l : List Sh} {j : Nat} {y : Sh} (p : Sh → Bool) (h : l[j]? = some y) : (l.take (j + 1)).any p = ((l.take j).any p || p y) := by
  rw [take_at h, List.any_append]; simp
theorem sameSh_comm (x y : Sh) : sameSh x y = sameSh y x := by
  cases h : sameSh y x with
  | true => exact (sameSh_iff x y).2 ((sameSh_iff y x).1 h).symm
  | false =>
    cases h2 : sameSh x y with
    | false => rfl
    | true => rw [(sameSh_iff x y).1 h2, sameSh_self] at h; cases h
theorem plB_lo {t n : Int} (h : t < 0) : plB t n = false := by simp [plB]; omega
theorem plB_hi {t n : Int} (h : n ≤ t) : plB t n = false := by simp [plB]; omega
theorem exit_eq {l : List Sh} {x : Sh} {ok : Bool} {k j : Nat} (h0 : x.k = 8 → j = 0) (hj : x.k = 8 ∨ j = k) : (ok && !(l.take j).any (sameSh x)) = (ok && (x.k == 8 || !(l.take k).any (sameSh x))) := by
  by_cases h : x.k = 8
  · rw [h0 h, List.take_zero, show (x.k == 8) = true by simp [h]]; simp
  · rcases hj with hj | rfl
    · exact absurd hj h
    · rw [show (x.k == 8) = false by simp [h], Bool.false_or]
theorem okA_no {x : Sh} {k t : Int} {c : List Int} {j : Nat} (h : x.l[j]? = some t) (ht : plB t k = false) : okA x k c = false := by
  unfold okA formB; rw [areB_bad h ht]; rfl
/-- What is asked of a shape whose parts are there, by numbers. -/
def okN (n : Nat) (K r S : Int) (k : Nat) : Prop := n ≤ 16 ∧ ((1 ≤ K ∧ K ≤ 7 ∧ n = 0 ∧ r = 0) ∨ (K = 8 ∧ r = 0 ∧ S ≤ 64) ∨ ((K = 9 ∨ K = 10 ∨ K = 13) ∧ n = 1 ∧ r = 0) ∨ (K = 11 ∧ 0 ≤ r ∧ r ≤ k))
theorem okA_iff {x : Sh} {k : Nat} {c : List Int} (h : ∀ t ∈ x.l, plB t k = true) : okA x k c = true ↔ okN x.l.length x.k x.r (sumC c x.l) k := by
  have ha : areB x.l k 16 = true ↔ x.l.length ≤ 16 := by
    rw [areB_iff]
    constructor
    · intro h1; omega
    · intro h1; exact ⟨by omega, fun t ht => by simpa [plB] using h t ht⟩
  unfold okA formB
  rw [Bool.and_eq_true, Bool.and_eq_true, ha, decide_eq_true_eq]
  unfold kindB okN cellsB
  generalize x.l.length = n
  by_cases h1 : 1 ≤ x.k ∧ x.k ≤ 7
  · rw [if_pos h1, if_neg (by omega)]; simp; omega
  · rw [if_neg h1]
    by_cases h2 : x.k = 8
    · rw [if_pos h2, if_pos h2]; simp; omega
    · rw [if_neg h2, if_neg h2]
      by_cases h3 : x.k = 9 ∨ x.k = 10 ∨ x.k = 13
      · rw [if_pos h3]; simp; omega
      · rw [if_neg h3]
        by_cases h4 : x.k = 11
        · rw [if_pos h4]; simp [resB]; omega
        · rw [if_neg h4]; simp; omega
theorem okA_t {x : Sh} {k : Nat} {c : List Int} {S : Int} (h : ∀ t ∈ x.l, plB t k = true) (hS : sumC c x.l = S) (ho : okN x.l.length x.k x.r S k) : true = okA x k c := ((okA_iff h).2 (hS ▸ ho)).symm
theorem okA_f {x : Sh} {k : Nat} {c : List Int} {S : Int} (h : ∀ t ∈ x.l, plB t k = true) (hS : sumC c x.l = S) (ho : ¬ okN x.l.length x.k x.r S k) : false = okA x k c := by
  cases e : okA x k c with
  | false => rfl
  | true => exact absurd ((okA_iff h).1 e) (hS ▸ ho)
/-- What comes behind the second of two parts is gone through once, whatever ways there are through the two. -/
theorem cut_at {P : Program} {Q : Exit → Act → World → Prop} {a : Act} {w : World} {A B C : Code} {K1 : Act → World → Prop} (hK : ∀ a w, (Code.seq B C).wp P Q a w → K1 a w) (R : Act → World → Prop) (h2 : ∀ a' w', R a' w' → C.wp P Q a' w')
    (h1 : ∀ K : Act → World → Prop, (∀ a' w', R a' w' → K a' w') → A.wp P (Exit.then (fun a1 w1 => B.wp P (Exit.then K Q) a1 w1) Q) a w) : A.wp P (Exit.then K1 Q) a w :=
  wp_mono (h1 (fun a w => C.wp P Q a w) h2) (fun e a w h => by
    cases e with
    | normal => exact hK _ _ (wp_seq h)
    | _ => exact h)
theorem act_map (a : Act) (n : Nat) (hz : a.tmps.size = n) (hd : a.defers = []) : a = ⟨((List.range n).map fun i => a.eval (.tmp i)).toArray, []⟩ := by
  obtain ⟨t, d⟩ := a
  simp only at hz hd
  subst hd
  congr 1
  apply Array.ext
  · simp [hz]
  · intro i h1 h2
    show t[i] = _
    simp only [List.getElem_toArray, List.getElem_map, List.getElem_range]
    show t[i] = t.getD i undef
    rw [Array.getD_eq_getD_getElem?, Array.getElem?_eq_getElem h1]
    rfl
/-- A frame of 150 slots, slot by slot. -/
theorem act150 (a : Act) (hz : a.tmps.size = 150) (hd : a.defers = []) : ∃ f : Nat → Value, (∀ i, a.eval (.tmp i) = f i) ∧ a = ⟨#[f 0, f 1, f 2, f 3, f 4, f 5, f 6, f 7, f 8, f 9, f 10, f 11, f 12, f 13, f 14, f 15, f 16, f 17, f 18, f 19, f 20, f 21, f 22, f 23, f 24, f 25, f 26, f 27, f 28, f 29, f 30, f 31, f 32, f 33, f 34, f 35, f 36, f 37, f 38, f 39, f 40, f 41, f 42, f 43, f 44, f 45, f 46, f 47, f 48, f 49, f 50, f 51, f 52, f 53, f 54, f 55, f 56, f 57, f 58, f 59, f 60, f 61, f 62, f 63, f 64, f 65, f 66, f 67, f 68, f 69, f 70, f 71, f 72, f 73, f 74, f 75, f 76, f 77, f 78, f 79, f 80, f 81, f 82, f 83, f 84, f 85, f 86, f 87, f 88, f 89, f 90, f 91, f 92, f 93, f 94, f 95, f 96, f 97, f 98, f 99, f 100, f 101, f 102, f 103, f 104, f 105, f 106, f 107, f 108, f 109, f 110, f 111, f 112, f 113, f 114, f 115, f 116, f 117, f 118, f 119, f 120, f 121, f 122, f 123, f 124, f 125, f 126, f 127, f 128, f 129, f 130, f 131, f 132, f 133, f 134, f 135, f 136, f 137, f 138, f 139, f 140, f 141, f 142, f 143, f 144, f 145, f 146, f 147, f 148, f 149], []⟩ :=
  ⟨fun i => a.eval (.tmp i), fun _ => rfl, act_map a 150 hz hd⟩
set_option maxHeartbeats 8000000 in
set_option maxRecDepth 100000 in
theorem c_Widths (l : List Sh) (v : Value) (w : World) (h : SL w A0 l v) : Calls Try.prog 15 #[v] w (WidthsR l w) := by
  obtain ⟨iI, hI, hI2⟩ := Option.map_eq_some_iff.1 infoI
  obtain ⟨hI0, hI1, hI2⟩ : iI.zero = some (.int .i64 0) ∧ iI.size = 1 ∧ iI.bytes = 8 := by simpa using hI2
  obtain ⟨a1, q1, C1, rfl, _, hby1, _, ht1, hx1⟩ := h
  have hc1 : l.length ≤ 3518437208781 := by omega
  have HT1 := Lib.hid ht1
  have HX1 := Lib.hid hx1
  clear ht1 hx1 hby1
  go_enter Try.func15, Try.ntmps15
  go_wp2_with fail
  go_loopw [4, 5] (fun y i wr => ∃ (k : Nat) (c : List Int) (cv : Value), cv = y ∧ k ≤ l.length ∧ i = .int .i64 (k : Int) ∧ Hid (widthsL l = widths (l.drop k) (l.take k) c) ∧ Hid (cellsOk c k) ∧ Hid (GR 3 1 LI wr w.heap.size c cv) ∧ Hid (Kp w wr)) (fun _ i _ => l.length - (intOf i).toNat)
  case atStart => exact ⟨0, [], _, rfl, by omega, rfl, Lib.hid rfl, Lib.hid ⟨rfl, fun x hx => by simp at hx⟩, Lib.hid gr_nil, Lib.hid (Kp.refl w)⟩
  case round =>
    obtain ⟨k, c, cv, rfl, hk, rfl, HW, HC, HG, HKP⟩ := hrel
    obtain ⟨wo, hwo⟩ : ∃ wo, wo = wr := ⟨_, rfl⟩
    subst hwo
    by_cases hlt : k < l.length
    · obtain ⟨x, hxk⟩ : ∃ x, l[k]? = some x := ⟨_, List.getElem?_eq_getElem hlt⟩
      obtain ⟨b, q, hab, hr⟩ := (HT1.out.keep HKP.out).at (by omega)
      subst hab
      have hrk := hr k hlt
      have hls := HX1.out k x hxk
      obtain ⟨V, hcx, hil, ix1, ix2⟩ := id hls
      rw [hcx] at hrk hls
      have hone := hil.one
      have HQ := Lib.hid hrk
      have HXK := Lib.hid hxk
      have HLX := Lib.hid hls
      obtain ⟨a2, q2, C2, rfl, _, hby2, _, ht2, hx2⟩ := hil
      have hc2 : x.l.length ≤ 17592186044416 := by omega
      have HT2 := Lib.hid ht2
      have HX2 := Lib.hid hx2
      have HC0 := Lib.hid hcx
      clear hrk hxk hls ix1 ix2 hby2 ht2 hx2 hcx
      have HCL : Hid (c.length = k) := Lib.hid HC.out.1
      have hcm : c.length ≤ 3518437208781 := by have := HCL.out; omega
      have HI := Lib.hid (RL.weak goodI (GR.all (by_ := 8) goodI HG.out (by omega)) (A0_le _))
      obtain ⟨a3, q3, C3, rfl, _, hby3, _, ht3, hx3⟩ := id HI.out
      have HT3 := Lib.hid ht3
      have HX3 := Lib.hid hx3
      clear hby3 ht3 hx3
      go_wp2_with (first | ((with_reducible show wpList _ _ _ (⟨some 19, _, _, _, _, _⟩ :: _) _ _); refine wpList_index_tab (d := 19) _ _ _ rfl 45 Try.underlying22 3 rfl _ _ _ _ q (by rfl) rfl k (by rfl) hlt ?_) | ((with_reducible show wpList _ _ _ (⟨some 20, _, _, _, _, _⟩ :: _) _ _); refine wpList_load_range (d := 20) _ _ rfl _ Try.underlying45 wo _ _ _ _ (by rfl) rfl rfl _ HQ.out (Kp.refl wo) (by rfl) ?_) | ((with_reducible show wpList _ _ _ (⟨none, .store _ (.tmp 6) (.tmp 20), _, _, _, _⟩ :: _) _ _); refine wpList_store_new rfl 45 _ _ rfl wo _ _ (by rfl) (by rfl) (by first | rfl | simp) _ _ rfl (by rfl) (by rfl) (by first | exact all2 rfl rfl | exact all4 rfl rfl rfl rfl | exact all5 rfl rfl rfl rfl hone | exact all3 rfl hone rfl | exact all5 rfl hone1 hone2 rfl hone3 | exact all5 rfl rfl rfl rfl hony | exact all3 rfl hony rfl | exact all5 rfl hony1 hony2 rfl hony3) ?_; intro w4 hq4 hk4 hs4; have HB4 := Lib.hid hq4; have HK4 := Lib.hid hk4; clear hk4; obtain ⟨d0, d1, d2⟩ := row3 hq4; clear hq4))
      go_loopw [7, 8] (fun y i wt => ∃ j : Nat, j ≤ x.l.length ∧ i = .int .i64 (j : Int) ∧ y = .int .i64 (sumC c (x.l.take j)) ∧ Hid (∀ (j' : Nat) t, j' < j → x.l[j']? = some t → plB t k = true) ∧ w4 = wt) (fun _ i _ => x.l.length - (intOf i).toNat)
      case atStart => exact ⟨0, by omega, rfl, rfl, Lib.hid (fun j' t h => by omega), rfl⟩
      case round =>
        obtain ⟨j, hj, rfl, rfl, HA, rfl⟩ := hrel
        have hsum := sumC_in HC.out (x.l.take j)
        rw [List.length_take] at hsum
        by_cases hlt2 : j < x.l.length
        · obtain ⟨t, htk⟩ : ∃ t, x.l[j]? = some t := ⟨_, List.getElem?_eq_getElem hlt2⟩
          obtain ⟨b2, p2, hab2, hr2⟩ := (HT2.out.keep (HKP.out.trans HK4.out)).at (by omega)
          subst hab2
          have c3 := hr2 j hlt2 0 (.int .i64 t) (by rw [(HX2.out j _ htk).1]; rfl)
          simp only [Nat.add_zero, Nat.mul_one] at c3
          have i0 := run_index_tab 33 3 Try.underlying33 1 (by kernel_rfl) b2 p2 x.l.length q2 j hlt2
          simp only [Nat.mul_one] at i0
          have HTK := Lib.hid htk
          clear hr2 htk
          by_cases ht0 : t < 0
          · go_wp2_with fail
            go_ret2
            exact widths_no (HKP.out.trans HK4.out) (widths_bad HW.out HXK.out (okSh_of (k := k) (by rw [List.length_take]; omega) (by rw [okA_no HTK.out (plB_lo ht0)]; rfl)))
          · by_cases ht1 : t ≥ (k : Int)
            · go_wp2_with fail
              go_ret2
              exact widths_no (HKP.out.trans HK4.out) (widths_bad HW.out HXK.out (okSh_of (k := k) (by rw [List.length_take]; omega) (by rw [okA_no HTK.out (plB_hi ht1)]; rfl)))
            · obtain ⟨u, rfl⟩ : ∃ u : Nat, t = (u : Int) := ⟨t.toNat, by omega⟩
              have hul : u < c.length := by have := HCL.out; omega
              obtain ⟨y, hyk⟩ : ∃ y, c[u]? = some y := ⟨_, List.getElem?_eq_getElem hul⟩
              have HGY : Hid (getI c (u : Int) = y) := Lib.hid (by simp [getI, hyk])
              have hyin := getI_in HC.out (u : Int)
              rw [HGY.out] at hyin
              obtain ⟨b3, p3, hab3, hs3⟩ := (HT3.out.keep HK4.out).at (by omega)
              subst hab3
              have c4 := hs3 u hul 0 (.int .i64 y) (by rw [(HX3.out u _ hyk).1]; rfl)
              simp only [Nat.add_zero, Nat.mul_one] at c4
              have i1 := run_index_tab 33 3 Try.underlying33 1 (by kernel_rfl) b3 p3 c.length q3 u hul
              simp only [Nat.mul_one] at i1
              clear hs3 hyk
              go_wp2_with fail
              go_roundw
              case rel =>
                refine ⟨j + 1, by omega, by go_num, by rw [sumC_take c HTK.out, HGY.out], Lib.hid (fun j' t' hj' ht' => ?_), trivial⟩
                by_cases e : j' = j
                · subst e
                  have := HTK.out
                  rw [ht'] at this
                  cases this
                  simp [plB]; omega
                · exact HA.out j' t' (by omega) ht'
              case measure => simp [intOf]; omega
        · have hS0 : sumC c (x.l.take j) = sumC c x.l := by rw [List.take_of_length_le (by omega)]
          have HALL : Hid (∀ t ∈ x.l, plB t k = true) := Lib.hid (fun t ht => by
            obtain ⟨i, hi⟩ := List.mem_iff_getElem?.1 ht
            exact HA.out i t (by have := (List.getElem?_eq_some_iff.1 hi).1; omega) hi)
          rw [hS0] at hsum ⊢
          obtain ⟨S, hS⟩ : ∃ S, sumC c x.l = S := ⟨_, rfl⟩
          rw [hS] at hsum ⊢
          have HSS := Lib.hid hS
          clear hS hS0
          go_upto_region 13 with fail
          refine cut_at (by assumption) (fun a' w' => w' = w4 ∧ a'.defers = [] ∧ a'.tmps.size = 150 ∧ a'.eval (.tmp 0) = .slice (some ⟨b, q, none⟩) l.length q1 ∧ a'.eval (.tmp 4) = .slice a3 c.length q3 ∧ a'.eval (.tmp 5) = .int .i64 (k : Int) ∧ a'.eval (.tmp 6) = .pointer (some ⟨wo.heap.size, 0, none⟩) ∧ a'.eval (.tmp 7) = .int .i64 S ∧ a'.eval (.tmp 9) = .bool (okA x k c) ∧ a'.eval (.tmp 1) = undef ∧ a'.eval (.tmp 146) = undef ∧ a'.eval (.tmp 147) = undef ∧ a'.eval (.tmp 148) = undef ∧ a'.eval (.tmp 149) = undef) ?rest ?walk
          case walk =>
            intro K hK
            have HK := Lib.hid hK
            clear hK
            go_wp2_with fail
            all_goals (refine HK.out _ _ ⟨rfl, rfl, rfl, rfl, rfl, rfl, rfl, rfl, ?_, rfl, rfl, rfl, rfl, rfl⟩)
            all_goals (refine congrArg Value.bool ?_)
            all_goals (first | exact okA_t HALL.out HSS.out (by unfold okN; omega) | exact okA_f HALL.out HSS.out (by unfold okN; omega) | (rw [Bool.eq_iff_iff, okA_iff HALL.out, HSS.out]; unfold okN; (try simp only [beq_iff_eq, beq_eq_false_iff_ne, ne_eq, decide_eq_true_eq, Bool.and_eq_true, Bool.or_eq_true, Bool.false_eq_true, true_iff, false_iff] at *); omega))
          case rest =>
            rintro a' w' ⟨rfl, hd', hz', e0, e4, e5, e6, e7, e9, n1, n2, n3, n4, n5⟩
            obtain ⟨f, hf, rfl⟩ := act150 a' hz' hd'
            rw [hf] at e0 e4 e5 e6 e7 e9 n1 n2 n3 n4 n5
            rw [e0, e4, e5, e6, e7, e9, n1, n2, n3, n4, n5]
            clear e0 e4 e5 e6 e7 e9 n1 n2 n3 n4 n5 hf hz' hd'
            generalize f 2 = g2
            generalize f 3 = g3
            generalize f 8 = g8
            generalize f 10 = g10
            generalize f 11 = g11
            generalize f 12 = g12
            generalize f 13 = g13
            generalize f 14 = g14
            generalize f 15 = g15
            generalize f 16 = g16
            generalize f 17 = g17
            generalize f 18 = g18
            generalize f 19 = g19
            generalize f 20 = g20
            generalize f 21 = g21
            generalize f 22 = g22
            generalize f 23 = g23
            generalize f 24 = g24
            generalize f 25 = g25
            generalize f 26 = g26
            generalize f 27 = g27
            generalize f 28 = g28
            generalize f 29 = g29
            generalize f 30 = g30
            generalize f 31 = g31
            generalize f 32 = g32
            generalize f 33 = g33
            generalize f 34 = g34
            generalize f 35 = g35
            generalize f 36 = g36
            generalize f 37 = g37
            generalize f 38 = g38
            generalize f 39 = g39
            generalize f 40 = g40
            generalize f 41 = g41
            generalize f 42 = g42
            generalize f 43 = g43
            generalize f 44 = g44
            generalize f 45 = g45
            generalize f 46 = g46
            generalize f 47 = g47
            generalize f 48 = g48
            generalize f 49 = g49
            generalize f 50 = g50
            generalize f 51 = g51
            generalize f 52 = g52
            generalize f 53 = g53
            generalize f 54 = g54
            generalize f 55 = g55
            generalize f 56 = g56
            generalize f 57 = g57
            generalize f 58 = g58
            generalize f 59 = g59
            generalize f 60 = g60
            generalize f 61 = g61
            generalize f 62 = g62
            generalize f 63 = g63
            generalize f 64 = g64
            generalize f 65 = g65
            generalize f 66 = g66
            generalize f 67 = g67
            generalize f 68 = g68
            generalize f 69 = g69
            generalize f 70 = g70
            generalize f 71 = g71
            generalize f 72 = g72
            generalize f 73 = g73
            generalize f 74 = g74
            generalize f 75 = g75
            generalize f 76 = g76
            generalize f 77 = g77
            generalize f 78 = g78
            generalize f 79 = g79
            generalize f 80 = g80
            generalize f 81 = g81
            generalize f 82 = g82
            generalize f 83 = g83
            generalize f 84 = g84
            generalize f 85 = g85
            generalize f 86 = g86
            generalize f 87 = g87
            generalize f 88 = g88
            generalize f 89 = g89
            generalize f 90 = g90
            generalize f 91 = g91
            generalize f 92 = g92
            generalize f 93 = g93
            generalize f 94 = g94
            generalize f 95 = g95
            generalize f 96 = g96
            generalize f 97 = g97
            generalize f 98 = g98
            generalize f 99 = g99
            generalize f 100 = g100
            generalize f 101 = g101
            generalize f 102 = g102
            generalize f 103 = g103
            generalize f 104 = g104
            generalize f 105 = g105
            generalize f 106 = g106
            generalize f 107 = g107
            generalize f 108 = g108
            generalize f 109 = g109
            generalize f 110 = g110
            generalize f 111 = g111
            generalize f 112 = g112
            generalize f 113 = g113
            generalize f 114 = g114
            generalize f 115 = g115
            generalize f 116 = g116
            generalize f 117 = g117
            generalize f 118 = g118
            generalize f 119 = g119
            generalize f 120 = g120
            generalize f 121 = g121
            generalize f 122 = g122
            generalize f 123 = g123
            generalize f 124 = g124
            generalize f 125 = g125
            generalize f 126 = g126
            generalize f 127 = g127
            generalize f 128 = g128
            generalize f 129 = g129
            generalize f 130 = g130
            generalize f 131 = g131
            generalize f 132 = g132
            generalize f 133 = g133
            generalize f 134 = g134
            generalize f 135 = g135
            generalize f 136 = g136
            generalize f 137 = g137
            generalize f 138 = g138
            generalize f 139 = g139
            generalize f 140 = g140
            generalize f 141 = g141
            generalize f 142 = g142
            generalize f 143 = g143
            generalize f 144 = g144
            generalize f 145 = g145
            obtain ⟨ok, hok⟩ : ∃ ok, okA x k c = ok := ⟨_, rfl⟩
            rw [hok]
            have HOK := Lib.hid hok
            clear hok
            have HGW : Hid (GR 3 1 LI w' w.heap.size c (.slice a3 c.length q3)) := Lib.hid (HG.out.keep goodI HK4.out)
            have HBW : Hid (w'.heap[wo.heap.size]? = some (.cells #[.int .i64 x.k, .slice a2 x.l.length q2, .int .i64 x.r] 45 (0, 0))) := Lib.hid HB4.out
            go_wp2_with fail
            go_loopw [9, 10] (fun y i wz => ∃ (j2 : Nat) (qb : Bool), j2 ≤ k ∧ i = .int .i64 (j2 : Int) ∧ y = .bool qb ∧ Hid (qb = (ok && !(l.take j2).any (sameSh x))) ∧ Hid (x.k = 8 → j2 = 0) ∧ Hid (Kp w' wz)) (fun _ i _ => k - (intOf i).toNat)
            case atStart => exact ⟨0, ok, by omega, rfl, rfl, Lib.hid (by simp), Lib.hid (fun _ => rfl), Lib.hid (Kp.refl _)⟩
            case round =>
              obtain ⟨j2, qb, hj2, rfl, rfl, HQB, HJ0, HKZ⟩ := hrel
              have hbz := row_keep HKZ.out HBW.out
              obtain ⟨z0, z1, z2⟩ := row3 hbz
              have HBZ := Lib.hid hbz
              clear hbz
              by_cases hin : j2 < k
              · by_cases hk8 : x.k = 8
                · have HOS : Hid (okSh (l.take k) c x = qb) := Lib.hid (okSh_of (k := k) (by rw [List.length_take]; omega) (by rw [HOK.out, HQB.out]; exact exit_eq HJ0.out (.inl hk8)))
                  have HGZ : Hid (∀ W, Kp wr W → GR 3 1 LI W w.heap.size c (.slice a3 c.length q3)) := Lib.hid (fun W kW => HGW.out.keep goodI (HKZ.out.trans kW))
                  cases qb with
                  | false =>
                    go_wp2_with fail
                    go_ret2
                    exact widths_no (HKP.out.trans (HK4.out.trans HKZ.out)) (widths_bad HW.out HXK.out HOS.out)
                  | true =>
                    have HYB : Hid (c.length * 8 + 16 ≤ 140737488351232) := Lib.hid (by omega)
                    have hg8 : (x.k != 8) = false := by simp [hk8]
                    have HZ : Hid (cellsB x c = S) := Lib.hid (by unfold cellsB; rw [HSS.out]; simp [hk8])
                    have HZI : Hid (i64 S) := Lib.hid (by unfold i64; omega)
                    have HLE : Hid (cellsB x c ≤ 64) := Lib.hid (by
                      have h := HOS.out
                      unfold okSh at h
                      simp only [Bool.and_eq_true, decide_eq_true_eq] at h
                      exact h.2.2)
                    go_wp2_with (((with_reducible show wpList _ _ _ (⟨some 145, _, _, _, _, _⟩ :: _) _ _); refine wpList_append_gr goodI (d := 145) _ _ 33 rfl 3 iI _ 8 Try.underlying33 hI hI0 hI1 hI2 rfl (by decide) (.slice a3 c.length q3) c w.heap.size (by rfl) _ (HGZ.out _ (Kp.refl _)) (by have:=(HKP.out.trans (HK4.out.trans HKZ.out)).sz; omega) S [.int .i64 S] (fun b=>wr.heap.size+1≤b) _ _ (by rfl) (by first | rfl | simp) rfl ⟨rfl,HZI.out⟩ (fun b (hb:wr.heap.size+1≤b)=>⟨by have:=(HKP.out.trans (HK4.out.trans HKZ.out)).sz; omega,fun e=>by have:=((HGZ.out _ (Kp.refl _)).lt b e.symm).2;omega⟩) (by have hyb := HYB.out; (try rw [take_len (by omega)]); unfold maxLen; omega) (by have hyb := HYB.out; (try rw [take_len (by omega)]); omega) ?_; intro g11 cap11 w11 hg11 hgr11 hat11 hlt11 hB11; have H11 := Lib.hid hg11; have HGR11 := Lib.hid hgr11; clear hg11 hgr11 hat11 hlt11 hB11))
                    go_roundw
                    case rel =>
                      refine ⟨k + 1, c ++ [S], _, rfl, by omega, by go_num, Lib.hid ?_, Lib.hid ?_, (by first | exact H11 | (have h := H11; rw [HCL.out] at h; exact h)), Lib.hid (((HKP.out.trans (HK4.out.trans HKZ.out)).alloc _).grown HGR11.out (fun b hb => ((HGZ.out _ (Kp.refl _)).lt b hb).1))⟩
                      · rw [← HZ.out]; exact widths_next HW.out HXK.out HOS.out
                      · rw [← HZ.out]; exact cells_next HC.out HLE.out
                    case measure => simp [intOf]; omega
                · have hg8 : (x.k != 8) = true := by simp [hk8]
                  obtain ⟨y, hyk⟩ : ∃ y, l[j2]? = some y := ⟨_, List.getElem?_eq_getElem (by omega)⟩
                  obtain ⟨b5, p5, hab5, hr5⟩ := (HT1.out.keep (HKP.out.trans (HK4.out.trans HKZ.out))).at (by omega)
                  cases hab5
                  have HCE : Hid (∀ W, Kp wr W → Calls Try.prog 30 #[.agg (C1 j2).toArray, .agg [.int .i64 x.k, .slice a2 x.l.length q2, .int .i64 x.r].toArray] W (Tell (sameSh y x) W)) := Lib.hid (fun W kW => c_SameShape y x _ _ W (goodS.keep (HX1.out j2 y hyk) (HKP.out.trans (HK4.out.trans (HKZ.out.trans kW)))) (goodS.keep HLX.out (HKP.out.trans (HK4.out.trans (HKZ.out.trans kW)))))
                  have HR5 := Lib.hid (hr5 j2 (by omega))
                  have HN5 := Lib.hid (goodS.len (HX1.out j2 y hyk)).1
                  have HYK := Lib.hid hyk
                  clear hr5 hyk
                  go_upto_region 26 with fail
                  refine regS _ wr qb (sameSh y x) b q j2 l.length q1 wo.heap.size (C1 j2) [.int .i64 x.k, .slice a2 x.l.length q2, .int .i64 x.r] (by simp [WS_, Act.size_put]) rfl rfl rfl (by omega) HR5.out HN5.out rfl (key_range HBZ.out) rfl HCE.out ?_
                  intro v w7 hv9 hk7
                  simp only [WS_, List.foldl, Act.put, List.setIfInBounds_toArray, List.set_cons_zero, List.set_cons_succ]
                  rw [hv9]
                  have HK7 := Lib.hid hk7
                  clear hk7 hv9
                  go_wp2_with fail
                  go_roundw
                  case rel =>
                    refine ⟨j2 + 1, _, by omega, by go_num, rfl, Lib.hid ?_, Lib.hid (fun h => absurd h hk8), Lib.hid (HKZ.out.trans HK7.out)⟩
                    rw [any_take _ HYK.out, HQB.out, sameSh_comm y x]
                    cases ok <;> cases (l.take j2).any (sameSh x) <;> cases sameSh x y <;> rfl
                  case measure => simp [intOf]; omega
              · have HOS : Hid (okSh (l.take k) c x = qb) := Lib.hid (okSh_of (k := k) (by rw [List.length_take]; omega) (by rw [HOK.out, HQB.out]; exact exit_eq HJ0.out (.inr (by omega))))
                have HGZ : Hid (∀ W, Kp wr W → GR 3 1 LI W w.heap.size c (.slice a3 c.length q3)) := Lib.hid (fun W kW => HGW.out.keep goodI (HKZ.out.trans kW))
                cases qb with
                | false =>
                  go_wp2_with fail
                  go_ret2
                  exact widths_no (HKP.out.trans (HK4.out.trans HKZ.out)) (widths_bad HW.out HXK.out HOS.out)
                | true =>
                  have HYB : Hid (c.length * 8 + 16 ≤ 140737488351232) := Lib.hid (by omega)
                  by_cases hk8 : x.k = 8
                  · have hg8 : (x.k != 8) = false := by simp [hk8]
                    have HZ : Hid (cellsB x c = S) := Lib.hid (by unfold cellsB; rw [HSS.out]; simp [hk8])
                    have HZI : Hid (i64 S) := Lib.hid (by unfold i64; omega)
                    have HLE : Hid (cellsB x c ≤ 64) := Lib.hid (by
                      have h := HOS.out
                      unfold okSh at h
                      simp only [Bool.and_eq_true, decide_eq_true_eq] at h
                      exact h.2.2)
                    go_wp2_with (((with_reducible show wpList _ _ _ (⟨some 145, _, _, _, _, _⟩ :: _) _ _); refine wpList_append_gr goodI (d := 145) _ _ 33 rfl 3 iI _ 8 Try.underlying33 hI hI0 hI1 hI2 rfl (by decide) (.slice a3 c.length q3) c w.heap.size (by rfl) _ (HGZ.out _ (Kp.refl _)) (by have:=(HKP.out.trans (HK4.out.trans HKZ.out)).sz; omega) S [.int .i64 S] (fun b=>wr.heap.size+1≤b) _ _ (by rfl) (by first | rfl | simp) rfl ⟨rfl,HZI.out⟩ (fun b (hb:wr.heap.size+1≤b)=>⟨by have:=(HKP.out.trans (HK4.out.trans HKZ.out)).sz; omega,fun e=>by have:=((HGZ.out _ (Kp.refl _)).lt b e.symm).2;omega⟩) (by have hyb := HYB.out; (try rw [take_len (by omega)]); unfold maxLen; omega) (by have hyb := HYB.out; (try rw [take_len (by omega)]); omega) ?_; intro g11 cap11 w11 hg11 hgr11 hat11 hlt11 hB11; have H11 := Lib.hid hg11; have HGR11 := Lib.hid hgr11; clear hg11 hgr11 hat11 hlt11 hB11))
                    go_roundw
                    case rel =>
                      refine ⟨k + 1, c ++ [S], _, rfl, by omega, by go_num, Lib.hid ?_, Lib.hid ?_, (by first | exact H11 | (have h := H11; rw [HCL.out] at h; exact h)), Lib.hid (((HKP.out.trans (HK4.out.trans HKZ.out)).alloc _).grown HGR11.out (fun b hb => ((HGZ.out _ (Kp.refl _)).lt b hb).1))⟩
                      · rw [← HZ.out]; exact widths_next HW.out HXK.out HOS.out
                      · rw [← HZ.out]; exact cells_next HC.out HLE.out
                    case measure => simp [intOf]; omega
                  · have hg8 : (x.k != 8) = true := by simp [hk8]
                    have HZ : Hid (cellsB x c = 1) := Lib.hid (by unfold cellsB; rw [HSS.out]; simp [hk8])
                    have HZI : Hid (i64 1) := Lib.hid (by unfold i64; omega)
                    have HLE : Hid (cellsB x c ≤ 64) := Lib.hid (by
                      have h := HOS.out
                      unfold okSh at h
                      simp only [Bool.and_eq_true, decide_eq_true_eq] at h
                      exact h.2.2)
                    go_wp2_with (((with_reducible show wpList _ _ _ (⟨some 145, _, _, _, _, _⟩ :: _) _ _); refine wpList_append_gr goodI (d := 145) _ _ 33 rfl 3 iI _ 8 Try.underlying33 hI hI0 hI1 hI2 rfl (by decide) (.slice a3 c.length q3) c w.heap.size (by rfl) _ (HGZ.out _ (Kp.refl _)) (by have:=(HKP.out.trans (HK4.out.trans HKZ.out)).sz; omega) 1 [.int .i64 1] (fun b=>wr.heap.size+1≤b) _ _ (by rfl) (by first | rfl | simp) rfl ⟨rfl,HZI.out⟩ (fun b (hb:wr.heap.size+1≤b)=>⟨by have:=(HKP.out.trans (HK4.out.trans HKZ.out)).sz; omega,fun e=>by have:=((HGZ.out _ (Kp.refl _)).lt b e.symm).2;omega⟩) (by have hyb := HYB.out; (try rw [take_len (by omega)]); unfold maxLen; omega) (by have hyb := HYB.out; (try rw [take_len (by omega)]); omega) ?_; intro g11 cap11 w11 hg11 hgr11 hat11 hlt11 hB11; have H11 := Lib.hid hg11; have HGR11 := Lib.hid hgr11; clear hg11 hgr11 hat11 hlt11 hB11))
                    go_roundw
                    case rel =>
                      refine ⟨k + 1, c ++ [1], _, rfl, by omega, by go_num, Lib.hid ?_, Lib.hid ?_, (by first | exact H11 | (have h := H11; rw [HCL.out] at h; exact h)), Lib.hid (((HKP.out.trans (HK4.out.trans HKZ.out)).alloc _).grown HGR11.out (fun b hb => ((HGZ.out _ (Kp.refl _)).lt b hb).1))⟩
                      · rw [← HZ.out]; exact widths_next HW.out HXK.out HOS.out
                      · rw [← HZ.out]; exact cells_next HC.out HLE.out
                    case measure => simp [intOf]; omega
    · go_wp2_with fail
      go_ret2
      refine ⟨_, _, rfl, HKP.out, .inr ⟨c, widths_all HW.out (by omega), by first | rfl | (simp; omega), ?_, ?_⟩⟩
      · have hlc := HC.out.1
        exact (GR.all goodI HG.out (by omega)).weak goodI (From_le (by omega))
      · have e : k = l.length := by omega
        rw [← e]; exact HC.out
end Go.Proofs.Ytkkcoaecidjecaa
