/- The walk of ScanCuts: whatever the text and the number. Condition: the library's variables hold what they must. -/
import Derived.Test.YtjpmgloofcgfnaaDoorD5
import Derived.Test.YtjpmgloofcgfnaaDoorD6
import Derived.Laws.Slices
import Derived.ChangeKeysEq
namespace Go.Proofs.YtjpmgloofcgfnaaDoor
open Go.RowKit
set_option linter.unusedVariables false
set_option linter.unusedSimpArgs false

set_option maxHeartbeats 1600000 in
set_option maxRecDepth 100000 in
theorem cuts_err (s : ByteArray) (n : Int) (x : Int × Int) (w : World) (he : ErrAt w) (hg : SignsAt w) (hm : MaxAt w) (h : toksV s = .error x) : Calls Tryd.prog 6 #[.string s, .int .u16 n] w fun e w' => e = .returned (.bool true) ∧ Kp w w' := by
  have HE := Lib.hid he
  have HG := Lib.hid hg
  have HM := Lib.hid hm
  have e1 : (x.2 == 0) = false := beq_eq_false_iff_ne.2 (toks_err h)
  have e2 : (x.2 != 0) = true := by simp [toks_err h]
  obtain ⟨xi, xe⟩ := x
  have CT := Lib.hid (c_tokE s xi xe w h he hg hm)
  simp only at e1 e2
  clear h he hg hm
  go_enter Tryd.func6, Tryd.ntmps6
  go_wp2_with (first | (go_at_call 10; refine (CT.out).mono ?_; rintro e w2 ⟨rfl, hk2⟩; have K2 := Lib.hid hk2; clear hk2) | (go_at_call 12; (with_reducible refine (c_answers _ (HE.out.keep K2.out) (HG.out.keep K2.out) (HM.out.keep K2.out)).mono ?_); rintro e w' ⟨rfl, hk3⟩; have K3 := Lib.hid hk3; have K23 := Lib.hid (K2.out.trans hk3); clear hk3; have HE3 := Lib.hid (HE.out.keep K23.out); have HG3 := Lib.hid (HG.out.keep K23.out); have HM3 := Lib.hid (HM.out.keep K23.out)) | (go_at_call 12; (with_reducible refine (c_answers _ HE3.out HG3.out HM3.out).mono ?_); rintro e w' ⟨rfl, hk4⟩; have K4 := Lib.hid (K23.out.trans hk4); clear hk4))
  go_ret
  exact ⟨rfl, K4.out⟩
set_option maxHeartbeats 1600000 in
set_option maxRecDepth 100000 in
theorem cuts_nil (s : ByteArray) (n : Int) (w : World) (he : ErrAt w) (hg : SignsAt w) (hm : MaxAt w) (h : toksV s = .ok []) : Calls Tryd.prog 6 #[.string s, .int .u16 n] w fun e w' => e = .returned (.bool true) ∧ Kp w w' := by
  have HE := Lib.hid he
  have HG := Lib.hid hg
  have HM := Lib.hid hm
  have CT := Lib.hid (c_tokO s [] 0 rfl w h he hg hm)
  clear h he hg hm
  go_enter Tryd.func6, Tryd.ntmps6
  go_wp2_with (first | (go_at_call 10; refine (CT.out).mono ?_; rintro e w2 ⟨ad, c, rfl, _, hk2, _⟩; have K2 := Lib.hid hk2; clear hk2) | (go_at_call 12; (with_reducible refine (c_answers _ (HE.out.keep K2.out) (HG.out.keep K2.out) (HM.out.keep K2.out)).mono ?_); rintro e w' ⟨rfl, hk3⟩; have K3 := Lib.hid hk3; have K23 := Lib.hid (K2.out.trans hk3); clear hk3; have HE3 := Lib.hid (HE.out.keep K23.out); have HG3 := Lib.hid (HG.out.keep K23.out); have HM3 := Lib.hid (HM.out.keep K23.out)) | (go_at_call 12; (with_reducible refine (c_answers _ HE3.out HG3.out HM3.out).mono ?_); rintro e w' ⟨rfl, hk4⟩; have K4 := Lib.hid (K23.out.trans hk4); clear hk4))
  go_ret
  exact ⟨rfl, K4.out⟩
theorem own_cap {w : World} {B : Nat} {e : TypeId} {m n : Nat} {ad : Option Addr} {k c : Nat} {xs : List Value} (h : w.ownsRow B e m (.slice ad k c) n xs) : n ≤ c := by
  rcases h.2 with ⟨hv, h0⟩ | ⟨g, cap, cur, hv, hg0, hg, hc1, hc2, hsz, htk⟩
  · omega
  · cases hv; exact hc1
/-- Tokens of a text that has them, with room. -/
theorem c_tokC (s : ByteArray) (L : List Tk) (N : Nat) (hN : L.length = N) (w : World) (h : toksV s = .ok L) (he : ErrAt w) (hg : SignsAt w) (hm : MaxAt w) : Calls Tryd.prog 10 #[.string s] w fun e w' => ∃ ad c, e = .returned (.tuple #[.slice ad N c, .int .i64 0, .int .i64 0]) ∧ N ≤ 9223372036854775807 ∧ N ≤ c ∧ Kp w w' ∧ Hid (TkAt w' ad L) :=
  (c_Tokens s w he hg hm).mono fun e w' hq => by
    rw [h] at hq
    obtain ⟨hk, v, rfl, hown⟩ := hq
    have hown2 := hown
    obtain ⟨ad, c, rfl, hmx, hcl⟩ := own_slice hown (tk_len L) (by decide)
    rw [hN] at hmx hown2 ⊢
    exact ⟨ad, c, rfl, le_max rfl hmx, own_cap hown2, hk, Lib.hid hcl⟩
theorem tk_take {L : List Tk} {k j : Nat} {u : Value} (h : (tkCells (L.take k))[j]? = some u) : (tkCells L)[j]? = some u := by
  have h1 : tkCells L = tkCells (L.take k) ++ tkCells (L.drop k) := by
    show L.flatMap Tk.cells = (L.take k).flatMap Tk.cells ++ (L.drop k).flatMap Tk.cells
    rw [← List.flatMap_append, List.take_append_drop]
  rw [h1, List.getElem?_append_left (List.getElem?_eq_some_iff.1 h).1]
  exact h
theorem TkAt.take {w : World} {ad : Option Addr} {L : List Tk} (h : TkAt w ad L) (k : Nat) : TkAt w ad (L.take k) := fun j u hu => h j u (tk_take hu)
set_option maxRecDepth 100000 in
theorem slice_head (ad : Option Addr) (n c k : Nat) (h : k ≤ c) (w : World) : (Instr.slice 22 (.slice ad n c) none (some (.int .i64 k)) none).run Tryd.prog w = .ok (.slice ad k c) w := by
  have hm : ∀ z : Nat, ad.map (fun x : Addr => x.add (0 * z)) = ad := fun z => by
    cases ad with
    | none => rfl
    | some x => simp [Addr.add]
  rw [run_slice_h (P := Tryd.prog) (w := w) (t := 22) (a := ad) (len := n) (cap := c) (ht := Tryd.underlying22) (kh := .i64) (h := (k : Int)) (h0 := by omega) (h2 := by omega)]
  obtain ⟨i0, hi, _⟩ := info_parts infoTk
  rw [show Tryd.prog.elem 22 = 33 by simp only [Program.elem, Tryd.underlying22], run_sizeOf _ hi]
  simp only [Result.andThen, sliced, hm, Nat.sub_zero, Int.toNat_natCast]
  split <;> rfl
set_option maxHeartbeats 1600000 in
set_option maxRecDepth 1000000 in
theorem cuts_semi (s : ByteArray) (n : Int) (L : List Tk) (k N : Nat) (t : Tk) (w : World) (hn : 0 ≤ n ∧ n ≤ 65535) (he : ErrAt w) (hg : SignsAt w) (hm : MaxAt w) (h : toksV s = .ok L) (hN : L.length = N) (hN0 : 0 < N) (hk : n % (N : Int) = (k : Int)) (hkN : k < N) (ht : L[k]? = some t) (h0 : t.text = ⟨#[]⟩) :
    Calls Tryd.prog 6 #[.string s, .int .u16 n] w fun e w' => e = .returned (.bool true) ∧ Kp w w' := by
  have HE := Lib.hid he
  have HG := Lib.hid hg
  have HM := Lib.hid hm
  have CT := Lib.hid (c_tokC s L N hN w h he hg hm)
  have HT := Lib.hid ht
  have H0 := Lib.hid h0
  have i1 : (0 : Int) ≤ (k : Int) := by omega
  have i2 : (k : Int) < (N : Int) := by omega
  have i3 : ((N : Int) == 0) = false := by simp; omega
  have i4 : (N : Int) ≠ 0 := by omega
  have i5 : (0 : Int) < N := by omega
  clear h he hg hm hN ht h0
  obtain ⟨n0, n1⟩ := hn
  go_enter Tryd.func6, Tryd.ntmps6
  go_wp2_with (first | (go_at_call 10; (with_reducible refine (CT.out).mono ?_); rintro e w2 ⟨ad, c, rfl, hmx, hcap, hk2, HO⟩; have K2 := Lib.hid hk2; clear hk2; obtain ⟨g, rfl, a0⟩ := HO.out _ _ (tok_at HT.out (q := 0) rfl); have a1 := cell_at HO.out (tok_at HT.out (q := 1) rfl); have a3 := cell_at HO.out (tok_at HT.out (q := 3) rfl); clear a0; rw [H0.out] at a1) | (go_at_call 12; (with_reducible refine (c_answers _ (HE.out.keep K2.out) (HG.out.keep K2.out) (HM.out.keep K2.out)).mono ?_); rintro e w3 ⟨rfl, hk3⟩; have K3 := Lib.hid hk3; have K23 := Lib.hid (K2.out.trans hk3); have a1 := hk3.cellv a1; have a3 := hk3.cellv a3; clear hk3))
  go_ret
  exact ⟨rfl, K23.out⟩
set_option maxHeartbeats 1600000 in
set_option maxRecDepth 1000000 in
theorem cuts_main (s : ByteArray) (n : Int) (L A B : List Tk) (a k N NA : Nat) (t : Tk) (w : World) (hn : 0 ≤ n ∧ n ≤ 65535) (he : ErrAt w) (hg : SignsAt w) (hm : MaxAt w) (h : toksV s = .ok L) (hN : L.length = N) (hN0 : 0 < N) (hk : n % (N : Int) = (k : Int)) (hkN : k < N) (ht : L[k]? = some t) (h0 : t.text ≠ ⟨#[]⟩)
    (hp : t.pos = a) (has : a ≤ s.size) (hB : toksV (s.extract a s.size) = .ok B) (hBL : B.map (sh a) = L.drop k) (hA : toksV (s.extract 0 a) = .ok A) (hAl : A.length = NA) (hAk : A.take k = L.take k) (hNA : NA = k ∨ (NA = k + 1 ∧ A[k]? = some (semiT a))) :
    Calls Tryd.prog 6 #[.string s, .int .u16 n] w fun e w' => e = .returned (.bool true) ∧ Kp w w' := by
  have HE := Lib.hid he
  have HG := Lib.hid hg
  have HM := Lib.hid hm
  have CT := Lib.hid (c_tokC s L N hN w h he hg hm)
  have HT := Lib.hid ht
  have hsz := (toks_run h).1
  obtain ⟨R, hBl⟩ : ∃ R, B.length = R := ⟨_, rfl⟩
  have hR : N = k + R := by
    have := congrArg List.length hBL
    rw [List.length_map, List.length_drop] at this
    omega
  have iR : (N : Int) - k = R := by omega
  have HR := Lib.hid hR
  have CTB := Lib.hid (fun W (e1 : ErrAt W) e2 e3 => c_tokC (s.extract a s.size) B R hBl W hB e1 e2 e3)
  have HSL := Lib.hid (slice_head)
  have CTA := Lib.hid (fun W (e1 : ErrAt W) e2 e3 => c_tokC (s.extract 0 a) A NA hAl W hA e1 e2 e3)
  have HBP := Lib.hid (toks_in hB)
  have HBL := Lib.hid hBL
  have HAK := Lib.hid hAk
  have HNA := Lib.hid hNA
  have HLN := Lib.hid hN
  have HAN := Lib.hid hAl
  have HTX := Lib.hid h0
  have x1 : (t.text.toList == []) = false := ne_list h0
  have i1 : (0 : Int) ≤ (k : Int) := by omega
  have i2 : (k : Int) < (N : Int) := by omega
  have i3 : ((N : Int) == 0) = false := by simp; omega
  have i4 : (N : Int) ≠ 0 := by omega
  have i5 : (0 : Int) < N := by omega
  have i6 : (0 : Int) ≤ (a : Int) := by omega
  have i7 : (a : Int) ≤ (s.size : Int) := by omega
  have q1 : decide (NA < k) = false := decide_eq_false (by omega)
  have q2 : decide (k + 1 < NA) = false := decide_eq_false (by omega)
  have q3 : decide ((k : Int) + 1 < (NA : Int)) = false := decide_eq_false (by omega)
  clear h he hg hm hN ht h0 hB hA hBL hAk hNA hAl hBl hR
  obtain ⟨n0, n1⟩ := hn
  go_enter Tryd.func6, Tryd.ntmps6
  go_wp2_with (first | (go_at_call 10; (with_reducible refine (CT.out).mono ?_); rintro e w2 ⟨ad, c, rfl, hmx, hcap, hk2, HO⟩; have K2 := Lib.hid hk2; clear hk2; obtain ⟨g, rfl, a0⟩ := HO.out _ _ (tok_at HT.out (q := 0) rfl); have a1 := cell_at HO.out (tok_at HT.out (q := 1) rfl); have a3 := cell_at HO.out (tok_at HT.out (q := 3) rfl); clear a0; rw [hp] at a3) | (go_at_call 12; (with_reducible refine (c_answers _ (HE.out.keep K2.out) (HG.out.keep K2.out) (HM.out.keep K2.out)).mono ?_); rintro e w3 ⟨rfl, hk3⟩; have K3 := Lib.hid hk3; have K23 := Lib.hid (K2.out.trans hk3); have a1 := hk3.cellv a1; have a3 := hk3.cellv a3; clear hk3) | (go_at_call 10; (with_reducible refine (CTB.out _ (HE.out.keep K23.out) (HG.out.keep K23.out) (HM.out.keep K23.out)).mono ?_); rintro e w4 ⟨ad4, c4, rfl, hmx4, hcap4, hk4, HO4⟩; have K4 := Lib.hid (K23.out.trans hk4); have HOL := Lib.hid ((HO.out.keep K3.out).keep hk4); clear hk4))
  go_loopw [13] (fun i wr => ∃ j : Nat, j ≤ R ∧ i = .int .i64 ((k + j : Nat) : Int) ∧ Kp w4 wr) (fun i _ => N - (intOf i).toNat)
  case atStart => exact ⟨0, Nat.zero_le _, rfl, Kp.refl _⟩
  case round =>
    obtain ⟨j, hj, rfl, hkr⟩ := hrel
    have j1 : (0 : Int) ≤ ((k + j : Nat) : Int) := by omega
    by_cases hlt : j < R
    · obtain ⟨m, hm⟩ : ∃ m, m = k + j := ⟨_, rfl⟩
      rw [← hm] at j1 ⊢
      obtain ⟨b, hb⟩ : ∃ b, B[j]? = some b := by
        have h1 : (B.map (sh a)).length = R := by rw [HBL.out, List.length_drop, HLN.out]; have := HR.out; omega
        rw [List.length_map] at h1
        exact ⟨B[j]'(by omega), by simp [h1, hlt]⟩
      have hl : L[m]? = some (sh a b) := by
        have h1 := congrArg (·[j]?) HBL.out
        simp only [List.getElem?_map, List.getElem?_drop, hb, Option.map_some] at h1
        rw [hm]; exact h1.symm
      obtain ⟨g4, rfl, b0⟩ := HO4.out _ _ (tok_at hb (q := 0) rfl)
      have b0 := hkr.cellv b0
      have b1 := hkr.cellv (cell_at HO4.out (tok_at hb (q := 1) rfl))
      have b2 := hkr.cellv (cell_at HO4.out (tok_at hb (q := 2) rfl))
      have b3 := hkr.cellv (cell_at HO4.out (tok_at hb (q := 3) rfl))
      have a0 := hkr.cellv (cell_at HOL.out (tok_at hl (q := 0) rfl))
      have a1 := hkr.cellv (cell_at HOL.out (tok_at hl (q := 1) rfl))
      have a2 := hkr.cellv (cell_at HOL.out (tok_at hl (q := 2) rfl))
      have a3 := hkr.cellv (cell_at HOL.out (tok_at hl (q := 3) rfl))
      rw [Nat.add_zero] at a0 b0
      have hps := HBP.out b (List.mem_of_getElem? hb)
      have hps2 : (s.extract a s.size).size ≤ s.size := ext_size s a
      clear hb hl
      obtain ⟨tk, tx, tn, tp⟩ := b
      simp only [sh] at a0 a1 a2 a3 b0 b1 b2 b3 hps
      have hgl := lt_of_cell a0
      have hgl2 := lt_of_cell b0
      have j2 : (m : Int) < (N : Int) := by have := HR.out; omega
      have j3 : IntKind.i64.wrap (tp + (a : Int) - (a : Int)) = tp := by rw [IntKind.wrap_i64]; omega
      have j4 : (m : Int) - (k : Int) = (j : Int) := by omega
      have j5 : IntKind.i64.wrap (j : Int) = (j : Int) := by rw [IntKind.wrap_i64]; omega
      have j6 : (0 : Int) ≤ (j : Int) := by omega
      have j7 : (j : Int) < (R : Int) := by omega
      have HMJ := Lib.hid hm
      clear hm
      go_wp2_with fail
      go_quiet (fail)
      go_wp2_with fail
      go_roundw
      case rel => exact ⟨j + 1, by omega, by have := HMJ.out; subst this; go_num, (hkr.alloc _).drewN _⟩
      case measure => have := HMJ.out; have := HR.out; simp [intOf]; omega
    · obtain rfl : j = R := by omega
      have HJ := Lib.hid (show (k + j : Nat) = N from HR.out.symm)
      rw [HJ.out]
      go_wp2_with (first | (go_at_call 10; (with_reducible refine (CTA.out _ ((HE.out.keep K4.out).keep hkr) ((HG.out.keep K4.out).keep hkr) ((HM.out.keep K4.out).keep hkr)).mono ?_); rintro e w5 ⟨ad5, c5, rfl, hmx5, hcap5, hk5, HO5⟩; have K5 := Lib.hid ((K4.out.trans hkr).trans hk5); have HOL5 := Lib.hid ((HOL.out.keep hkr).keep hk5); clear hk5))
      have hs1 := fun W => slice_head ad5 NA c5 k (by rcases HNA.out with h | ⟨h, _⟩ <;> omega) W
      have hs2 := fun W => slice_head (some ⟨g, 0, none⟩) N c k (by omega) W
      have hlk : (L.take k).length = k := by rw [List.length_take, HLN.out]; omega
      have CS := Lib.hid (fun nn => c_same ad5 (some ⟨g, 0, none⟩) c5 c k (L.take k) hlk (by omega) (w5.drewN nn) (fun j u hu => (HAK.out ▸ HO5.out.take k) j u hu) (fun j u hu => HOL5.out.take k j u hu))
      clear hlk
      go_quiet (first | (go_at_call 13; exact Calls.quiet_of (CS.out _)))
      rcases HNA.out with h1 | ⟨h1, h2⟩
      · subst h1
        go_wp2_with fail
        go_ret
        exact ⟨rfl, K5.out.drewN _⟩
      · subst h1
        obtain ⟨g5, rfl, b0⟩ := HO5.out _ _ (tok_at h2 (q := 0) rfl)
        have b1 := cell_at HO5.out (tok_at h2 (q := 1) rfl)
        have b2 := cell_at HO5.out (tok_at h2 (q := 2) rfl)
        have b3 := cell_at HO5.out (tok_at h2 (q := 3) rfl)
        rw [Nat.add_zero] at b0
        clear h2
        simp only [semiT] at b0 b1 b2 b3
        have z1 : ((k : Int) + 1 == k) = false := by simp; omega
        have z2 : (k : Int) < (k : Int) + 1 := by omega
        go_wp2_with fail
        go_ret
        exact ⟨rfl, K5.out.drewN _⟩
theorem law_ScanCuts (s : ByteArray) (n : Int) (w : World) (hs : s.size ≤ 140737488351232) (hn : 0 ≤ n ∧ n ≤ 65535) (he : ErrAt w) (hg : SignsAt w) (hm : MaxAt w) : Calls Tryd.prog 6 #[.string s, .int .u16 n] w fun e w' => e = .returned (.bool true) ∧ Kp w w' := by
  cases h : toksV s with
  | error x => exact cuts_err s n x w he hg hm h
  | ok L =>
    rcases Nat.eq_zero_or_pos L.length with h0 | h0
    · obtain rfl := List.length_eq_zero_iff.1 h0
      exact cuts_nil s n w he hg hm h
    · obtain ⟨k, hk, hkN⟩ : ∃ k : Nat, n % (L.length : Int) = (k : Int) ∧ k < L.length := by
        have h1 := Int.emod_nonneg n (b := (L.length : Int)) (by omega)
        have h2 := Int.emod_lt_of_pos n (b := (L.length : Int)) (by omega)
        exact ⟨(n % (L.length : Int)).toNat, by omega, by omega⟩
      obtain ⟨t, ht⟩ : ∃ t, L[k]? = some t := ⟨L[k], by simp [hkN]⟩
      by_cases hx : t.text = ⟨#[]⟩
      · exact cuts_semi s n L k L.length t w hn he hg hm h rfl h0 hk hkN ht hx
      · obtain ⟨a, B, hp, has, hB, hBL, hA⟩ := toks_cut h ht hx
        have hl : (L.take k).length = k := by rw [List.length_take]; omega
        rcases hA with hA | hA
        · exact cuts_main s n L (L.take k) B a k L.length k t w hn he hg hm h rfl h0 hk hkN ht hx hp has hB hBL hA hl (by rw [List.take_take, Nat.min_self]) (.inl rfl)
        · exact cuts_main s n L (L.take k ++ [semiT a]) B a k L.length (k + 1) t w hn he hg hm h rfl h0 hk hkN ht hx hp has hB hBL hA (by rw [List.length_append, hl]; rfl) (by rw [List.take_left' hl]) (.inr ⟨rfl, by rw [List.getElem?_append_right (by omega), hl, Nat.sub_self]; rfl⟩)
end Go.Proofs.YtjpmgloofcgfnaaDoor
