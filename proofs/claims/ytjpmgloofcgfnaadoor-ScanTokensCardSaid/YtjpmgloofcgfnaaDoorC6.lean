/- The walk of ScanBlanks, where the text has tokens. Condition: the library's variables hold what they must. -/
import Derived.Test.YtjpmgloofcgfnaaDoorC5
import Derived.Deep.QuietTactic
import Derived.BigQuiet
namespace Go.Proofs.YtjpmgloofcgfnaaDoor
open Go.RowKit
set_option linter.unusedVariables false
set_option linter.unusedSimpArgs false

/-- Tokens of a text that has them, as a slice whose cells lie somewhere. -/
theorem c_tokO (s : ByteArray) (L : List Tk) (N : Nat) (hN : L.length = N) (w : World) (h : toksV s = .ok L) (he : ErrAt w) (hg : SignsAt w) (hm : MaxAt w) : Calls Tryd.prog 10 #[.string s] w fun e w' => ∃ ad c, e = .returned (.tuple #[.slice ad N c, .int .i64 0, .int .i64 0]) ∧ N ≤ 9223372036854775807 ∧ Kp w w' ∧
    Hid (∀ (j : Nat) (u : Value), (tkCells L)[j]? = some u → ∃ g, ad = some ⟨g, 0, none⟩ ∧ w'.cell? ⟨g, j, none⟩ = some u) :=
  (c_Tokens s w he hg hm).mono fun e w' hq => by
    rw [h] at hq
    obtain ⟨hk, v, rfl, hown⟩ := hq
    obtain ⟨ad, c, rfl, hmx, hcl⟩ := own_slice hown (tk_len L) (by decide)
    rw [hN] at hmx ⊢
    exact ⟨ad, c, rfl, le_max rfl hmx, hk, Lib.hid hcl⟩
set_option maxHeartbeats 1600000 in
set_option maxRecDepth 1000000 in
theorem blanks_ok (s : ByteArray) (n : Int) (L : List Tk) (w : World) (hs : s.size ≤ 140737488351232) (hn : 0 ≤ n ∧ n ≤ 255) (he : ErrAt w) (hg : SignsAt w) (hm : MaxAt w) (h : toksV s = .ok L) : Calls Tryd.prog 9 #[.string s, .int .u8 n] w fun e w' => e = .returned (.bool true) ∧ Kp w w' := by
  have HE := Lib.hid he
  have HG := Lib.hid hg
  have HM := Lib.hid hm
  obtain ⟨N, hN⟩ : ∃ N, L.length = N := ⟨_, rfl⟩
  have CT := Lib.hid (c_tokO s L N hN w h he hg hm)
  have HX := Lib.hid h
  have HPOS := Lib.hid (toks_in h)
  have HN := Lib.hid hN
  obtain ⟨k, hk, hk9⟩ : ∃ k : Nat, (k : Int) = n % 9 ∧ k < 9 := ⟨(n % 9).toNat, by omega, by omega⟩
  have HK := Lib.hid hk
  obtain ⟨n0, n1⟩ := hn
  clear h he hg hm hk hN
  go_enter Tryd.func9, Tryd.ntmps9
  go_wp2_with (first | (go_at_call 10; refine (CT.out).mono ?_; rintro e w2 ⟨ad, c, rfl, hmx2, hk2, HO⟩; have K2 := Lib.hid hk2; clear hk2))
  rw [← HK.out]
  have HK0 := HK
  clear HK
  go_loopw [9, 10] (fun t i wq => ∃ j : Nat, j ≤ k ∧ i = .int .i64 j ∧ t = .string (blk j s) ∧ w2 = wq) (fun _ i _ => k - (intOf i).toNat)
  case atStart => exact ⟨0, by omega, rfl, rfl, rfl⟩
  case round =>
    obtain ⟨j, hj, rfl, rfl, rfl⟩ := hrel
    by_cases hlt : j < k
    · have z1 : ¬ (9223372036854775807 < 1 + (blk j s).size) := by rw [blk_size]; omega
      have i1 : (j : Int) < (k : Int) := by omega
      go_wp2_with fail
      go_roundw
      case rel => exact ⟨j + 1, by omega, by go_num, rfl, trivial⟩
      case measure => simp [intOf]; omega
    · obtain rfl : j = k := by omega
      by_cases hbig : 65536 ≤ (blk j s).size
      · have z1 : (65536 : Int) ≤ (((blk j s).size : Nat) : Int) := by omega
        go_wp2_with (first | (go_at_call 12; (with_reducible refine (c_answers _ (HE.out.keep K2.out) (HG.out.keep K2.out) (HM.out.keep K2.out)).mono ?_); rintro e w3 ⟨rfl, hk3⟩; have K3 := Lib.hid (K2.out.trans hk3); clear hk3; have HE3 := Lib.hid (HE.out.keep K3.out); have HG3 := Lib.hid (HG.out.keep K3.out); have HM3 := Lib.hid (HM.out.keep K3.out)) | (go_at_call 12; (with_reducible refine (c_answers _ HE3.out HG3.out HM3.out).mono ?_); rintro e w4 ⟨rfl, hk4⟩; have K4 := Lib.hid (K3.out.trans hk4); clear hk4))
        go_ret
        exact ⟨rfl, K4.out⟩
      · have z1 : (((blk j s).size : Nat) : Int) < 65536 := by omega
        have HX2 : Hid (toksV (blk j s) = .ok (L.map (sh j))) := Lib.hid (by rw [blk_toks j s (by omega), HX.out]; rfl)
        have HN2 : Hid ((L.map (sh j)).length = N) := Lib.hid (by rw [List.length_map, HN.out])
        have HSZ : Hid (s.size ≤ 65536) := Lib.hid (by rw [blk_size] at hbig; omega)
        clear hbig
        go_wp2_with (first | (go_at_call 12; (with_reducible refine (c_answers _ (HE.out.keep K2.out) (HG.out.keep K2.out) (HM.out.keep K2.out)).mono ?_); rintro e w3 ⟨rfl, hk3⟩; have K3 := Lib.hid hk3; have K3' := Lib.hid (K2.out.trans hk3); clear hk3; have HE3 := Lib.hid (HE.out.keep K3'.out); have HG3 := Lib.hid (HG.out.keep K3'.out); have HM3 := Lib.hid (HM.out.keep K3'.out)) | (go_at_call 10; (with_reducible refine (c_tokO (blk j s) (L.map (sh j)) N HN2.out _ HX2.out HE3.out HG3.out HM3.out).mono ?_); rintro e w4 ⟨ad2, c2, rfl, hmx4, hk4, HO2⟩; have K4 := Lib.hid (K3.out.trans hk4); have K4' := Lib.hid (K3'.out.trans hk4); clear hk4))
        go_loopw [14] (fun i wr => ∃ m : Nat, m ≤ N ∧ i = .int .i64 m ∧ Kp w4 wr) (fun i _ => N - (intOf i).toNat)
        case atStart => exact ⟨0, by omega, rfl, Kp.refl _⟩
        case round =>
          obtain ⟨m, hm, rfl, hkr⟩ := hrel
          have i1 : (0 : Int) ≤ (m : Int) := by omega
          by_cases hlt : m < N
          · obtain ⟨t, ht⟩ : ∃ t, L[m]? = some t := ⟨L[m]'(by have := HN.out; omega), by simp [HN.out, hlt]⟩
            have ht2 : (L.map (sh j))[m]? = some (sh j t) := by rw [List.getElem?_map, ht]; rfl
            obtain ⟨g, rfl, a0⟩ := HO.out _ _ (tok_at ht (q := 0) rfl)
            obtain ⟨g2, rfl, b0⟩ := HO2.out _ _ (tok_at ht2 (q := 0) rfl)
            have a0 := hkr.cellv (K4.out.cellv a0)
            have a1 := hkr.cellv (K4.out.cellv (cell_at HO.out (tok_at ht (q := 1) rfl)))
            have a2 := hkr.cellv (K4.out.cellv (cell_at HO.out (tok_at ht (q := 2) rfl)))
            have a3 := hkr.cellv (K4.out.cellv (cell_at HO.out (tok_at ht (q := 3) rfl)))
            have b0 := hkr.cellv b0
            have b1 := hkr.cellv (cell_at HO2.out (tok_at ht2 (q := 1) rfl))
            have b2 := hkr.cellv (cell_at HO2.out (tok_at ht2 (q := 2) rfl))
            have b3 := hkr.cellv (cell_at HO2.out (tok_at ht2 (q := 3) rfl))
            rw [Nat.add_zero] at a0 b0
            have hps := HPOS.out t (List.mem_of_getElem? ht)
            have hsz := HSZ.out
            clear ht ht2
            obtain ⟨tk, tx, tn, tp⟩ := t
            simp only [sh] at a0 a1 a2 a3 b0 b1 b2 b3 hps
            have hgl := lt_of_cell a0
            have hgl2 := lt_of_cell b0
            have i2 : (m : Int) < (N : Int) := by omega
            have i3 : IntKind.i64.wrap (tp + (j : Int) - (j : Int)) = tp := by rw [IntKind.wrap_i64]; omega
            go_wp2_with fail
            go_quiet (fail)
            go_wp2_with fail
            go_roundw
            case rel => exact ⟨m + 1, by omega, by go_num, (hkr.alloc _).drewN _⟩
            case measure => simp [intOf]; omega
          · obtain rfl : m = N := by omega
            go_wp2_with fail
            go_ret
            exact ⟨rfl, K4'.out.trans hkr⟩
theorem law_ScanBlanks (s : ByteArray) (n : Int) (w : World) (hs : s.size ≤ 140737488351232) (hn : 0 ≤ n ∧ n ≤ 255) (he : ErrAt w) (hg : SignsAt w) (hm : MaxAt w) : Calls Tryd.prog 9 #[.string s, .int .u8 n] w fun e w' => e = .returned (.bool true) ∧ Kp w w' := by
  cases h : toksV s with
  | error x => exact blanks_err s n x w hs hn he hg hm h
  | ok L => exact blanks_ok s n L w hs hn he hg hm h
end Go.Proofs.YtjpmgloofcgfnaaDoor
