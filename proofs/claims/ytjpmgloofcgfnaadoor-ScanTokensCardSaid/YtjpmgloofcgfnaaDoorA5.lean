/- Number of the reference: the plain function. No condition. -/
import Derived.Test.YtjpmgloofcgfnaaDoorA4
namespace Go.Proofs.YtjpmgloofcgfnaaDoor
open Go.RowKit
set_option linter.unusedVariables false
set_option linter.unusedSimpArgs false

theorem size_list (s : ByteArray) : s.data.toList.length = s.size := Array.length_toList
theorem drop_at {s : ByteArray} {k : Nat} (h : k < s.size) : s.data.toList.drop k = (s[k]'h) :: s.data.toList.drop (k + 1) := by
  have h' : k < s.data.toList.length := by rw [size_list]; exact h
  rw [List.drop_eq_getElem_cons h']
  rfl
theorem drop_end {s : ByteArray} {k : Nat} (h : s.size ≤ k) : s.data.toList.drop k = [] := List.drop_eq_nil_of_le (by rw [size_list]; exact h)
theorem nmV_eq (b : Nat) (l : List UInt8) : nmV b l = if l = [] then ((0 : Int), (4 : Int)) else if l.all (dgB b) = true then (match pu b 0 l with | some n => ((n : Int), 0) | none => (0, 6)) else (0, 4) := rfl
theorem nmV_bad {b : Nat} {l : List UInt8} (h : l.all (dgB b) = false) : nmV b l = (0, 4) := by
  rw [nmV_eq]
  split
  · rfl
  · rw [h]; rfl
theorem nmV_ok {b n : Nat} {l : List UInt8} (h0 : l ≠ []) (h : l.all (dgB b) = true) (hp : pu b 0 l = some n) : nmV b l = ((n : Int), 0) := by rw [nmV_eq, if_neg h0, if_pos h, hp]
theorem nmV_large {b : Nat} {l : List UInt8} (h0 : l ≠ []) (h : l.all (dgB b) = true) (hp : pu b 0 l = none) : nmV b l = (0, 6) := by rw [nmV_eq, if_neg h0, if_pos h, hp]
theorem numV_16 {s : ByteArray} (h : 2 ≤ s.size) (h0 : (s[0]'(by omega)).toNat = 48) (h1 : (s[1]'(by omega)).toNat = 120) : numV s.data.toList = nmV 16 (s.data.toList.drop 2) := by
  have e0 := drop_at (s := s) (k := 0) (by omega)
  have e1 := drop_at (s := s) (k := 1) (by omega)
  simp only [List.drop_zero, Nat.zero_add] at e0
  have c0 : (s[0]'(by omega)) = 48 := UInt8.toNat_inj.1 h0
  have c1 : (s[1]'(by omega)) = 120 := UInt8.toNat_inj.1 h1
  rw [e0, e1, c0, c1]
  rfl
theorem numV_bad {s : ByteArray} (h : 2 ≤ s.size) (h0 : (s[0]'(by omega)).toNat = 48) (h1 : (s[1]'(by omega)).toNat ≠ 120) : numV s.data.toList = (0, 4) := by
  have e0 := drop_at (s := s) (k := 0) (by omega)
  have e1 := drop_at (s := s) (k := 1) (by omega)
  simp only [List.drop_zero, Nat.zero_add] at e0
  have c0 : (s[0]'(by omega)) = 48 := UInt8.toNat_inj.1 h0
  have c1 : ¬ (s[1]'(by omega)) = 120 := fun e => h1 (by rw [e]; rfl)
  rw [e0, e1, c0]
  simp only [numV, if_neg c1]
theorem numV_10 {s : ByteArray} (h : s.size < 2 ∨ ∃ hh : 0 < s.size, (s[0]'hh).toNat ≠ 48) : numV s.data.toList = nmV 10 (s.data.toList.drop 0) := by
  rw [List.drop_zero]
  have hl := size_list s
  match hm : s.data.toList with
  | [] => rfl
  | [c] => simp only [numV]
  | 48 :: c :: r =>
    exfalso
    rcases h with h | ⟨hh, h⟩
    · rw [hm] at hl; simp at hl; omega
    · have e0 := drop_at (s := s) (k := 0) hh
      simp only [List.drop_zero] at e0
      rw [hm] at e0
      injection e0 with e0 _
      exact h (by rw [← e0]; rfl)
  | a :: c :: r =>
    by_cases ha : a = 48
    · subst ha
      exfalso
      rcases h with h | ⟨hh, h⟩
      · rw [hm] at hl; simp at hl; omega
      · have e0 := drop_at (s := s) (k := 0) hh
        simp only [List.drop_zero] at e0
        rw [hm] at e0
        injection e0 with e0 _
        exact h (by rw [← e0]; rfl)
    · unfold numV
      split
      · rename_i heq; injection heq with h1 h2; exact absurd h1 ha
      · rfl
set_option maxHeartbeats 3200000 in
set_option maxRecDepth 100000 in
theorem rnum_1 (s : ByteArray) (w : World) (hs : s.size ≤ 140737488351232) (h1 : s.size = 1) :
    Calls Tryd.prog 15 #[.string s] w fun e w' => e = .returned (numT (numV s.data.toList)) ∧ w = w' := by
  have hnv := numV_10 (s := s) (.inl (by omega))
  have i2 : (s.size : Int) = 1 := by omega
  have hne : s.data.toList.drop 0 ≠ [] := by rw [drop_at (show 0 < s.size by omega)]; simp
  have HNE := Lib.hid hne
  have HNV := Lib.hid hnv
  clear hne hnv
  obtain ⟨l, hl⟩ : ∃ l, l = s.data.toList := ⟨_, rfl⟩
  have HD := Lib.hid (fun (k : Nat) (h : k < s.size) => drop_at h)
  have HDE := Lib.hid (drop_end (s := s) (Nat.le_refl _))
  rw [← hl] at HNE HNV HD HDE ⊢
  clear hl
  go_enter Tryd.func15, Tryd.ntmps15
  go_wp2_with fail
  go_loop [6, 7, 8] (fun n lg i => ∃ (k : Nat) (a : Int) (g : Bool), 0 ≤ k ∧ k ≤ s.size ∧ i = .int .i64 k ∧ n = .int .u64 a ∧ lg = .bool g ∧ Hid (0 ≤ a ∧ a < 18446744073709551616 ∧ (l.drop 0).all (dgB 10) = (l.drop k).all (dgB 10) ∧ (g = false → ∃ acc : Nat, a = acc ∧ pu 10 0 (l.drop 0) = pu 10 acc (l.drop k)) ∧ (g = true → pu 10 0 (l.drop 0) = none))) (fun _ _ i => s.size - (intOf i).toNat)
  case atStart => exact ⟨0, 0, false, by omega, by omega, rfl, rfl, rfl, Lib.hid ⟨by omega, by omega, rfl, fun _ => ⟨0, rfl, rfl⟩, (fun h => by cases h)⟩⟩
  case round =>
    obtain ⟨k, a, g, hF, hk, rfl, rfl, rfl, HA⟩ := hrel
    obtain ⟨ha0, ha1, _, _, _⟩ := HA.out
    by_cases hlt : k < s.size
    · obtain ⟨c, hc⟩ : ∃ c, (s[k]'hlt).toNat = c := ⟨_, rfl⟩
      have hc2 : c < 256 := by rw [← hc]; exact (s[k]'hlt).toNat_lt
      have HC := Lib.hid hc
      cases hdg : isDg 10 c with
      | false =>
        have HV := Lib.hid (show dgR 10 c = -1 by unfold dgR; rw [hdg]; rfl)
        have HF := Lib.hid (show numT (numV l) = .tuple #[.int .u64 0, .int .i64 4] by
          rw [HNV.out, nmV_bad (by rw [HA.out.2.2.1, HD.out k hlt, List.all_cons, show dgB 10 (s[k]'hlt) = false by unfold dgB; rw [hc]; exact hdg]; rfl)]; rfl)
        clear hdg
        go_wp2_with (first | (go_at_call 32; refine (c_value c 10 (.inl rfl) hc2 _).mono ?_; rintro e w' ⟨rfl, rfl⟩; rw [HV.out]))
        go_ret2
        exact ⟨(congrArg Ending.returned HF.out).symm, rfl⟩
      | true =>
        obtain ⟨d, hd⟩ : ∃ d : Nat, dgV c = d := ⟨_, rfl⟩
        have hdlt : d < 10 := by rw [← hd]; exact dgV_lt (.inl rfl) hdg
        have HV := Lib.hid (show dgR 10 c = (d : Int) by unfold dgR; rw [hdg, hd]; rfl)
        have HP := Lib.hid (fun acc => show pu 10 acc (l.drop k) = if 18446744073709551616 ≤ acc * 10 + d then none else pu 10 (acc * 10 + d) (l.drop (k + 1)) by rw [HD.out k hlt, pu, hc, hd])
        have HL := Lib.hid (show (l.drop k).all (dgB 10) = (l.drop (k + 1)).all (dgB 10) by rw [HD.out k hlt, List.all_cons, show dgB 10 (s[k]'hlt) = true by unfold dgB; rw [hc]; exact hdg, Bool.true_and])
        clear hd hdg
        by_cases hov : 18446744073709551616 ≤ a * 10 + d
        · have t : (18446744073709551615 - (d : Int)) / 10 < a := by omega
          go_wp2_with (first | (go_at_call 32; refine (c_value c 10 (.inl rfl) hc2 _).mono ?_; rintro e w' ⟨rfl, rfl⟩; rw [HV.out]))
          go_round
          case measure => simp [intOf]; omega
          case rel =>
           refine ⟨k + 1, (d : Int), true, by omega, by omega, by go_num, rfl, rfl, Lib.hid ⟨by omega, by omega, HA.out.2.2.1.trans HL.out, (fun h => by cases h), fun _ => ?_⟩⟩
           cases g with
           | true => exact HA.out.2.2.2.2 rfl
           | false =>
            obtain ⟨acc, h1, h2⟩ := HA.out.2.2.2.1 rfl
            rw [h2, HP.out, if_pos (by omega)]
        · have t : a ≤ (18446744073709551615 - (d : Int)) / 10 := by omega
          have t2 : a * 10 + d < 18446744073709551616 := by omega
          go_wp2_with (first | (go_at_call 32; refine (c_value c 10 (.inl rfl) hc2 _).mono ?_; rintro e w' ⟨rfl, rfl⟩; rw [HV.out]))
          go_round
          case measure => simp [intOf]; omega
          case rel =>
           refine ⟨k + 1, a * 10 + d, g, by omega, by omega, by go_num, rfl, rfl, Lib.hid ⟨by omega, by omega, HA.out.2.2.1.trans HL.out, fun hg => ?_, fun hg => HA.out.2.2.2.2 hg⟩⟩
           obtain ⟨acc, h1, h2⟩ := HA.out.2.2.2.1 hg
           exact ⟨acc * 10 + d, by rw [h1]; push_cast; rfl, by rw [h2, HP.out, if_neg (by omega)]⟩
    · obtain rfl : k = s.size := by omega
      have HE := Lib.hid (show (l.drop 0).all (dgB 10) = true by rw [HA.out.2.2.1, HDE.out]; rfl)
      cases g with
      | true =>
        have HF := Lib.hid (show numT (numV l) = .tuple #[.int .u64 0, .int .i64 6] by rw [HNV.out, nmV_large HNE.out HE.out (HA.out.2.2.2.2 rfl)]; rfl)
        go_wp2_with fail
        go_ret2
        exact ⟨(congrArg Ending.returned HF.out).symm, rfl⟩
      | false =>
        have HF := Lib.hid (show numT (numV l) = .tuple #[.int .u64 a, .int .i64 0] by
          obtain ⟨acc, h1, h2⟩ := HA.out.2.2.2.1 rfl
          rw [HNV.out, nmV_ok (n := acc) HNE.out HE.out (by rw [h2, HDE.out]; rfl), h1]; rfl)
        go_wp2_with fail
        go_ret2
        exact ⟨(congrArg Ending.returned HF.out).symm, rfl⟩
set_option maxHeartbeats 3200000 in
set_option maxRecDepth 100000 in
theorem rnum_2 (s : ByteArray) (w : World) (hs : s.size ≤ 140737488351232) (h1 : 2 ≤ s.size) (h0 : (s[0]'(by omega)).toNat ≠ 48) :
    Calls Tryd.prog 15 #[.string s] w fun e w' => e = .returned (numT (numV s.data.toList)) ∧ w = w' := by
  have hnv := numV_10 (s := s) (.inr ⟨by omega, h0⟩)
  have i2 : (2 : Int) ≤ s.size := by omega
  have i3 : 0 < s.size := by omega
  have q0 : (((s[0]'(by omega)).toNat : Int) == 48) = false := beq_eq_false_iff_ne.2 (by omega)
  have q3 : ((0 : Int) == (s.size : Int)) = false := beq_eq_false_iff_ne.2 (by omega)
  clear h0
  have hne : s.data.toList.drop 0 ≠ [] := by rw [drop_at (show 0 < s.size by omega)]; simp
  have HNE := Lib.hid hne
  have HNV := Lib.hid hnv
  clear hne hnv
  obtain ⟨l, hl⟩ : ∃ l, l = s.data.toList := ⟨_, rfl⟩
  have HD := Lib.hid (fun (k : Nat) (h : k < s.size) => drop_at h)
  have HDE := Lib.hid (drop_end (s := s) (Nat.le_refl _))
  rw [← hl] at HNE HNV HD HDE ⊢
  clear hl
  go_enter Tryd.func15, Tryd.ntmps15
  go_wp2_with fail
  go_loop [6, 7, 8] (fun n lg i => ∃ (k : Nat) (a : Int) (g : Bool), 0 ≤ k ∧ k ≤ s.size ∧ i = .int .i64 k ∧ n = .int .u64 a ∧ lg = .bool g ∧ Hid (0 ≤ a ∧ a < 18446744073709551616 ∧ (l.drop 0).all (dgB 10) = (l.drop k).all (dgB 10) ∧ (g = false → ∃ acc : Nat, a = acc ∧ pu 10 0 (l.drop 0) = pu 10 acc (l.drop k)) ∧ (g = true → pu 10 0 (l.drop 0) = none))) (fun _ _ i => s.size - (intOf i).toNat)
  case atStart => exact ⟨0, 0, false, by omega, by omega, rfl, rfl, rfl, Lib.hid ⟨by omega, by omega, rfl, fun _ => ⟨0, rfl, rfl⟩, (fun h => by cases h)⟩⟩
  case round =>
    obtain ⟨k, a, g, hF, hk, rfl, rfl, rfl, HA⟩ := hrel
    obtain ⟨ha0, ha1, _, _, _⟩ := HA.out
    by_cases hlt : k < s.size
    · obtain ⟨c, hc⟩ : ∃ c, (s[k]'hlt).toNat = c := ⟨_, rfl⟩
      have hc2 : c < 256 := by rw [← hc]; exact (s[k]'hlt).toNat_lt
      have HC := Lib.hid hc
      cases hdg : isDg 10 c with
      | false =>
        have HV := Lib.hid (show dgR 10 c = -1 by unfold dgR; rw [hdg]; rfl)
        have HF := Lib.hid (show numT (numV l) = .tuple #[.int .u64 0, .int .i64 4] by
          rw [HNV.out, nmV_bad (by rw [HA.out.2.2.1, HD.out k hlt, List.all_cons, show dgB 10 (s[k]'hlt) = false by unfold dgB; rw [hc]; exact hdg]; rfl)]; rfl)
        clear hdg
        go_wp2_with (first | (go_at_call 32; refine (c_value c 10 (.inl rfl) hc2 _).mono ?_; rintro e w' ⟨rfl, rfl⟩; rw [HV.out]))
        go_ret2
        exact ⟨(congrArg Ending.returned HF.out).symm, rfl⟩
      | true =>
        obtain ⟨d, hd⟩ : ∃ d : Nat, dgV c = d := ⟨_, rfl⟩
        have hdlt : d < 10 := by rw [← hd]; exact dgV_lt (.inl rfl) hdg
        have HV := Lib.hid (show dgR 10 c = (d : Int) by unfold dgR; rw [hdg, hd]; rfl)
        have HP := Lib.hid (fun acc => show pu 10 acc (l.drop k) = if 18446744073709551616 ≤ acc * 10 + d then none else pu 10 (acc * 10 + d) (l.drop (k + 1)) by rw [HD.out k hlt, pu, hc, hd])
        have HL := Lib.hid (show (l.drop k).all (dgB 10) = (l.drop (k + 1)).all (dgB 10) by rw [HD.out k hlt, List.all_cons, show dgB 10 (s[k]'hlt) = true by unfold dgB; rw [hc]; exact hdg, Bool.true_and])
        clear hd hdg
        by_cases hov : 18446744073709551616 ≤ a * 10 + d
        · have t : (18446744073709551615 - (d : Int)) / 10 < a := by omega
          go_wp2_with (first | (go_at_call 32; refine (c_value c 10 (.inl rfl) hc2 _).mono ?_; rintro e w' ⟨rfl, rfl⟩; rw [HV.out]))
          go_round
          case measure => simp [intOf]; omega
          case rel =>
           refine ⟨k + 1, (d : Int), true, by omega, by omega, by go_num, rfl, rfl, Lib.hid ⟨by omega, by omega, HA.out.2.2.1.trans HL.out, (fun h => by cases h), fun _ => ?_⟩⟩
           cases g with
           | true => exact HA.out.2.2.2.2 rfl
           | false =>
            obtain ⟨acc, h1, h2⟩ := HA.out.2.2.2.1 rfl
            rw [h2, HP.out, if_pos (by omega)]
        · have t : a ≤ (18446744073709551615 - (d : Int)) / 10 := by omega
          have t2 : a * 10 + d < 18446744073709551616 := by omega
          go_wp2_with (first | (go_at_call 32; refine (c_value c 10 (.inl rfl) hc2 _).mono ?_; rintro e w' ⟨rfl, rfl⟩; rw [HV.out]))
          go_round
          case measure => simp [intOf]; omega
          case rel =>
           refine ⟨k + 1, a * 10 + d, g, by omega, by omega, by go_num, rfl, rfl, Lib.hid ⟨by omega, by omega, HA.out.2.2.1.trans HL.out, fun hg => ?_, fun hg => HA.out.2.2.2.2 hg⟩⟩
           obtain ⟨acc, h1, h2⟩ := HA.out.2.2.2.1 hg
           exact ⟨acc * 10 + d, by rw [h1]; push_cast; rfl, by rw [h2, HP.out, if_neg (by omega)]⟩
    · obtain rfl : k = s.size := by omega
      have HE := Lib.hid (show (l.drop 0).all (dgB 10) = true by rw [HA.out.2.2.1, HDE.out]; rfl)
      cases g with
      | true =>
        have HF := Lib.hid (show numT (numV l) = .tuple #[.int .u64 0, .int .i64 6] by rw [HNV.out, nmV_large HNE.out HE.out (HA.out.2.2.2.2 rfl)]; rfl)
        go_wp2_with fail
        go_ret2
        exact ⟨(congrArg Ending.returned HF.out).symm, rfl⟩
      | false =>
        have HF := Lib.hid (show numT (numV l) = .tuple #[.int .u64 a, .int .i64 0] by
          obtain ⟨acc, h1, h2⟩ := HA.out.2.2.2.1 rfl
          rw [HNV.out, nmV_ok (n := acc) HNE.out HE.out (by rw [h2, HDE.out]; rfl), h1]; rfl)
        go_wp2_with fail
        go_ret2
        exact ⟨(congrArg Ending.returned HF.out).symm, rfl⟩
set_option maxHeartbeats 3200000 in
set_option maxRecDepth 100000 in
theorem rnum_16 (s : ByteArray) (w : World) (hs : s.size ≤ 140737488351232) (h1 : 3 ≤ s.size) (h0 : (s[0]'(by omega)).toNat = 48) (hx : (s[1]'(by omega)).toNat = 120) :
    Calls Tryd.prog 15 #[.string s] w fun e w' => e = .returned (numT (numV s.data.toList)) ∧ w = w' := by
  have hnv := numV_16 (s := s) (by omega) h0 hx
  have i2 : (2 : Int) ≤ s.size := by omega
  have i3 : 0 < s.size := by omega
  have i4 : (1 : Int) < s.size := by omega
  have q0 : (((s[0]'(by omega)).toNat : Int) == 48) = true := beq_iff_eq.2 (by omega)
  have q1 : (((s[1]'(by omega)).toNat : Int) != 120) = false := by rw [hx]; rfl
  have q2 : ((2 : Int) == (s.size : Int)) = false := beq_eq_false_iff_ne.2 (by omega)
  clear h0 hx
  have hne : s.data.toList.drop 2 ≠ [] := by rw [drop_at (show 2 < s.size by omega)]; simp
  have HNE := Lib.hid hne
  have HNV := Lib.hid hnv
  clear hne hnv
  obtain ⟨l, hl⟩ : ∃ l, l = s.data.toList := ⟨_, rfl⟩
  have HD := Lib.hid (fun (k : Nat) (h : k < s.size) => drop_at h)
  have HDE := Lib.hid (drop_end (s := s) (Nat.le_refl _))
  rw [← hl] at HNE HNV HD HDE ⊢
  clear hl
  go_enter Tryd.func15, Tryd.ntmps15
  go_wp2_with fail
  go_loop [6, 7, 8] (fun n lg i => ∃ (k : Nat) (a : Int) (g : Bool), 2 ≤ k ∧ k ≤ s.size ∧ i = .int .i64 k ∧ n = .int .u64 a ∧ lg = .bool g ∧ Hid (0 ≤ a ∧ a < 18446744073709551616 ∧ (l.drop 2).all (dgB 16) = (l.drop k).all (dgB 16) ∧ (g = false → ∃ acc : Nat, a = acc ∧ pu 16 0 (l.drop 2) = pu 16 acc (l.drop k)) ∧ (g = true → pu 16 0 (l.drop 2) = none))) (fun _ _ i => s.size - (intOf i).toNat)
  case atStart => exact ⟨2, 0, false, by omega, by omega, rfl, rfl, rfl, Lib.hid ⟨by omega, by omega, rfl, fun _ => ⟨0, rfl, rfl⟩, (fun h => by cases h)⟩⟩
  case round =>
    obtain ⟨k, a, g, hF, hk, rfl, rfl, rfl, HA⟩ := hrel
    obtain ⟨ha0, ha1, _, _, _⟩ := HA.out
    by_cases hlt : k < s.size
    · obtain ⟨c, hc⟩ : ∃ c, (s[k]'hlt).toNat = c := ⟨_, rfl⟩
      have hc2 : c < 256 := by rw [← hc]; exact (s[k]'hlt).toNat_lt
      have HC := Lib.hid hc
      cases hdg : isDg 16 c with
      | false =>
        have HV := Lib.hid (show dgR 16 c = -1 by unfold dgR; rw [hdg]; rfl)
        have HF := Lib.hid (show numT (numV l) = .tuple #[.int .u64 0, .int .i64 4] by
          rw [HNV.out, nmV_bad (by rw [HA.out.2.2.1, HD.out k hlt, List.all_cons, show dgB 16 (s[k]'hlt) = false by unfold dgB; rw [hc]; exact hdg]; rfl)]; rfl)
        clear hdg
        go_wp2_with (first | (go_at_call 32; refine (c_value c 16 (.inr rfl) hc2 _).mono ?_; rintro e w' ⟨rfl, rfl⟩; rw [HV.out]))
        go_ret2
        exact ⟨(congrArg Ending.returned HF.out).symm, rfl⟩
      | true =>
        obtain ⟨d, hd⟩ : ∃ d : Nat, dgV c = d := ⟨_, rfl⟩
        have hdlt : d < 16 := by rw [← hd]; exact dgV_lt (.inr rfl) hdg
        have HV := Lib.hid (show dgR 16 c = (d : Int) by unfold dgR; rw [hdg, hd]; rfl)
        have HP := Lib.hid (fun acc => show pu 16 acc (l.drop k) = if 18446744073709551616 ≤ acc * 16 + d then none else pu 16 (acc * 16 + d) (l.drop (k + 1)) by rw [HD.out k hlt, pu, hc, hd])
        have HL := Lib.hid (show (l.drop k).all (dgB 16) = (l.drop (k + 1)).all (dgB 16) by rw [HD.out k hlt, List.all_cons, show dgB 16 (s[k]'hlt) = true by unfold dgB; rw [hc]; exact hdg, Bool.true_and])
        clear hd hdg
        by_cases hov : 18446744073709551616 ≤ a * 16 + d
        · have t : (18446744073709551615 - (d : Int)) / 16 < a := by omega
          go_wp2_with (first | (go_at_call 32; refine (c_value c 16 (.inr rfl) hc2 _).mono ?_; rintro e w' ⟨rfl, rfl⟩; rw [HV.out]))
          go_round
          case measure => simp [intOf]; omega
          case rel =>
           refine ⟨k + 1, (d : Int), true, by omega, by omega, by go_num, rfl, rfl, Lib.hid ⟨by omega, by omega, HA.out.2.2.1.trans HL.out, (fun h => by cases h), fun _ => ?_⟩⟩
           cases g with
           | true => exact HA.out.2.2.2.2 rfl
           | false =>
            obtain ⟨acc, h1, h2⟩ := HA.out.2.2.2.1 rfl
            rw [h2, HP.out, if_pos (by omega)]
        · have t : a ≤ (18446744073709551615 - (d : Int)) / 16 := by omega
          have t2 : a * 16 + d < 18446744073709551616 := by omega
          go_wp2_with (first | (go_at_call 32; refine (c_value c 16 (.inr rfl) hc2 _).mono ?_; rintro e w' ⟨rfl, rfl⟩; rw [HV.out]))
          go_round
          case measure => simp [intOf]; omega
          case rel =>
           refine ⟨k + 1, a * 16 + d, g, by omega, by omega, by go_num, rfl, rfl, Lib.hid ⟨by omega, by omega, HA.out.2.2.1.trans HL.out, fun hg => ?_, fun hg => HA.out.2.2.2.2 hg⟩⟩
           obtain ⟨acc, h1, h2⟩ := HA.out.2.2.2.1 hg
           exact ⟨acc * 16 + d, by rw [h1]; push_cast; rfl, by rw [h2, HP.out, if_neg (by omega)]⟩
    · obtain rfl : k = s.size := by omega
      have HE := Lib.hid (show (l.drop 2).all (dgB 16) = true by rw [HA.out.2.2.1, HDE.out]; rfl)
      cases g with
      | true =>
        have HF := Lib.hid (show numT (numV l) = .tuple #[.int .u64 0, .int .i64 6] by rw [HNV.out, nmV_large HNE.out HE.out (HA.out.2.2.2.2 rfl)]; rfl)
        go_wp2_with fail
        go_ret2
        exact ⟨(congrArg Ending.returned HF.out).symm, rfl⟩
      | false =>
        have HF := Lib.hid (show numT (numV l) = .tuple #[.int .u64 a, .int .i64 0] by
          obtain ⟨acc, h1, h2⟩ := HA.out.2.2.2.1 rfl
          rw [HNV.out, nmV_ok (n := acc) HNE.out HE.out (by rw [h2, HDE.out]; rfl), h1]; rfl)
        go_wp2_with fail
        go_ret2
        exact ⟨(congrArg Ending.returned HF.out).symm, rfl⟩
set_option maxHeartbeats 1600000 in
theorem c_rNumber (s : ByteArray) (w : World) (hs : s.size ≤ 140737488351232) :
    Calls Tryd.prog 15 #[.string s] w fun e w' => e = .returned (numT (numV s.data.toList)) ∧ w = w' := by
  by_cases h1 : s.size = 1
  · exact rnum_1 s w hs h1
  by_cases h2 : 2 ≤ s.size
  · by_cases h0 : (s[0]'(by omega)).toNat = 48
    · by_cases hx : (s[1]'(by omega)).toNat = 120
      · by_cases h3 : 3 ≤ s.size
        · exact rnum_16 s w hs h3 h0 hx
        · rw [numV_16 h2 h0 hx, drop_end (by omega), show numT (nmV 16 []) = .tuple #[.int .u64 0, .int .i64 4] from rfl]
          have i2 : (2 : Int) ≤ s.size := by omega
          have i4 : (1 : Int) < s.size := by omega
          have q0 : (((s[0]'(by omega)).toNat : Int) == 48) = true := beq_iff_eq.2 (by omega)
          have q1 : (((s[1]'(by omega)).toNat : Int) != 120) = false := by rw [hx]; rfl
          have q2 : ((2 : Int) == (s.size : Int)) = true := beq_iff_eq.2 (by omega)
          clear hx h1
          go_enter Tryd.func15, Tryd.ntmps15
          go_wp2_with fail
          go_ret2
          exact ⟨rfl, rfl⟩
      · rw [numV_bad h2 h0 hx, show numT (0, 4) = .tuple #[.int .u64 0, .int .i64 4] from rfl]
        have i2 : (2 : Int) ≤ s.size := by omega
        have i4 : (1 : Int) < s.size := by omega
        have q0 : (((s[0]'(by omega)).toNat : Int) == 48) = true := beq_iff_eq.2 (by omega)
        have q1 : (((s[1]'(by omega)).toNat : Int) != 120) = true := bne_iff_ne.2 (by omega)
        clear hx h1
        go_enter Tryd.func15, Tryd.ntmps15
        go_wp2_with fail
        go_ret2
        exact ⟨rfl, rfl⟩
    · exact rnum_2 s w hs h2 h0
  · rw [numV_10 (.inl (by omega)), drop_end (by omega), show numT (nmV 10 []) = .tuple #[.int .u64 0, .int .i64 4] from rfl]
    have i2 : (s.size : Int) = 0 := by omega
    clear h1 h2
    go_enter Tryd.func15, Tryd.ntmps15
    go_wp2_with fail
    go_ret2
    exact ⟨rfl, rfl⟩
end Go.Proofs.YtjpmgloofcgfnaaDoor
