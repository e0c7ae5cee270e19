/- The walk of UnifyFits. Condition: the names and the types lie in memory; no slice is longer than 1048576. -/
import Derived.Test.YtfjflfokmihcpaaVa
import Derived.Test.YtfjflfokmihcpaaUl
namespace Go.Proofs.Ytfjflfokmihcpaa
open Go.RowKit
set_option linter.unusedVariables false
set_option linter.unusedSimpArgs false
theorem knT_full {L : List ByteArray} {σ : St} {n : Nat} {s : ByteArray} (hn : n < L.length) (hs : L.getD n ByteArray.empty = s) : (knL L σ n).length ≤ n := by
  unfold knL
  have := List.length_filter_le (fun s => (σ s).isSome) (L.take n)
  rw [List.length_take] at this
  omega
theorem knL_le (L : List ByteArray) (σ : St) (n : Nat) : (knL L σ n).length ≤ L.length := by
  unfold knL
  have := List.length_filter_le (fun s => (σ s).isSome) (L.take n)
  rw [List.length_take] at this
  omega
theorem ok_facts {L : List ByteArray} {As Bs : List Ty} (h0 : uE L As Bs = 0) : allS As = true ∧ allS Bs = true ∧ L.Nodup ∧ As.length = Bs.length ∧ ∃ σ, found L As Bs = some σ := by
  cases hy : (allS As && allS Bs) with
  | false => rw [uE_form hy] at h0; cases h0
  | true =>
    have h1 := (Bool.and_eq_true_iff.1 hy)
    by_cases hn : L.Nodup ∧ As.length = Bs.length
    · cases hf : found L As Bs with
      | none => rw [uE_type hy hn hf] at h0; cases h0
      | some σ => exact ⟨h1.1, h1.2, hn.1, hn.2, σ, rfl⟩
    · rw [uE_arg hy hn] at h0; cases h0
theorem sameall_as (l : List Ty) (R R' : Nat) (aa ba : Option Addr) (ac bc : Nat) (K J : Nat → Hd) (n : Nat) (w : World) (hn : l.length = n) (hs : ∀ (i : Nat) (X : Ty), l[i]? = some X → (look 9 X).2.2 = true) (hA : LiesAll w A0 R l aa ac K) (hB : LiesAll w A0 R' l ba bc J) (hb : l.length * 104 ≤ 140737488351232) :
    Calls Try.prog 13 #[.slice aa n ac, .slice ba l.length bc] w fun e w' => e = .returned (.bool true) ∧ Kp w w' := by
  subst hn
  exact c_SameAll l R R' aa ba ac bc K J w (fun i X hx hy W hX h1 h2 => same_any R R' X hx hy W (.inl (hs i X hX)) h1 h2) hA hB hb
set_option maxHeartbeats 3200000 in
set_option maxRecDepth 100000 in
theorem fits_no (L : List ByteArray) (na : Option Addr) (nc : Nat) (R : Nat) (As : List Ty) (aa : Option Addr) (ac : Nat) (K : Nat → Hd) (R' : Nat) (Bs : List Ty) (ba : Option Addr) (bc : Nat) (J : Nat → Hd) (w : World)
    (ht : tab w A0 9 na L.length nc 1 (fun i => [.string (L.getD i ByteArray.empty)])) (hlc : L.length ≤ nc) (hL : ∀ s, s ∈ L → s.size ≤ 140737488351232) (hlL : L.length * 16 ≤ 140737488351232) (hnL : L.length ≤ 1048576)
    (hA : LiesAll w A0 R As aa ac K) (hlA : As.length * 104 ≤ 140737488351232) (hnA : As.length ≤ 1048576) (hB : LiesAll w A0 R' Bs ba bc J) (hlB : Bs.length * 104 ≤ 140737488351232) (hnB : Bs.length ≤ 1048576) (h0 : uE L As Bs ≠ 0) :
    Calls Try.prog 5 #[.slice na L.length nc, .slice aa As.length ac, .slice ba Bs.length bc] w fun e w' => e = .returned (.bool true) ∧ Kp w w' := by
  obtain ⟨q, hq⟩ : ∃ q, uE L As Bs = q := ⟨_, rfl⟩
  have HQ := Lib.hid hq
  have HN := Lib.hid (show (uRes L As Bs).length = 0 by rw [uRes_no h0]; rfl)
  rw [hq] at h0
  have hqb : (q != 0) = true := bne_iff_ne.2 h0
  obtain ⟨i2, hs, hx0, hx1, hx2⟩ := info_parts infoS
  have HT := Lib.hid ht
  have HL := Lib.hid hL
  have HA := Lib.hid hA
  have HB := Lib.hid hB
  have KS := Lib.hid (show Kp w (w.alloc (.cells #[] 9)) from (Kp.refl w).alloc _)
  have HO := Lib.hid (World.ownsRow_made w #[] 0 (Nat.le_refl _) (by unfold maxLen; omega) (by rfl) : (w.alloc (.cells #[] 9)).ownsRow w.heap.size 9 1 (.slice (some ⟨w.heap.size, 0, none⟩) 0 0) 0 [])
  have CA : Hid (∀ W, Kp w W → Calls Try.prog 10 #[.slice aa As.length ac] W fun e w' => ∃ ad c K, e = .returned (.slice ad As.length c) ∧ LiesAll w' A0 R As ad c K ∧ Kp W w') := Lib.hid (fun W k => (c_owns R As aa ac K W (hA.keep k) hlA).mono (fun e w' ⟨ad, c, K, e1, e2, e3⟩ => ⟨ad, c, K, e1, LiesAll.weak e2 (A0_le _), e3⟩))
  have CB : Hid (∀ W, Kp w W → Calls Try.prog 10 #[.slice ba Bs.length bc] W fun e w' => ∃ ad c K, e = .returned (.slice ad Bs.length c) ∧ LiesAll w' A0 R' Bs ad c K ∧ Kp W w') := Lib.hid (fun W k => (c_owns R' Bs ba bc J W (hB.keep k) hlB).mono (fun e w' ⟨ad, c, K, e1, e2, e3⟩ => ⟨ad, c, K, e1, LiesAll.weak e2 (A0_le _), e3⟩))
  have CU : Hid (∀ (na : Option Addr) (nc : Nat) (S : Sel) (aa : Option Addr) (ac : Nat) (K : Nat → Hd) (ba : Option Addr) (bc : Nat) (J : Nat → Hd) (W : World), tab W S 9 na L.length nc 1 (fun i => [.string (L.getD i ByteArray.empty)]) → LiesAll W A0 R As aa ac K → LiesAll W A0 R' Bs ba bc J → Calls Try.prog 9 #[.slice na L.length nc, .slice aa As.length ac, .slice ba Bs.length bc] W fun e w' => ∃ ad c K kd kc, e = .returned (.tuple #[.slice ad 0 c, .slice kd 0 kc, .int .i64 q]) ∧ Kp W w' ∧ LiesAll w' (From W.heap.size) 9 (uRes L As Bs) ad c K ∧ tab w' A0 4 kd 0 kc 1 (fun i => [.bool (kb (uRes L As Bs) i)])) := Lib.hid (fun na nc S aa ac K ba bc J W h1 h2 h3 => (c_Unify L na nc S R R' As Bs aa ac ba bc K J W h1 hL hlL h2 hlA h3 hlB (fun _ => by omega)).mono (fun e w' ⟨ad, c, K, kd, kc, e1, e2, e3, e4⟩ => ⟨ad, c, K, kd, kc, by rw [e1, HQ.out, HN.out], e2, e3, by rw [HN.out] at e4; exact e4.weak (A0_le _)⟩))
  clear ht hL hA hB
  clear hq h0
  go_enter Try.func5, Try.ntmps5
  go_wp2_with (first | ((with_reducible show wpList _ _ _ (⟨some 16, _, _, _, _, _⟩ :: _) _ _); refine wpList_append_tab (d := 16) _ _ 22 rfl w.heap.size 9 i2 _ 1 16 Try.underlying22 hs hx0 hx1 hx2 rfl (by decide) _ 0 _ (by rfl) HO.out w _ _ _ _ _ (by rfl) HT.out KS.out (fun _ => rfl) (fun _ u hu => by (rw [List.mem_singleton] at hu; subst hu; rfl)) (by unfold maxLen; omega) (by omega) (by simp) ?_; intro v1 w1 ho1 hg1; rw [Nat.zero_add, List.nil_append] at ho1; obtain ⟨na1, nc1, hv1, _, ht1, _⟩ := tab_of_owns ho1 (fun _ => rfl); subst hv1; have HT1 := Lib.hid ht1; have K1 := Lib.hid (KS.out.grown hg1 (fun k hk => by cases hk; exact Nat.le_refl _)); clear ht1 ho1 hg1) | (go_at_call 10; (with_reducible refine (CA.out _ K1.out).mono ?_); rintro e w2 ⟨aa1, ac1, KA1, rfl, hl1, hk2⟩; have HL1 := Lib.hid hl1; have K12 := Lib.hid hk2; have K2 := Lib.hid (K1.out.trans hk2); clear hl1 hk2) | (go_at_call 10; (with_reducible refine (CB.out _ K2.out).mono ?_); rintro e w3 ⟨ba1, bc1, KB1, rfl, hl2, hk3⟩; have HL2 := Lib.hid hl2; have K23 := Lib.hid hk3; have K3 := Lib.hid (K2.out.trans hk3); clear hl2 hk3) | (go_at_call 9; (with_reducible refine (CU.out _ _ _ _ _ _ _ _ _ _ (HT1.out.keep (K12.out.trans K23.out)) (HL1.out.keep K23.out) HL2.out).mono ?_); rintro e w4 ⟨ad, c, KR, kd, kc, rfl, hk4, hl4, ht4⟩; have K34 := Lib.hid hk4; have K4 := Lib.hid (K3.out.trans hk4); have HL4 := Lib.hid hl4; have HT4 := Lib.hid ht4; clear hk4 hl4 ht4) | (go_at_call 12; (with_reducible refine (c_answers w4).mono ?_); rintro e w5 ⟨rfl, hk5⟩; have K5 := Lib.hid (K4.out.trans hk5); clear hk5) | (go_at_call 12; (with_reducible refine (c_answers w5).mono ?_); rintro e w6 ⟨rfl, hk6⟩; have K6 := Lib.hid (K5.out.trans hk6); clear hk6))
  go_ret
  exact ⟨rfl, K6.out⟩
set_option maxHeartbeats 12800000 in
set_option maxRecDepth 100000 in
theorem fits_yes (L : List ByteArray) (na : Option Addr) (nc : Nat) (R : Nat) (As : List Ty) (aa : Option Addr) (ac : Nat) (K : Nat → Hd) (R' : Nat) (Bs : List Ty) (ba : Option Addr) (bc : Nat) (J : Nat → Hd) (w : World)
    (ht : tab w A0 9 na L.length nc 1 (fun i => [.string (L.getD i ByteArray.empty)])) (hlc : L.length ≤ nc) (hL : ∀ s, s ∈ L → s.size ≤ 140737488351232) (hlL : L.length * 16 ≤ 140737488351232) (hnL : L.length ≤ 1048576)
    (hA : LiesAll w A0 R As aa ac K) (hlA : As.length * 104 ≤ 140737488351232) (hnA : As.length ≤ 1048576) (hB : LiesAll w A0 R' Bs ba bc J) (hlB : Bs.length * 104 ≤ 140737488351232) (hnB : Bs.length ≤ 1048576) (h0 : uE L As Bs = 0) (sA : allS As = true) (sB : allS Bs = true) (σ : St) (hf : found L As Bs = some σ) :
    Calls Try.prog 5 #[.slice na L.length nc, .slice aa As.length ac, .slice ba Bs.length bc] w fun e w' => e = .returned (.bool true) ∧ Kp w w' := by
  have HQ := Lib.hid h0
  have HN := Lib.hid (show (uRes L As Bs).length = L.length by rw [uRes_ok h0, uArgs_len])
  have HF := Lib.hid hf
  have HFN := Lib.hid (found_fine sA sB hf)
  have HKB := Lib.hid (fun (n : Nat) (s : ByteArray) (hn : n < L.length) (hs : L.getD n ByteArray.empty = s) => kb_known (found_fine sA sB hf) hf h0 hn hs)
  have HFIT := Lib.hid (show As.map (fill (stand (knL L σ L.length) (knT L σ L.length)) 9) = Bs by
    rw [kn_stand (fun s T h => (found_fine sA sB hf s T h).1)]
    exact found_fit sA hf σ (Ext.refl σ) (fun s hs => by
      cases hx : σ s with
      | none => rfl
      | some T => exact absurd (found_fine sA sB hf s T hx).1 hs))
  have HA9 := Lib.hid (show LiesAll w A0 9 As aa ac K from ⟨hA.1, fun i X hX => lies_look (allS_at sA hX) (hA.2 i X hX)⟩)
  have HBS := Lib.hid (fun (i : Nat) (X : Ty) (hX : Bs[i]? = some X) => allS_at sB hX)
  obtain ⟨i0, hi, hz0, hz1, hz2⟩ := info_parts infoT
  obtain ⟨i2, hs, hx0, hx1, hx2⟩ := info_parts infoS
  have HT := Lib.hid ht
  have HL := Lib.hid hL
  have HA := Lib.hid hA
  have HB := Lib.hid hB
  have KS := Lib.hid (show Kp w (w.alloc (.cells #[] 9)) from (Kp.refl w).alloc _)
  have HO := Lib.hid (World.ownsRow_made w #[] 0 (Nat.le_refl _) (by unfold maxLen; omega) (by rfl) : (w.alloc (.cells #[] 9)).ownsRow w.heap.size 9 1 (.slice (some ⟨w.heap.size, 0, none⟩) 0 0) 0 [])
  have CA : Hid (∀ W, Kp w W → Calls Try.prog 10 #[.slice aa As.length ac] W fun e w' => ∃ ad c K, e = .returned (.slice ad As.length c) ∧ LiesAll w' A0 R As ad c K ∧ Kp W w') := Lib.hid (fun W k => (c_owns R As aa ac K W (hA.keep k) hlA).mono (fun e w' ⟨ad, c, K, e1, e2, e3⟩ => ⟨ad, c, K, e1, LiesAll.weak e2 (A0_le _), e3⟩))
  have CB : Hid (∀ W, Kp w W → Calls Try.prog 10 #[.slice ba Bs.length bc] W fun e w' => ∃ ad c K, e = .returned (.slice ad Bs.length c) ∧ LiesAll w' A0 R' Bs ad c K ∧ Kp W w') := Lib.hid (fun W k => (c_owns R' Bs ba bc J W (hB.keep k) hlB).mono (fun e w' ⟨ad, c, K, e1, e2, e3⟩ => ⟨ad, c, K, e1, LiesAll.weak e2 (A0_le _), e3⟩))
  have CU : Hid (∀ (na : Option Addr) (nc : Nat) (S : Sel) (aa : Option Addr) (ac : Nat) (K : Nat → Hd) (ba : Option Addr) (bc : Nat) (J : Nat → Hd) (W : World), tab W S 9 na L.length nc 1 (fun i => [.string (L.getD i ByteArray.empty)]) → LiesAll W A0 R As aa ac K → LiesAll W A0 R' Bs ba bc J → Calls Try.prog 9 #[.slice na L.length nc, .slice aa As.length ac, .slice ba Bs.length bc] W fun e w' => ∃ ad c K kd kc, e = .returned (.tuple #[.slice ad L.length c, .slice kd L.length kc, .int .i64 0]) ∧ Kp W w' ∧ LiesAll w' (From W.heap.size) 9 (uRes L As Bs) ad c K ∧ tab w' A0 4 kd L.length kc 1 (fun i => [.bool (kb (uRes L As Bs) i)])) := Lib.hid (fun na nc S aa ac K ba bc J W h1 h2 h3 => (c_Unify L na nc S R R' As Bs aa ac ba bc K J W h1 hL hlL h2 hlA h3 hlB (fun _ => by omega)).mono (fun e w' ⟨ad, c, K, kd, kc, e1, e2, e3, e4⟩ => ⟨ad, c, K, kd, kc, by rw [e1, HQ.out, HN.out], e2, e3, by rw [HN.out] at e4; exact e4.weak (A0_le _)⟩))
  clear ht hL hA hB
  clear h0 hf sA sB
  go_enter Try.func5, Try.ntmps5
  go_wp2_with (first | ((with_reducible show wpList _ _ _ (⟨some 16, _, _, _, _, _⟩ :: _) _ _); refine wpList_append_tab (d := 16) _ _ 22 rfl w.heap.size 9 i2 _ 1 16 Try.underlying22 hs hx0 hx1 hx2 rfl (by decide) _ 0 _ (by rfl) HO.out w _ _ _ _ _ (by rfl) HT.out KS.out (fun _ => rfl) (fun _ u hu => by (rw [List.mem_singleton] at hu; subst hu; rfl)) (by unfold maxLen; omega) (by omega) (by simp) ?_; intro v1 w1 ho1 hg1; rw [Nat.zero_add, List.nil_append] at ho1; obtain ⟨na1, nc1, hv1, _, ht1, _⟩ := tab_of_owns ho1 (fun _ => rfl); subst hv1; have HT1 := Lib.hid ht1; have K1 := Lib.hid (KS.out.grown hg1 (fun k hk => by cases hk; exact Nat.le_refl _)); clear ht1 ho1 hg1) | (go_at_call 10; (with_reducible refine (CA.out _ K1.out).mono ?_); rintro e w2 ⟨aa1, ac1, KA1, rfl, hl1, hk2⟩; have HL1 := Lib.hid hl1; have K12 := Lib.hid hk2; have K2 := Lib.hid (K1.out.trans hk2); clear hl1 hk2) | (go_at_call 10; (with_reducible refine (CB.out _ K2.out).mono ?_); rintro e w3 ⟨ba1, bc1, KB1, rfl, hl2, hk3⟩; have HL2 := Lib.hid hl2; have K23 := Lib.hid hk3; have K3 := Lib.hid (K2.out.trans hk3); clear hl2 hk3) | (go_at_call 9; (with_reducible refine (CU.out _ _ _ _ _ _ _ _ _ _ (HT1.out.keep (K12.out.trans K23.out)) (HL1.out.keep K23.out) HL2.out).mono ?_); rintro e w4 ⟨ad, c, KR, kd, kc, rfl, hk4, hl4, ht4⟩; have K34 := Lib.hid hk4; have K4 := Lib.hid (K3.out.trans hk4); have HL4 := Lib.hid hl4; have HT4 := Lib.hid ht4; clear hk4 hl4 ht4) | (go_at_call 12; (with_reducible refine (c_answers w4).mono ?_); rintro e w5 ⟨rfl, hk5⟩; have K45 := Lib.hid hk5; have K5 := Lib.hid (K4.out.trans hk5); clear hk5))
  go_loopw [10, 11, 12] (fun u v i wr => ∃ (n : Nat) (Kt : Nat → Hd), n ≤ L.length ∧ i = .int .i64 (n : Nat) ∧ rowS wr w5.heap.size u (knL L σ n) ∧ wr.ownsRow w5.heap.size 42 6 v (knT L σ n).length (flat (fun i => (Kt i).cells) (knT L σ n).length) ∧ (∀ (j : Nat) (X : Ty), (knT L σ n)[j]? = some X → Lies w5 A0 9 X (Kt j)) ∧ (u.ownBlock = none ∨ u.ownBlock ≠ v.ownBlock) ∧ (v.ownBlock = none ∨ v.ownBlock ≠ u.ownBlock) ∧ Kp w5 wr) (fun _ _ i _ => L.length - (intOf i).toNat)
  case atStart => exact ⟨0, K, by omega, rfl, rowS_nil _ _, by simpa [flat, knT, knL] using World.ownsRow_nil _ _ _ _, fun j X hX => by simp [knT, knL] at hX, .inl rfl, .inl rfl, Kp.refl _⟩
  case round =>
    obtain ⟨n, Kt, hn, rfl, hu, hv, hlk, hd1, hd2, hkr⟩ := hrel
    have HU := Lib.hid hu
    have HV := Lib.hid hv
    have HLK := Lib.hid hlk
    have HD1 := Lib.hid hd1
    have HD2 := Lib.hid hd2
    have HKR := Lib.hid hkr
    have hsz : w5.heap.size ≤ wr.heap.size := hkr.sz
    clear hu hv hlk hd1 hd2 hkr
    by_cases hlt : n < L.length
    · obtain ⟨sn, hsn⟩ : ∃ sn, L.getD n ByteArray.empty = sn := ⟨_, rfl⟩
      obtain ⟨hkb, hat⟩ := HKB.out n sn hlt hsn
      obtain ⟨kb', ko, hkd, hkr⟩ := (HT4.out.keep (K45.out.trans HKR.out)).at (by omega)
      subst hkd
      have hk0 := hkr n hlt 0 _ rfl
      rw [hkb, Nat.mul_one, Nat.add_zero] at hk0
      have HSL := Lib.hid (knL_succ (σ := σ) hlt hsn)
      have HST := Lib.hid (knT_succ (σ := σ) hlt hsn)
      have hle1 := knL_le L σ n
      have hle2 := knT_len L σ n
      have j1 : (0 : Int) ≤ n := by omega
      have j2 : (n : Int) < L.length := by omega
      clear hkr
      cases hs : (σ sn).isSome with
      | false =>
        rw [hs] at hk0 HSL HST
        have HSL2 := Lib.hid (show knL L σ (n + 1) = knL L σ n by rw [HSL.out]; simp)
        have HST2 := Lib.hid (show knT L σ (n + 1) = knT L σ n by rw [HST.out]; simp)
        clear hs hkb hat hsn
        go_wp2_with fail
        go_roundw
        case rel => exact ⟨n + 1, Kt, by omega, by go_num, by rw [HSL2.out]; exact HU.out, by rw [HST2.out]; exact HV.out, by rw [HST2.out]; exact HLK.out, HD1.out, HD2.out, HKR.out⟩
        case measure => simp [intOf]; omega
      | true =>
        rw [hs] at hk0 HSL HST
        obtain ⟨b, o, ha, hr⟩ := (HT.out.keep (K5.out.trans HKR.out)).at (by omega)
        subst ha
        have x0 : wr.cell? ⟨b, o + n * 1, none⟩ = some (.string sn) := by have := hr n hlt 0 _ rfl; rw [hsn] at this; exact this
        rw [Nat.mul_one] at x0
        obtain ⟨Z, hZ⟩ : ∃ Z, (σ sn).getD tzC = Z := ⟨_, rfl⟩
        rw [hZ] at hat
        have HSL2 := Lib.hid (show knL L σ (n + 1) = knL L σ n ++ [sn] by rw [HSL.out]; simp)
        have HST2 := Lib.hid (show knT L σ (n + 1) = knT L σ n ++ [Z] by rw [HST.out, hZ]; simp)
        have hnl : n < (uRes L As Bs).length := by rw [HN.out]; exact hlt
        obtain ⟨b2, o2, ha2, hr2⟩ := HL4.out.1.at (by omega)
        have HA2 := Lib.hid ha2
        have HR2 := Lib.hid (hr2 n hnl)
        have HZ := Lib.hid (((HL4.out.2 n Z hat).any).keep K45.out)
        have HKW := Lib.hid (K45.out.trans HKR.out)
        clear hr hr2 ha2 hs hkb hat hsn hZ hnl
        go_wp2_with (first | ((with_reducible show wpList _ _ _ (⟨some 54, _, _, _, _, _⟩ :: _) _ _); refine wpList_append_one_at (d := 54) _ _ 22 rfl w5.heap.size 9 i2 _ 1 16 Try.underlying22 hs hx0 hx1 hx2 rfl (by decide) _ _ _ (by rfl) _ HU.out [.string sn] _ _ _ (by rfl) (by first | rfl | simp) (by rfl) (by rfl) (by intro u hu; simp at hu; subst hu; rfl) (by unfold maxLen; omega) (by omega) (by omega) ?_; intro u1 w6 ho6 hg6 hat6; have HO6 := Lib.hid ho6; have HG6 := Lib.hid hg6; have HAT6 := Lib.hid hat6; have hz6 := hg6.size; clear ho6 hg6 hat6) | ((with_reducible show wpList _ _ _ (⟨some 58, _, _, _, _, _⟩ :: _) _ _); refine wpList_index_tab (d := 58) _ _ _ rfl 42 Try.underlying23 6 rfl _ _ _ _ o2 (by rfl) HA2.out n (by rfl) (by have := HN.out; omega) ?_) | ((with_reducible show wpList _ _ _ (⟨some 59, _, _, _, _, _⟩ :: _) _ _); refine wpList_load_ty (d := 59) _ _ rfl _ Try.underlying42 w4 _ _ b2 (o2 + n * 6) (by rfl) rfl (by first | rfl | omega) (KR n) HR2.out ((HKW.out.alloc _).grown HG6.out (fun k hk => Nat.le_trans K45.out.sz (HU.out.lt k hk).1)) rfl ?_) | ((with_reducible show wpList _ _ _ (⟨some 61, _, _, _, _, _⟩ :: _) _ _); refine wpList_append_one_at (d := 61) _ _ 23 rfl w5.heap.size 42 i0 _ 6 104 Try.underlying23 hi hz0 hz1 hz2 rfl (by decide) _ _ _ (by rfl) _ ((HV.out.alloc _).kept HG6.out HD2.out) (KR n).cells _ _ _ (by rfl) (by first | rfl | simp) (by rfl) (by rfl) (Hd.one _) (by unfold maxLen; omega) (by omega) (by simp at hz6; omega) ?_; intro v1 w8 ho8 hg8 hat8; have HO8 := Lib.hid ho8; have HG8 := Lib.hid hg8; have HAT8 := Lib.hid hat8; clear ho8 hg8 hat8))
        go_roundw
        case rel =>
          have k6 : Kp w5 w6 := (HKR.out.alloc _).grown HG6.out (fun k hk => (HU.out.lt k hk).1)
          have hlu : ∀ k, u1.ownBlock = some k → k < w6.heap.size := fun k hk => (HO6.out.lt k hk).2
          refine ⟨n + 1, put Kt (knT L σ n).length (KR n), by omega, by go_num, ?_, ?_, ?_, ?_, ?_, (k6.alloc _).grown HG8.out (fun k hk => (HV.out.lt k hk).1)⟩
          · rw [HSL2.out]
            have h1 : rowS w6 w5.heap.size u1 (knL L σ n ++ [sn]) := rowS_push HO6.out
            refine World.ownsRow.kept (World.ownsRow.alloc h1 _) HG8.out ?_
            rcases HAT6.out with e | e
            · rw [e]; exact HD1.out
            · right
              rw [e]
              intro q
              have := (HV.out.lt _ q.symm).2
              simp at this
              omega
          · rw [HST2.out, List.length_append, List.length_singleton, flat, put_same, flat_congr (C' := fun i => (Kt i).cells) (fun i hi => by rw [put_other Kt _ (by omega)])]
            exact HO8.out
          · intro j X hX
            rw [HST2.out] at hX
            by_cases hj : j < (knT L σ n).length
            · rw [List.getElem?_append_left hj] at hX
              rw [put_other Kt _ (by omega)]
              exact HLK.out j X hX
            · have hj2 : j = (knT L σ n).length := by
                have := (List.getElem?_eq_some_iff.1 hX).1
                rw [List.length_append, List.length_singleton] at this
                omega
              subst hj2
              rw [List.getElem?_append_right (Nat.le_refl _), Nat.sub_self] at hX
              simp at hX
              subst hX
              rw [put_same]
              exact HZ.out
          · rcases HAT8.out with e | e
            · rw [e]
              rcases HAT6.out with e' | e'
              · rw [e']; exact HD1.out
              · right
                rw [e']
                intro q
                have := (HV.out.lt _ q.symm).2
                simp at this
                omega
            · right
              intro q
              rw [e] at q
              have := hlu _ q
              simp only [World.size_alloc] at this
              omega
          · rcases HAT8.out with e | e
            · rw [e]
              rcases HAT6.out with e' | e'
              · rw [e']; exact HD2.out
              · right
                rw [e']
                intro q
                have := (HV.out.lt _ q).2
                simp at this
                omega
            · right
              intro q
              rw [e] at q
              have := hlu _ q.symm
              simp only [World.size_alloc] at this
              omega
        case measure => simp [intOf]; omega
    · obtain rfl : n = L.length := by omega
      have hz : ¬ ((L.length : Int) < (L.length : Int)) := by omega
      obtain ⟨nu, cu, hu, _, htu⟩ := HU.out.tab
      obtain ⟨nv, cv, hv, _, htv, _⟩ := tab_of_owns HV.out (fun _ => rfl)
      subst hu hv
      have HTU := Lib.hid htu
      have HLV := Lib.hid (show LiesAll wr A0 9 (knT L σ L.length) nv cv Kt from ⟨htv.weak (A0_le _), fun j X hX => (HLK.out j X hX).keep HKR.out⟩)
      have hle1 := knL_le L σ L.length
      have hle2 := knT_len L σ L.length
      have KWR := Lib.hid (K5.out.trans HKR.out)
      have CF := Lib.hid (c_FillAll wr (knL L σ L.length) nu cu _ (knT L σ L.length) nv cv Kt 9 (by omega) (htu : tab wr _ _ _ _ _ _ (fun i => [.string (fnS (knL L σ L.length) i)])) (by omega) HLV.out 9 As aa ac K wr (Kp.refl _) (HA9.out.keep KWR.out) hlA)
      rw [HFIT.out] at CF
      clear htu htv hle1 hle2
      go_wp2_with (first | (go_at_call 16; (with_reducible refine CF.out.mono ?_); rintro e w6 ⟨fa, fc, KF, rfl, hl6, hk6⟩; have HL6 := Lib.hid hl6; have K6 := Lib.hid (KWR.out.trans hk6); clear hl6 hk6) | (go_at_call 13; refine (sameall_as Bs _ R' fa ba fc bc KF J As.length w6 (by rw [← HFIT.out, List.length_map]) HBS.out (LiesAll.weak HL6.out (A0_le _)) (HB.out.keep K6.out) hlB).mono ?_; rintro e w7 ⟨rfl, hk7⟩; have K7 := Lib.hid (K6.out.trans hk7); clear hk7))
      go_ret
      exact ⟨rfl, K7.out⟩
theorem law_UnifyFits (L : List ByteArray) (na : Option Addr) (nc : Nat) (R : Nat) (As : List Ty) (aa : Option Addr) (ac : Nat) (K : Nat → Hd) (R' : Nat) (Bs : List Ty) (ba : Option Addr) (bc : Nat) (J : Nat → Hd) (w : World)
    (ht : tab w A0 9 na L.length nc 1 (fun i => [.string (L.getD i ByteArray.empty)])) (hlc : L.length ≤ nc) (hL : ∀ s, s ∈ L → s.size ≤ 140737488351232) (hlL : L.length * 16 ≤ 140737488351232) (hnL : L.length ≤ 1048576)
    (hA : LiesAll w A0 R As aa ac K) (hlA : As.length * 104 ≤ 140737488351232) (hnA : As.length ≤ 1048576) (hB : LiesAll w A0 R' Bs ba bc J) (hlB : Bs.length * 104 ≤ 140737488351232) (hnB : Bs.length ≤ 1048576) :
    Calls Try.prog 5 #[.slice na L.length nc, .slice aa As.length ac, .slice ba Bs.length bc] w fun e w' => e = .returned (.bool true) ∧ Kp w w' := by
  by_cases h0 : uE L As Bs = 0
  · obtain ⟨s1, s2, hnd, hln, σ, hf⟩ := ok_facts h0
    exact fits_yes L na nc R As aa ac K R' Bs ba bc J w ht hlc hL hlL hnL hA hlA hnA hB hlB hnB h0 s1 s2 σ hf
  · exact fits_no L na nc R As aa ac K R' Bs ba bc J w ht hlc hL hlL hnL hA hlA hnA hB hlB hnB h0
end Go.Proofs.Ytfjflfokmihcpaa
