/- solve of package unify where each name stands once, and there are as many types that are wanted as are had: what it answers. Condition: the names and the types lie in memory, and what is found takes at most 2 to the 47 less 4096 bytes. -/
import Derived.Test.YtfjflfokmihcpaaUi
import Derived.Deep.RegionHeld3
namespace Go.Proofs.Ytfjflfokmihcpaa
open Go.RowKit
set_option linter.unusedVariables false
set_option linter.unusedSimpArgs false
/-- What is copied: a sound type, or the type of which nothing is known. -/
theorem copy_any (T : Ty) (h : Hd) (w : World) (hl : Lies w A0 9 T h) (hs : (look 9 T).2.2 = true ∨ T = tzC) : Calls Try.prog 38 #[h.val] w fun e w' => ∃ (h' : Hd) (q : Int), e = .returned (.tuple #[h'.val, .int .i64 q]) ∧ Kp w w' ∧ Lies w' (From w.heap.size) 9 T h' := by
  refine (c_Copy 9 T h w hl).mono ?_
  rintro e w' ⟨h', e1, e2, e3, e4⟩
  refine ⟨h', _, e1, e2, ?_⟩
  rcases hs with hs | rfl
  · exact e3 hs
  · cases hq : (look 9 tzC).2.2 with
    | true => exact e3 hq
    | false => rw [e4 hq]; exact hd0_liesC w' _ 8
/-- What stands for a name lies in memory. -/
theorem ste_lies {bm : Nat} {w : World} {x : Option Ty} {hd : Hd} (h : StE bm w x hd) : Lies w A0 9 (x.getD tzC) hd ∧ ((look 9 (x.getD tzC)).2.2 = true ∨ x.getD tzC = tzC) := by
  rcases h with ⟨rfl, rfl⟩ | ⟨A, R, rfl, h2, h3⟩
  · exact ⟨hd0_liesC w _ 8, .inr rfl⟩
  · exact ⟨lies_look h3 h2.any, .inl h3⟩
set_option maxHeartbeats 12800000 in
set_option maxRecDepth 100000 in
theorem solve_main (L : List ByteArray) (na : Option Addr) (nc : Nat) (S : Sel) (R R' : Nat) (As Bs : List Ty) (aa : Option Addr) (ac : Nat) (ba : Option Addr) (bc : Nat) (K J : Nat → Hd) (w : World)
    (ht : tab w S 9 na L.length nc 1 (fun i => [.string (L.getD i ByteArray.empty)])) (hL : ∀ s, s ∈ L → s.size ≤ 140737488351232) (hlL : L.length * 16 ≤ 140737488351232)
    (hA : LiesAll w A0 R As aa ac K) (hlA : As.length * 104 ≤ 140737488351232) (hB : LiesAll w A0 R' Bs ba bc J) (hlB : Bs.length * 104 ≤ 140737488351232) (hl104 : uE L As Bs = 0 → L.length * 104 ≤ 140737488351232) (hyes : (allS As && allS Bs) = true) (hnd : L.Nodup) (hlen : As.length = Bs.length) :
    Calls Try.prog 22 #[.slice na L.length nc, .slice aa As.length ac, .slice ba Bs.length bc] w (SolveP L As Bs w) := by
  have HT := Lib.hid ht
  have HL := Lib.hid hL
  have HA := Lib.hid hA
  have HB := Lib.hid hB
  have hmm := @run_makeMap Try.prog
  have CA := Lib.hid (fun W (k : Kp w W) => c_areSound R As aa ac K W (hA.keep k) hlA)
  have CB := Lib.hid (fun W (k : Kp w W) => c_areSound R' Bs ba bc J W (hB.keep k) hlB)
  clear ht hL hA hB
  obtain ⟨i0, hi, hz0, hz1, hz2⟩ := info_parts infoT
  have s1 : allS As = true := (Bool.and_eq_true_iff.1 hyes).1
  have s2 : allS Bs = true := (Bool.and_eq_true_iff.1 hyes).2
  have S1 := Lib.hid s1
  have S2 := Lib.hid s2
  have HYES := Lib.hid hyes
  have HND := Lib.hid hnd
  have HLN := Lib.hid hlen
  have hle : As.length ≤ Bs.length := by omega
  have hle' : Bs.length ≤ As.length := by omega
  have H104 := Lib.hid hl104
  clear hyes hnd hlen hl104
  go_enter Try.func22, Try.ntmps22
  go_wp2_with (first | (go_at_call 36; (with_reducible refine (CA.out _ (Kp.refl w)).mono ?_); rintro e w2 ⟨rfl, hk2⟩; rw [s1]; have K2 := Lib.hid hk2; clear hk2) | (go_at_call 36; (with_reducible refine (CB.out _ K2.out).mono ?_); rintro e w3 ⟨rfl, hk3⟩; rw [s2]; have K3 := Lib.hid (K2.out.trans hk3); clear hk3))
  have HSZ0 := Lib.hid (mapSz_made w3 Try.prog 9)
  have hb3 : w.heap.size ≤ w3.heap.size := K3.out.sz
  go_loopw [30] (fun i wr => ∃ n : Nat, n ≤ L.length ∧ i = .int .i64 n ∧ Kp w3 wr ∧ ∃ m, MapSz wr Try.prog 9 w3.heap.size m (fZ L n) ∧ cnt L n m) (fun i _ => L.length - (intOf i).toNat)
  case atStart => exact ⟨0, by omega, rfl, (Kp.refl _).alloc _, 0, by rw [fZ_0]; exact HSZ0.out, ⟨by omega, fun _ => rfl, fun h => absurd (by simp) h⟩⟩
  case round =>
    obtain ⟨n, hn, rfl, hkr, m, hm, hc⟩ := hrel
    have HKR := Lib.hid hkr
    have HM := Lib.hid hm
    have HC := Lib.hid hc
    have hbm : w3.heap.size < wr.heap.size := hm.is.lt
    have KWR := Lib.hid (K3.out.trans hkr)
    clear hkr hm hc
    by_cases hlt : n < L.length
    · obtain ⟨b, o, ha, hr⟩ := (HT.out.keep KWR.out).at (by omega)
      subst ha
      obtain ⟨sn, hsn⟩ : ∃ sn, L.getD n ByteArray.empty = sn := ⟨_, rfl⟩
      have x0 : wr.cell? ⟨b, o + n * 1, none⟩ = some (.string sn) := by have := hr n hlt 0 _ rfl; rw [hsn] at this; exact this
      rw [Nat.mul_one] at x0
      have HSN := Lib.hid hsn
      have HSS := Lib.hid (show sn.size ≤ maxLen by
        have hmem : sn ∈ L := by rw [← hsn, List.getD_eq_getElem?_getD, List.getElem?_eq_getElem hlt]; exact List.getElem_mem _
        have := HL.out sn hmem
        unfold maxLen
        omega)
      clear hr hsn
      have hnm : m < maxLen := by have := HC.out.1; unfold maxLen; omega
      have j1 : (0 : Int) ≤ n := by omega
      have j2 : (n : Int) < L.length := by omega
      go_wp2_with (first | (at_mapUpdate; refine wpList_map_setZ _ _ _ 66 9 42 rfl Try.underlying9 Try.underlying66 w3.heap.size m _ (by rfl) HM.out hnm sn (by rfl) HSS.out hd0.val (by rfl) ?_; intro w4 hm4 hg4))
      go_roundw
      case rel => exact ⟨n + 1, by omega, by go_num, HKR.out.grown hg4 (fun k hk => by cases hk; exact Nat.le_refl _), _, by rw [← fZ_succ hlt HSN.out]; exact hm4, cnt_succ hlt HSN.out HC.out⟩
      case measure => simp [intOf]; omega
    · obtain rfl : n = L.length := by omega
      have hz : ¬ ((L.length : Int) < (L.length : Int)) := by omega
      have hlen := fun ty => HM.out.len (t := 66) (e := 42) Try.underlying66 ty
      have hml : m = L.length := HC.out.2.1 (by rw [List.take_length]; exact HND.out)
      subst hml
      have d3 : ¬ ((L.length : Int) < (L.length : Int)) := by omega
      have d2 : ((As.length : Int) != (Bs.length : Int)) = false := by simp; omega
      have ST0 := Lib.hid (stM_start HM.out (Nat.le_refl _))
      have CM := Lib.hid (c_matcher w3.heap.size wr hbm)
      clear s1 s2
      go_wp2_with (go_at_call 37; (with_reducible refine CM.out.mono ?_); rintro e w4 ⟨bs, bM, bF, bL, rfl, hE4, hk4⟩; have HE4 := Lib.hid hE4; have K4 := Lib.hid hk4; clear hE4 hk4)
      have KW4 := Lib.hid (KWR.out.trans K4.out)
      have hz4 : wr.heap.size ≤ w4.heap.size := K4.out.sz
      have hb4 : w3.heap.size < w4.heap.size := by omega
      have HA4 := Lib.hid ((HA.out.off hb3).mk KW4.out.mk)
      have HB4 := Lib.hid ((HB.out.off hb3).mk KW4.out.mk)
      have ST4 := Lib.hid (ST0.out.keep K4.out)
      clear hlen hz
      go_loopw [6, 54] (fun v i wr => v = .slice none 0 0 ∧ ∃ n : Nat, n ≤ As.length ∧ i = .int .i64 n ∧ Mk w3.heap.size w4 wr ∧ ∃ σn, walkK (mtch L 9) σ0 (As.take n) (Bs.take n) = some σn ∧ StM w3.heap.size L σn wr) (fun _ i _ => As.length - (intOf i).toNat)
      case atStart => exact ⟨rfl, 0, by omega, rfl, Mk.refl _ _, σ0, rfl, ST4.out⟩
      case round =>
        obtain ⟨rfl, n, hn2, rfl, hkr, σn, hw, hst⟩ := hrel
        have HKR2 := Lib.hid hkr
        have HW := Lib.hid hw
        have HST := Lib.hid hst
        have hwr : w4.heap.size ≤ wr.heap.size := hkr.sz
        clear hkr hw hst
        by_cases hlt2 : n < As.length
        · have hltB : n < Bs.length := by omega
          obtain ⟨b, o, ha, _, _, hr⟩ := (HA4.out.mk HKR2.out).1.atS (by omega)
          obtain ⟨tb, to, hb, hS, htl, hrb⟩ := (HB4.out.mk HKR2.out).1.atS (by omega)
          subst hb
          have HAA := Lib.hid ha
          have HRR := Lib.hid (hr n hlt2)
          have HRB := Lib.hid (hrb n hltB)
          have NT := Lib.hid (show tb ≠ w3.heap.size from hS)
          have NW := Lib.hid (show wr.heap.size ≠ w3.heap.size by omega)
          clear ha hr hrb hS
          obtain ⟨X, hX⟩ : ∃ X, As[n]? = some X := ⟨_, List.getElem?_eq_getElem hlt2⟩
          obtain ⟨Y, hY⟩ : ∃ Y, Bs[n]? = some Y := ⟨_, List.getElem?_eq_getElem hltB⟩
          have HX := Lib.hid hX
          have HY := Lib.hid hY
          clear hX hY
          have KB := Lib.hid ((Kp.refl wr).alloc (.cells #[.int .i64 (K n).k, .string (K n).nm, .int .i64 (K n).con, .slice (K n).fa (K n).fl (K n).fc, .slice (K n).la (K n).ll (K n).lc, .slice (K n).ra (K n).rl (K n).rc] 42))
          obtain ⟨x0, x1, x2, x3, x4, x5, xs⟩ := boxed (h := K n) (Kp.refl (wr.alloc (.cells #[.int .i64 (K n).k, .string (K n).nm, .int .i64 (K n).con, .slice (K n).fa (K n).fl (K n).fc, .slice (K n).la (K n).ll (K n).lc, .slice (K n).ra (K n).rl (K n).rc] 42)))
          have yy : ∀ j v, (J n).cells[j]? = some v → (wr.alloc (.cells #[.int .i64 (K n).k, .string (K n).nm, .int .i64 (K n).con, .slice (K n).fa (K n).fl (K n).fc, .slice (K n).la (K n).ll (K n).lc, .slice (K n).ra (K n).rl (K n).rc] 42)).cell? ⟨tb, to + n * 6 + j, none⟩ = some v := fun j v hv => KB.out.cellv (HRB.out j v hv)
          have y0 : (wr.alloc (.cells #[.int .i64 (K n).k, .string (K n).nm, .int .i64 (K n).con, .slice (K n).fa (K n).fl (K n).fc, .slice (K n).la (K n).ll (K n).lc, .slice (K n).ra (K n).rl (K n).rc] 42)).cell? ⟨tb, to + n * 6, none⟩ = some (.int .i64 (J n).k) := yy 0 _ rfl
          have y1 : (wr.alloc (.cells #[.int .i64 (K n).k, .string (K n).nm, .int .i64 (K n).con, .slice (K n).fa (K n).fl (K n).fc, .slice (K n).la (K n).ll (K n).lc, .slice (K n).ra (K n).rl (K n).rc] 42)).cell? ⟨tb, to + n * 6 + 1, none⟩ = some (.string (J n).nm) := yy 1 _ rfl
          have y2 : (wr.alloc (.cells #[.int .i64 (K n).k, .string (K n).nm, .int .i64 (K n).con, .slice (K n).fa (K n).fl (K n).fc, .slice (K n).la (K n).ll (K n).lc, .slice (K n).ra (K n).rl (K n).rc] 42)).cell? ⟨tb, to + n * 6 + 2, none⟩ = some (.int .i64 (J n).con) := yy 2 _ rfl
          have y3 : (wr.alloc (.cells #[.int .i64 (K n).k, .string (K n).nm, .int .i64 (K n).con, .slice (K n).fa (K n).fl (K n).fc, .slice (K n).la (K n).ll (K n).lc, .slice (K n).ra (K n).rl (K n).rc] 42)).cell? ⟨tb, to + n * 6 + 3, none⟩ = some (.slice (J n).fa (J n).fl (J n).fc) := yy 3 _ rfl
          have y4 : (wr.alloc (.cells #[.int .i64 (K n).k, .string (K n).nm, .int .i64 (K n).con, .slice (K n).fa (K n).fl (K n).fc, .slice (K n).la (K n).ll (K n).lc, .slice (K n).ra (K n).rl (K n).rc] 42)).cell? ⟨tb, to + n * 6 + 4, none⟩ = some (.slice (J n).la (J n).ll (J n).lc) := yy 4 _ rfl
          have y5 : (wr.alloc (.cells #[.int .i64 (K n).k, .string (K n).nm, .int .i64 (K n).con, .slice (K n).fa (K n).fl (K n).fc, .slice (K n).la (K n).ll (K n).lc, .slice (K n).ra (K n).rl (K n).rc] 42)).cell? ⟨tb, to + n * 6 + 5, none⟩ = some (.slice (J n).ra (J n).rl (J n).rc) := yy 5 _ rfl
          clear yy
          have j1 : (0 : Int) ≤ n := by omega
          have j2 : (n : Int) < Bs.length := by omega
          have CX := Lib.hid (c_match w3.heap.size bs bM bF bL L hlL 9 R R' (Nat.le_refl _) X Y (K n) (J n) σn (wr.alloc (.cells #[.int .i64 (K n).k, .string (K n).nm, .int .i64 (K n).con, .slice (K n).fa (K n).fl (K n).fc, .slice (K n).la (K n).ll (K n).lc, .slice (K n).ra (K n).rl (K n).rc] 42)).drew (HE4.out.turn (HKR2.out.trans KB.out.drew.mk)) ((HA4.out.2 n X HX.out).mk (HKR2.out.trans KB.out.drew.mk)) ((HB4.out.2 n Y HY.out).mk (HKR2.out.trans KB.out.drew.mk)) (allS_at S1.out HX.out) (allS_at S2.out HY.out) (HST.out.keep KB.out.drew))
          cases c2 : mtch L 9 σn X Y with
          | none =>
            have HF := Lib.hid (show found L As Bs = none from walkK_stop (n := n + 1) (by rw [walkK_succ HX.out HY.out, HW.out]; exact c2) (by omega) (by omega))
            have HE := Lib.hid (uE_type HYES.out ⟨HND.out, HLN.out⟩ HF.out)
            have HAT := Lib.hid (show uAt L As Bs = n by unfold uAt; rw [HE.out, if_pos rfl]; exact firstNo_at HW.out HX.out HY.out c2)
            have C2 := Lib.hid c2
            clear c2
            go_wp2_with (first | ((with_reducible show wpList _ _ _ (⟨some 57, _, _, _, _, _⟩ :: _) _ _); refine wpList_index_tab (d := 57) _ _ _ rfl 42 Try.underlying23 6 rfl _ _ _ _ o (by rfl) HAA.out n (by rfl) hlt2 ?_) | ((with_reducible show wpList _ _ _ (⟨some 58, _, _, _, _, _⟩ :: _) _ _); refine wpList_load_ty (d := 58) _ _ rfl _ Try.underlying42 wr _ _ b (o + n * 6) (by rfl) rfl (by first | rfl | omega) (K n) HRR.out (Kp.refl _) rfl ?_))
            go_region_held3 (fun w' => w'.cell? ⟨wr.heap.size, 0, none⟩ = some (.int .i64 (K n).k) ∧ w'.cell? ⟨wr.heap.size, 1, none⟩ = some (.string (K n).nm) ∧ w'.cell? ⟨wr.heap.size, 2, none⟩ = some (.int .i64 (K n).con) ∧ w'.cell? ⟨wr.heap.size, 3, none⟩ = some (.slice (K n).fa (K n).fl (K n).fc) ∧ w'.cell? ⟨wr.heap.size, 4, none⟩ = some (.slice (K n).la (K n).ll (K n).lc) ∧ w'.cell? ⟨wr.heap.size, 5, none⟩ = some (.slice (K n).ra (K n).rl (K n).rc) ∧ w'.cell? ⟨tb, to + n * 6, none⟩ = some (.int .i64 (J n).k) ∧ w'.cell? ⟨tb, to + n * 6 + 1, none⟩ = some (.string (J n).nm) ∧ w'.cell? ⟨tb, to + n * 6 + 2, none⟩ = some (.int .i64 (J n).con) ∧ w'.cell? ⟨tb, to + n * 6 + 3, none⟩ = some (.slice (J n).fa (J n).fl (J n).fc) ∧ w'.cell? ⟨tb, to + n * 6 + 4, none⟩ = some (.slice (J n).la (J n).ll (J n).lc) ∧ w'.cell? ⟨tb, to + n * 6 + 5, none⟩ = some (.slice (J n).ra (J n).rl (J n).rc))
              (first | exact ⟨x0, x1, x2, x3, x4, x5, y0, y1, y2, y3, y4, y5⟩ | exact ⟨hk6.cellv x0 NW.out, hk6.cellv x1 NW.out, hk6.cellv x2 NW.out, hk6.cellv x3 NW.out, hk6.cellv x4 NW.out, hk6.cellv x5 NW.out, hk6.cellv y0 NT.out, hk6.cellv y1 NT.out, hk6.cellv y2 NT.out, hk6.cellv y3 NT.out, hk6.cellv y4 NT.out, hk6.cellv y5 NT.out⟩)
              ((first | (go_at_call 51; refine CX.out.mono ?_; intro e w6 hp6; obtain ⟨he6, hk6⟩ := hp6.no C2.out; subst he6)))
            go_wp2_with fail
            refine bodyPost_ret (v := .tuple #[.slice none 0 0, .int .i64 n, .int .i64 9]) (by simp [results, Try.results22, go_sem]) rfl ?_
            exact solve_bad HE.out (by decide) HAT.out ((HKR2.out.trans (KB.out.drew.mk.trans hk6)).old KW4.out hb3)
          | some σ2 =>
            have HN := Lib.hid (show walkK (mtch L 9) σ0 (As.take (n + 1)) (Bs.take (n + 1)) = some σ2 by rw [walkK_succ HX.out HY.out, HW.out]; exact c2)
            have C2 := Lib.hid c2
            clear c2
            go_wp2_with (first | ((with_reducible show wpList _ _ _ (⟨some 57, _, _, _, _, _⟩ :: _) _ _); refine wpList_index_tab (d := 57) _ _ _ rfl 42 Try.underlying23 6 rfl _ _ _ _ o (by rfl) HAA.out n (by rfl) hlt2 ?_) | ((with_reducible show wpList _ _ _ (⟨some 58, _, _, _, _, _⟩ :: _) _ _); refine wpList_load_ty (d := 58) _ _ rfl _ Try.underlying42 wr _ _ b (o + n * 6) (by rfl) rfl (by first | rfl | omega) (K n) HRR.out (Kp.refl _) rfl ?_))
            go_region_held3 (fun w' => w'.cell? ⟨wr.heap.size, 0, none⟩ = some (.int .i64 (K n).k) ∧ w'.cell? ⟨wr.heap.size, 1, none⟩ = some (.string (K n).nm) ∧ w'.cell? ⟨wr.heap.size, 2, none⟩ = some (.int .i64 (K n).con) ∧ w'.cell? ⟨wr.heap.size, 3, none⟩ = some (.slice (K n).fa (K n).fl (K n).fc) ∧ w'.cell? ⟨wr.heap.size, 4, none⟩ = some (.slice (K n).la (K n).ll (K n).lc) ∧ w'.cell? ⟨wr.heap.size, 5, none⟩ = some (.slice (K n).ra (K n).rl (K n).rc) ∧ w'.cell? ⟨tb, to + n * 6, none⟩ = some (.int .i64 (J n).k) ∧ w'.cell? ⟨tb, to + n * 6 + 1, none⟩ = some (.string (J n).nm) ∧ w'.cell? ⟨tb, to + n * 6 + 2, none⟩ = some (.int .i64 (J n).con) ∧ w'.cell? ⟨tb, to + n * 6 + 3, none⟩ = some (.slice (J n).fa (J n).fl (J n).fc) ∧ w'.cell? ⟨tb, to + n * 6 + 4, none⟩ = some (.slice (J n).la (J n).ll (J n).lc) ∧ w'.cell? ⟨tb, to + n * 6 + 5, none⟩ = some (.slice (J n).ra (J n).rl (J n).rc))
              (first | exact ⟨x0, x1, x2, x3, x4, x5, y0, y1, y2, y3, y4, y5⟩ | exact ⟨hk6.cellv x0 NW.out, hk6.cellv x1 NW.out, hk6.cellv x2 NW.out, hk6.cellv x3 NW.out, hk6.cellv x4 NW.out, hk6.cellv x5 NW.out, hk6.cellv y0 NT.out, hk6.cellv y1 NT.out, hk6.cellv y2 NT.out, hk6.cellv y3 NT.out, hk6.cellv y4 NT.out, hk6.cellv y5 NT.out⟩)
              ((first | (go_at_call 51; refine CX.out.mono ?_; intro e w6 hp6; obtain ⟨he6, hk6, hs6⟩ := hp6.yes C2.out; subst he6; have HS6 := Lib.hid hs6; clear hs6)))
            go_wp2_with fail
            go_roundw
            case rel => exact ⟨rfl, n + 1, by omega, by go_num, HKR2.out.trans (KB.out.drew.mk.trans hk6), σ2, HN.out, HS6.out⟩
            case measure => simp [intOf]; omega
        · have hz : ¬ ((n : Int) < (As.length : Int)) := by omega
          obtain rfl : n = As.length := by omega
          have HF := Lib.hid (show found L As Bs = some σn by have := HW.out; rwa [List.take_length, HLN.out, List.take_length] at this)
          have HE := Lib.hid (uE_ok HYES.out ⟨HND.out, HLN.out⟩ HF.out)
          have hl63 : L.length ≤ 1353245080300 := by have := H104.out HE.out; omega
          have HAT := Lib.hid (show uAt L As Bs = 0 by unfold uAt; rw [HE.out]; rfl)
          have HAR := Lib.hid (uArgs_at HF.out)
          obtain ⟨fS, nn, hm5, hn5, hF5⟩ := HST.out
          have HM5 := Lib.hid hm5
          have HF5 := Lib.hid hF5
          have KW5 := Lib.hid (HKR2.out.old KW4.out hb3)
          have hb5 : w3.heap.size < wr.heap.size := hm5.lt
          clear hm5 hF5 hn5
          obtain ⟨wm, hwm⟩ : ∃ wm, wm = wr := ⟨_, rfl⟩
          subst hwm
          go_wp2_with fail
          go_loopw [6, 71] (fun v i wr => ∃ n K', n ≤ L.length ∧ i = .int .i64 (n : Nat) ∧ KidsIn wr wm.heap.size 42 6 9 (uArgs L As Bs) n v (fun _ => []) K' ∧ Kp wm wr) (fun _ i _ => L.length - (intOf i).toNat)
          case atStart => exact ⟨0, K, by omega, rfl, kidsIn_nil _ _ _ _ _ _ _ _, Kp.refl _⟩
          case round =>
            obtain ⟨n, K', hn3, rfl, hI, hkr⟩ := hrel
            have HI := Lib.hid hI
            have HKR3 := Lib.hid hkr
            have hsz : wm.heap.size ≤ wr.heap.size := hkr.sz
            clear hI hkr
            by_cases hlt3 : n < L.length
            · obtain ⟨b, o, ha, hr⟩ := (HT.out.keep (KW5.out.trans HKR3.out)).at (by omega)
              subst ha
              obtain ⟨sn, hsn⟩ : ∃ sn, L.getD n ByteArray.empty = sn := ⟨_, rfl⟩
              have x0 : wr.cell? ⟨b, o + n * 1, none⟩ = some (.string sn) := by have := hr n hlt3 0 _ rfl; rw [hsn] at this; exact this
              rw [Nat.mul_one] at x0
              have hmem : sn ∈ L := by rw [← hsn, List.getD_eq_getElem?_getD, List.getElem?_eq_getElem hlt3]; exact List.getElem_mem _
              have HSS := Lib.hid (show sn.size ≤ maxLen by
                have := HL.out sn hmem
                unfold maxLen
                omega)
              obtain ⟨hd, e1, e2⟩ := (HF5.out sn).2 hmem
              obtain ⟨l1, l2⟩ := ste_lies e2
              obtain ⟨Z, hZ⟩ : ∃ Z, (σn sn).getD tzC = Z := ⟨_, rfl⟩
              rw [hZ] at l1 l2
              have HX := Lib.hid (show (uArgs L As Bs)[n]? = some Z by
                rw [HAR.out, List.getElem?_map, List.getElem?_eq_getElem hlt3, ← hZ, ← hsn, List.getD_eq_getElem?_getD, List.getElem?_eq_getElem hlt3]
                rfl)
              have CC := Lib.hid (fun W (k : Kp wm W) => copy_any Z hd W (l1.keep k) l2)
              have HU := Lib.hid (show (fS sn).getD hd0.val = hd.val by rw [e1]; rfl)
              clear hr hsn e1 e2 l1 l2 hZ hmem
              have j1 : (0 : Int) ≤ n := by omega
              have j2 : (n : Int) < L.length := by omega
              go_wp2_with (first | ((with_reducible show wpList _ _ _ (⟨some 78, _, _, _, _, _⟩ :: _) _ _); refine wpList_map_get (d := 78) _ _ 66 9 42 (by rfl) rfl Try.underlying9 Try.underlying66 _ (zeroY) w3.heap.size nn fS (by rfl) (HM5.out.keep HKR3.out) sn (by rfl) HSS.out hd.val HU.out ?_) | (go_at_call 38; (with_reducible refine (CC.out _ HKR3.out).mono ?_); rintro e w7 ⟨h', q, rfl, hk7, hli⟩; have HLI := Lib.hid hli; have hz7 := hk7.sz; clear hli) | ((with_reducible show wpList _ _ _ (⟨some 85, _, _, _, _, _⟩ :: _) _ _); refine wpList_append_one_at (d := 85) _ _ 23 rfl wm.heap.size 42 i0 _ 6 104 Try.underlying23 hi hz0 hz1 hz2 rfl (by decide) _ n _ (by rfl) _ ((HI.out.keep (hk7.alloc _)).1) h'.cells _ _ _ (by rfl) (by first | rfl | simp) (by rfl) (by rfl) (Hd.one _) (by unfold maxLen; omega) (by omega) (by simp; omega) ?_; intro v1 w8 ho1 hg1 hat))
              go_roundw
              case rel => exact ⟨n + 1, put K' n h', by omega, by go_num, KidsIn.next hsz HI.out HX.out (hk7.alloc _) (HLI.out.keep ((Kp.refl _).alloc _)) ((Kp.refl _).alloc _) ho1 hg1 hat, (HKR3.out.trans ((hk7.alloc _).alloc _)).grown hg1 (fun k hk => (HI.out.1.lt k hk).1)⟩
              case measure => simp [intOf]; omega
            · obtain rfl : n = L.length := by omega
              have hz2 : ¬ ((L.length : Int) < (L.length : Int)) := by omega
              have hI := HI.out
              have hul : (uArgs L As Bs).length = L.length := by rw [HAR.out, List.length_map]
              rw [← hul] at hI
              obtain ⟨ad', c', hv', _, hall⟩ := hI.all
              rw [hul] at hv'
              subst hv'
              have HALL := Lib.hid hall
              clear hall hI hul
              go_wp2_with fail
              refine bodyPost_ret (v := .tuple #[.slice ad' L.length c', .int .i64 0, .int .i64 0]) (by simp [results, Try.results22, go_sem]) rfl ?_
              exact ⟨ad', L.length, c', K', by rw [HE.out, HAT.out]; rfl, KW5.out.trans HKR3.out, fun e => absurd HE.out e, fun _ => ⟨rfl, LiesAll.weak HALL.out (From_le KW5.out.sz)⟩⟩
end Go.Proofs.Ytfjflfokmihcpaa
