/- TreeNames: the walk of the statement. Condition: the node lies in memory, and has not more nodes than a row may hold. -/
import Derived.Test.YtefanekfelokmaaH2
import Derived.Test.YtefanekfelokmaaH3
import Derived.Test.YtefanekfelokmaaO
import Derived.Test.YtefanekfelokmaaC2
namespace Go.Proofs.Ytefanekfelokmaa
open Go.RowKit
set_option linter.unusedVariables false
set_option linter.unusedSimpArgs false

theorem nameStep_prefix (l : List ByteArray) (y : Int × Nd) : l <+: nameStep l y := by
  by_cases h : (y.2.k = 30 ∨ y.2.k = 10) ∧ y.2.tx ∉ l
  · rw [nameStep_yes h]; exact List.prefix_append _ _
  · rw [nameStep_no h]; exact List.prefix_rfl
theorem names_prefix (L : List (Int × Nd)) (m : Nat) : namesL (L.take m) <+: namesL L := by
  conv => rhs; rw [← List.take_append_drop m L]
  unfold namesL
  rw [List.foldl_append]
  generalize (L.take m).foldl nameStep [] = a
  generalize L.drop m = l
  induction l generalizing a with
  | nil => exact List.prefix_rfl
  | cons y l ih => exact (nameStep_prefix a y).trans (ih _)
theorem take_snoc {α : Type} {L : List α} {m : Nat} {y : α} (h : L[m]? = some y) : L.take (m + 1) = L.take m ++ [y] := by rw [List.take_add_one, h]; rfl
theorem names_at {L : List (Int × Nd)} {m : Nat} {y : Int × Nd} (h : L[m]? = some y) (hy : (y.2.k = 30 ∨ y.2.k = 10) ∧ y.2.tx ∉ namesL (L.take m)) : (namesL L)[(namesL (L.take m)).length]? = some y.2.tx := by
  have hp := names_prefix L (m + 1)
  rw [take_snoc h, namesL_snoc, nameStep_yes hy] at hp
  obtain ⟨z, hz⟩ := hp
  rw [← hz]
  simp
theorem ret_bool {a b : Bool} (h : a = b) : Ending.returned (.bool a) = .returned (.bool b) := by rw [h]
noncomputable def memB (L : List ByteArray) (s : ByteArray) : Bool := @decide (s ∈ L) (Classical.propDecidable _)
theorem memB_yes {L : List ByteArray} {s : ByteArray} (h : s ∈ L) : memB L s = true := by unfold memB; exact dec_yes h
theorem memB_no {L : List ByteArray} {s : ByteArray} (h : s ∉ L) : memB L s = false := by unfold memB; exact dec_no h
theorem run_index_tab {P : Program} (t e : TypeId) (ht : P.underlying t = some (.slice e)) (m : Nat) (hm : (P.info? e).map (·.size) = some m) (b o n c j : Nat) (hj : j < n) (w : World) :
    (Instr.indexAt t (.slice (some ⟨b, o, none⟩) n c) (.int .i64 (j : Int))).run P w = .ok (.pointer (some ⟨b, o + j * m, none⟩)) w := by
  obtain ⟨ii, hii, hs⟩ := Option.map_eq_some_iff.1 hm
  have hlt : (j : Int) < (n : Int) := by omega
  have he : P.elem t = e := by simp [Program.elem, ht]
  rw [run_indexAt_slice w t _ n c .i64 j (by rw [he]; exact ht), if_pos ⟨by omega, hlt⟩, he]
  simp [sizeOf, typeInfo, hii, hs, Result.andThen, Addr.add_mid]
/-- A row of texts as a table. -/
def fnT (L : List ByteArray) (i : Nat) : ByteArray := match L[i]? with | some s => s | none => .empty
theorem fnT_at {L : List ByteArray} {i : Nat} {s : ByteArray} (h : L[i]? = some s) : fnT L i = s := by unfold fnT; rw [h]
theorem flat_fnT (L : List ByteArray) : (L.map Value.string) = flat (fun i => [.string (fnT L i)]) L.length := by
  rw [flat_take L _ (fun s => [Value.string s]) (fun i s hs => by rw [fnT_at hs]) L.length (Nat.le_refl _), List.take_length]
  induction L with
  | nil => rfl
  | cons a l ih => simpa using ih
theorem texts_tab {w : World} {B : Nat} {v : Value} {L : List ByteArray} (h : w.ownsRow B 9 1 v L.length (L.map .string)) : ∃ ad c, v = .slice ad L.length c ∧ tab w (From B) 9 ad L.length c 1 (fun i => [.string (fnT L i)]) := by
  rw [flat_fnT] at h
  obtain ⟨ad, c, hv, _, ht, _⟩ := tab_of_owns h (fun _ => rfl)
  exact ⟨ad, c, hv, ht⟩
set_option maxHeartbeats 1600000 in
theorem c_has (w : World) (S : Sel) (ad : Option Addr) (c : Nat) (L : List ByteArray) (s : ByteArray) (ht : tab w S 9 ad L.length c 1 (fun i => [.string (fnT L i)])) (hb : L.length ≤ 9223372036854775807) :
    Calls Try.prog 26 #[.slice ad L.length c, .string s] w fun e w' => e = .returned (.bool (memB L s)) ∧ Kp w w' := by
  have HT := Lib.hid ht
  clear ht
  generalize hlen : L.length = len at hb
  have HLEN := Lib.hid hlen
  rw [hlen] at HT
  clear hlen
  go_enter Try.func26, Try.ntmps26
  go_wp2_with fail
  go_loopw [5] (fun i wr => ∃ n : Nat, n ≤ len ∧ i = .int .i64 n ∧ Hid (∀ k, k < n → fnT L k ≠ s) ∧ Kp w wr) (fun i _ => len - (intOf i).toNat)
  case atStart => exact ⟨0, by omega, rfl, Lib.hid (fun k hk => absurd hk (by omega)), Kp.refl _⟩
  case round =>
    obtain ⟨n, hn, rfl, HN, hkr⟩ := hrel
    by_cases hlt : n < len
    · obtain ⟨b, o, ha, hr⟩ := HT.out.at (by omega)
      have HA := Lib.hid ha
      have g0 : wr.cell? ⟨b, o + n, none⟩ = some (.string (fnT L n)) := hkr.cellv (by simpa using hr n hlt 0 _ rfl)
      clear ha hr
      rcases same_or (fnT L n) s with ⟨e, e1⟩ | ⟨e, e1⟩
      · have hv := Lib.hid (show true = memB L s from (memB_yes (by
          obtain ⟨z, hz⟩ : ∃ z, L[n]? = some z := ⟨_, List.getElem?_eq_getElem (by rw [HLEN.out]; exact hlt)⟩
          rw [← e, fnT_at hz]; exact List.mem_of_getElem? hz)).symm)
        clear e
        go_wp2_with ((with_reducible show wpList _ _ _ (⟨some 14, _, _, _, _, _⟩ :: _) _ _); refine wpList_index_tab (d := 14) _ _ _ rfl 9 Try.underlying41 1 rfl _ _ _ _ o (by rfl) HA.out n (by rfl) hlt ?_)
        go_ret
        exact ⟨ret_bool hv.out, hkr⟩
      · have hv := Lib.hid e
        clear e
        go_wp2_with ((with_reducible show wpList _ _ _ (⟨some 14, _, _, _, _, _⟩ :: _) _ _); refine wpList_index_tab (d := 14) _ _ _ rfl 9 Try.underlying41 1 rfl _ _ _ _ o (by rfl) HA.out n (by rfl) hlt ?_)
        go_roundw
        case rel => exact ⟨n + 1, by omega, by go_num, Lib.hid (fun k hk => by
          by_cases hkn : k = n
          · rw [hkn]; exact hv.out
          · exact HN.out k (by omega)), hkr⟩
        case measure => simp [intOf]; omega
    · obtain rfl : n = len := by omega
      have hv := Lib.hid (show false = memB L s from (memB_no (fun hm => by
        obtain ⟨j, hj⟩ := List.mem_iff_getElem?.1 hm
        exact HN.out j (by rw [← HLEN.out]; exact (List.getElem?_eq_some_iff.1 hj).1) (fnT_at hj))).symm)
      go_wp2_with fail
      go_ret
      exact ⟨ret_bool hv.out, hkr⟩
set_option maxHeartbeats 12800000 in
set_option maxRecDepth 1000000 in
theorem law_names (R : Nat) (T : Nd) (h : Hn) (w : World) (hl : Lies w A0 R T h) (hd : sizeN R T ≤ 1099511627776) :
    Calls Try.prog 7 #[h.val] w fun e w' => e = .returned (.bool true) ∧ Kp w w' := by
  obtain ⟨i2, hs, hx0, hx1, hx2⟩ := info_parts infoS
  have hfl : (flatN R 0 T).length = sizeN R T := flat_size R 0 T
  have HL := Lib.hid hl
  have HD := Lib.hid hd
  clear hl
  obtain ⟨k, tx, nn, at_, la, ll, lc⟩ := h
  obtain ⟨b0, b1, b2, b3, b4, bs⟩ := boxed (w := w) (h := ⟨k, tx, nn, at_, la, ll, lc⟩) (e := 25) (Kp.refl _)
  simp only at b0 b1 b2 b3 b4
  have HB := Lib.hid (fun (W' : World) (hk : Kp (w.alloc (.cells #[.int .i64 k, .string tx, .int .u64 nn, .int .i64 at_, .slice la ll lc] 25)) W') => boxed (h := ⟨k, tx, nn, at_, la, ll, lc⟩) hk)
  have HF := Lib.hid hfl
  have HDL : Hid ((flatN R 0 T).length ≤ 1099511627776) := Lib.hid (by rw [hfl]; exact hd)
  clear hfl hd
  go_enter Try.func7, Try.ntmps7
  go_wp2_with (first | (go_at_call 14; (with_reducible refine (c_Own R T ⟨k, tx, nn, at_, la, ll, lc⟩ _ (HL.out.keep ((Kp.refl w).alloc _))).mono ?_); rintro e w1 ⟨h', rfl, hli, hk1⟩; have LI := Lib.hid (hli.weak (A0_le _)); clear hli) | (go_at_call 25; refine (callsIn_wide.1 (c_Names 3 (by omega) R T h' _ LI.out HDL.out)).mono ?_; rintro e w2 ⟨vl, rfl, hrl, hk2⟩; obtain ⟨al, cl, rfl, htl⟩ := texts_tab hrl; have hk12 := hk1.trans hk2; obtain ⟨c0, c1, c2, c3, c4, cs⟩ := HB.out w2 hk12; (try simp only at c0 c1 c2 c3 c4); have HTL := Lib.hid htl; have HK2 := Lib.hid hk12; clear hrl htl) | (go_at_call 22; refine (c_Flat0 R T ⟨k, tx, nn, at_, la, ll, lc⟩ _ (HL.out.keep (Kp.back hk12 ((Kp.refl w).alloc _))) HD.out).mono ?_; rintro e w3 ⟨vn, vd, ys, rfl, hys, hfs, hk3⟩; obtain ⟨an, cn, ad, cd, rfl, rfl, tn, td⟩ := hfs.tabs; have HYS := Lib.hid hys; have HTN := Lib.hid tn; have HK3 := Lib.hid hk3; clear tn td hfs hys hk3))
  have hkw : Kp w w3 := (Kp.back HK2.out ((Kp.refl w).alloc _)).trans HK3.out
  have HKW := Lib.hid hkw
  have HTL3 := Lib.hid (HTL.out.keep HK3.out)
  have hylen : ys.length = (flatN R 0 T).length := by rw [← HYS.out, List.length_map]
  have hyb : ys.length ≤ 1099511627776 := by rw [hylen]; exact HDL.out
  have HYL := Lib.hid hylen
  have hnlb : (namesL (flatN R 0 T)).length ≤ 1099511627776 := Nat.le_trans (namesL_len _) HDL.out
  have HNP := Lib.hid (fun m => names_prefix (flatN R 0 T) m)
  clear hkw hylen hk1 hk2 c0 c1 c2 c3 c4
  generalize hnlen : (namesL (flatN R 0 T)).length = nl at *
  have HNL := Lib.hid hnlen
  clear hnlen
  go_loopw [6, 7, 8] (fun kk seen i wr => ∃ m : Nat, m ≤ ys.length ∧ i = .int .i64 m ∧ kk = .int .i64 ((namesL ((flatN R 0 T).take m)).length : Nat) ∧ wr.ownsRow w3.heap.size 9 1 seen (namesL ((flatN R 0 T).take m)).length ((namesL ((flatN R 0 T).take m)).map .string) ∧ Kp w3 wr) (fun _ _ i _ => ys.length - (intOf i).toNat)
  case atStart => exact ⟨0, by omega, rfl, rfl, by simpa [namesL] using World.ownsRow_nil _ _ _ _, Kp.refl _⟩
  case round =>
    obtain ⟨m, hm, rfl, rfl, hown, hkr⟩ := hrel
    by_cases hlt : m < ys.length
    · obtain ⟨x, hx⟩ : ∃ x, ys[m]? = some x := ⟨_, List.getElem?_eq_getElem hlt⟩
      have hF : (flatN R 0 T)[m]? = some (x.1.1, x.1.2.1) := by rw [← HYS.out, List.getElem?_map, hx]; rfl
      obtain ⟨b, o, ha, hra⟩ := HTN.out.at (by omega)
      subst ha
      have hr := hra m hlt
      rw [itH_at hx] at hr
      have hix := Lib.hid (fun w' => run_index_tab (P := Try.prog) 23 25 Try.underlying23 5 (by kernel_rfl) b o ys.length cn m hlt w')
      have hix := hix.out
      have ND := Lib.hid (fun (w' : World) (hk : Kp w3 w') => node_at (hk.range hr))
      obtain ⟨v0, v1, v2, v3, v4⟩ := ND.out wr hkr
      obtain ⟨ek, et, ex⟩ := lies_hd x.2.1
      have htk := take_snoc hF
      have hlen1 : (namesL ((flatN R 0 T).take m)).length ≤ m := by have := namesL_len ((flatN R 0 T).take m); rw [List.length_take] at this; omega
      obtain ⟨sa, sc, hsv, hts⟩ := texts_tab hown
      have HTS := Lib.hid (hts)
      have CH := Lib.hid (fun (wa : World) (hk : Kp wr wa) => c_has wa (From w3.heap.size) sa sc (namesL ((flatN R 0 T).take m)) x.1.2.2.tx (hts.keep hk) (by omega))
      subst hsv
      have HOWN := Lib.hid hown
      have HKR := Lib.hid hkr
      have HF := Lib.hid hF
      have HTK := Lib.hid htk
      have HEK := Lib.hid ek
      have HET := Lib.hid et
      clear hra hr hF htk hts hown ek et
      by_cases hnm : x.1.2.2.k = 30 ∨ x.1.2.2.k = 10
      · have hnmb : ((x.1.2.2.k != 30) = false) ∨ ((x.1.2.2.k != 30) = true ∧ (x.1.2.2.k != 10) = false) := by
          rcases hnm with h | h
          · exact .inl (by simp [h])
          · exact .inr ⟨by simp [h], by simp [h]⟩
        by_cases hin : x.1.2.2.tx ∈ namesL ((flatN R 0 T).take m)
        · have HIN := Lib.hid (memB_yes hin)
          have hst : namesL ((flatN R 0 T).take (m + 1)) = namesL ((flatN R 0 T).take m) := by rw [HTK.out, namesL_snoc, nameStep_no (fun h => h.2 (by rw [show (x.1.1, x.1.2.1).2.tx = x.1.2.2.tx from HET.out]; exact hin))]
          have HST := Lib.hid hst
          clear hst hin hnm
          rcases hnmb with e5 | ⟨e5, e6⟩
          all_goals
            go_wp2_with (first | ((try refine ⟨trivial, ?_⟩); go_at_call 26; (with_reducible refine (CH.out _ (Kp.refl _)).mono ?_); rintro e wa ⟨rfl, hka⟩; rw [HIN.out]; obtain ⟨u0, u1, u2, u3, u4⟩ := ND.out _ (HKR.out.trans hka)))
            go_roundw
            case rel => exact ⟨m + 1, by omega, by go_num, by rw [HST.out], by rw [HST.out]; exact own_keep HOWN.out hka, HKR.out.trans hka⟩
            case measure => simp [intOf]; omega
        · have HIN := Lib.hid (memB_no hin)
          have hyn : (x.1.2.1.k = 30 ∨ x.1.2.1.k = 10) ∧ x.1.2.1.tx ∉ namesL ((flatN R 0 T).take m) := by rw [HEK.out, HET.out]; exact ⟨hnm, hin⟩
          have hst : namesL ((flatN R 0 T).take (m + 1)) = namesL ((flatN R 0 T).take m) ++ [x.1.2.2.tx] := by rw [HTK.out, namesL_snoc, nameStep_yes hyn]; exact congrArg (fun z => _ ++ [z]) HET.out
          have hnat := names_at HF.out hyn
          have hkl : (namesL ((flatN R 0 T).take m)).length < nl := by rw [← HNL.out]; exact (List.getElem?_eq_some_iff.1 hnat).1
          have HTL4 := HTL3.out

          obtain ⟨b2, o2, ha2, hra2⟩ := HTL4.at (by omega)
          subst ha2
          have hg := hra2 _ hkl 0 _ rfl
          rw [fnT_at hnat, show (x.1.1, x.1.2.1).2.tx = x.1.2.2.tx from HET.out] at hg
          have LC := Lib.hid (fun (w' : World) (hk : Kp w3 w') => (show w'.cell? ⟨b2, o2 + (namesL ((flatN R 0 T).take m)).length, none⟩ = some (.string x.1.2.2.tx) from hk.cellv (by simpa using hg)))
          have hiy := fun w' => run_index_tab (P := Try.prog) 41 9 Try.underlying41 1 (by kernel_rfl) b2 o2 nl cl (namesL ((flatN R 0 T).take m)).length hkl w'
          have TK := Lib.hid (fun (wa W2 : World) (hka : Kp wr wa) (t1 : Two wa W2 (Value.slice sa (namesL ((flatN R 0 T).take m)).length sc).ownBlock none) => (show Kp w3 W2 from Two.kp t1 (HKR.out.trans hka) (fun g e => (HOWN.out.lt g e).1) (fun g e => by cases e)))
          have HST := Lib.hid hst
          have e7 : decide (((nl : Nat) : Int) ≤ ((namesL ((flatN R 0 T).take m)).length : Nat)) = false := decide_eq_false (by omega)
          have e8 : (x.1.2.2.tx.toList != x.1.2.2.tx.toList) = false := by simp
          clear hst hin hnm hyn hnat hra2 hg HTL4
          generalize hnk : (namesL ((flatN R 0 T).take m)).length = nk at *
          have HNK := Lib.hid hnk
          rcases hnmb with e5 | ⟨e5, e6⟩
          all_goals
            go_wp2_with (first | ((try refine ⟨trivial, ?_⟩); go_at_call 26; (with_reducible refine (CH.out _ (Kp.refl _)).mono ?_); rintro e wa ⟨rfl, hka⟩; rw [HIN.out]; obtain ⟨u0, u1, u2, u3, u4⟩ := ND.out _ (HKR.out.trans hka)) | ((with_reducible show wpList _ _ _ (⟨some 53, _, _, _, _, _⟩ :: _) _ _); refine wpList_append_oneH (d := 53) _ _ 41 rfl w3.heap.size 9 i2 _ 1 16 Try.underlying41 hs hx0 hx1 hx2 rfl (by decide) (Value.slice sa nk sc) nk _ (by rfl) _ (own_keep HOWN.out hka) [.string x.1.2.2.tx] _ _ _ (by rfl) (by first | rfl | simp) (by rfl) (by rfl) (by intro u hu; simp at hu; subst hu; rfl) (by unfold maxLen; omega) (by omega) (by first | omega | (have h1 := hka.sz; have h2 := HKR.out.sz; omega)) ?_; intro g1 c1 W2 o1 t1 n1; have kk2 := TK.out _ _ hka t1; obtain ⟨p0, p1, p2, p3, p4⟩ := ND.out _ kk2; have q0 := LC.out _ kk2; have KK2 := Lib.hid kk2; have OO := Lib.hid o1))
            go_quiet (fail)
            go_wp2_with fail
            go_roundw
            case rel =>
              have hl2 : (namesL ((flatN R 0 T).take (m + 1))).length = nk + 1 := by rw [HST.out, List.length_append, HNK.out]; rfl
              refine ⟨m + 1, by omega, by go_num, by rw [hl2]; go_num, ?_, KK2.out.drewN _⟩
              rw [hl2, HST.out, List.map_append]
              exact own_keep OO.out ((Kp.refl _).drewN _)
            case measure => simp [intOf]; omega
      · have hnmb : (x.1.2.2.k != 30) = true ∧ (x.1.2.2.k != 10) = true := ⟨by simp; exact fun e => hnm (.inl e), by simp; exact fun e => hnm (.inr e)⟩
        obtain ⟨e5, e6⟩ := hnmb
        have hst : namesL ((flatN R 0 T).take (m + 1)) = namesL ((flatN R 0 T).take m) := by rw [HTK.out, namesL_snoc, nameStep_no (fun h => hnm (by rw [← HEK.out]; exact h.1))]
        have HST := Lib.hid hst
        clear hst hnm
        go_wp2_with fail
        go_roundw
        case rel => exact ⟨m + 1, by omega, by go_num, by rw [HST.out], by rw [HST.out]; exact HOWN.out, HKR.out⟩
        case measure => simp [intOf]; omega
    · obtain rfl : m = ys.length := by omega
      have hkl := HNL.out
      rw [← HNL.out] at hnlb
      have htk : (flatN R 0 T).take ys.length = flatN R 0 T := by rw [HYL.out, List.take_length]
      rw [htk, HNL.out]
      go_wp2_with (first | (go_at_call 12; (with_reducible refine (c_answers _).mono ?_); rintro e w4 ⟨rfl, hk4⟩))
      go_ret
      exact ⟨by first | rfl | (simp; done), (HKW.out.trans hkr).trans hk4⟩
theorem law_TreeNames (R : Nat) (T : Nd) (h : Hn) (w : World) (hl : Lies w A0 R T h) (hz : sizeN R T ≤ 1048576) :
    Calls Try.prog 7 #[h.val] w fun e w' => e = .returned (.bool true) ∧ Kp w w' := law_names R T h w hl (by omega)
end Go.Proofs.Ytefanekfelokmaa
