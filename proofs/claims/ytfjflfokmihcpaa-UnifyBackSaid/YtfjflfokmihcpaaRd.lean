/- Subst of package types: what it answers. Condition: the type, the names and the types put in lie in memory. -/
import Derived.Test.YtfjflfokmihcpaaRc
import Derived.Test.YtfjflfokmihcpaaSp
import Derived.Test.YtfjflfokmihcpaaMe
import Derived.Outline
namespace Go.Proofs.Ytfjflfokmihcpaa
open Go.RowKit
set_option linter.unusedVariables false
set_option linter.unusedSimpArgs false
theorem own_kp {w w' : World} {B : Nat} {e : TypeId} {m n : Nat} {v : Value} {xs : List Value} (h : w.ownsRow B e m v n xs) (hk : Kp w w') : w'.ownsRow B e m v n xs := by
  refine ⟨h.1, ?_⟩
  rcases h.2 with hv | ⟨g, cap, cur, hv, hg0, hg, rest⟩
  · exact .inl hv
  · exact .inr ⟨g, cap, cur, hv, hg0, (hk.blk (Array.getElem?_eq_some_iff.1 hg).1).trans hg, rest⟩
theorem infoZ : (Try.prog.info? 63).map (fun i => (i.zero, i.size, i.bytes)) = some (some (.agg #[.int .i64 0, .int .i64 0]), 2, 16) := by kernel_rfl
/-- Each of them is sound. -/
noncomputable def allOk (As : List Ty) : Bool := As.all (fun A => (look 9 A).2.2)
/-- Depth and cells of a type. -/
noncomputable def szs (A : Ty) : Nat × Nat := (gd (look 9 A), gc (look 9 A))
/-- The size of what stands for a name. -/
noncomputable def standG (L : List ByteArray) (As : List Ty) (s : ByteArray) : Option (Nat × Nat) := (idx L s).bind (fun j => As[j]?.map szs)
/-- What Subst tells: OK, ErrForm, ErrArg or ErrLarge. -/
noncomputable def subE (T : Ty) (L : List ByteArray) (As : List Ty) : Int :=
  if ((look 9 T).2.2 && allOk As) = true then (if As.length = L.length ∧ L.Nodup then (if (lookG (standG L As) 9 T).2.2 = true then 0 else 6) else 2) else 1
/-- What Subst answers. -/
noncomputable def SubstP (r Ra : Nat) (T : Ty) (L : List ByteArray) (As : List Ty) (w : World) (e : Ending) (w' : World) : Prop :=
  ∃ h' : Hd, e = .returned (.tuple #[h'.val, .int .i64 (subE T L As)]) ∧ Kp w w' ∧ (subE T L As = 0 → Lies w' (From w.heap.size) (r + Ra) (fill (stand L As) r T) h') ∧ (subE T L As ≠ 0 → h' = hd0)
theorem sub_bad {r Ra : Nat} {T : Ty} {L : List ByteArray} {As : List Ty} {w w' : World} {q : Int} (h : subE T L As = q) (hq : q ≠ 0) (hk : Kp w w') : SubstP r Ra T L As w (.returned (.tuple #[.agg #[.int .i64 0, .string ⟨#[]⟩, .int .i64 0, .slice none 0 0, .slice none 0 0, .slice none 0 0], .int .i64 q])) w' :=
  ⟨hd0, by rw [h]; rfl, hk, fun e => absurd (h.symm.trans e) hq, fun _ => rfl⟩
theorem sub_form {T : Ty} {L : List ByteArray} {As : List Ty} (h : (look 9 T).2.2 = false) : subE T L As = 1 := by unfold subE; rw [h]; rfl
theorem sub_form2 {T : Ty} {L : List ByteArray} {As : List Ty} {k : Nat} {A : Ty} (hA : As[k]? = some A) (h : (look 9 A).2.2 = false) : subE T L As = 1 := by
  have e : allOk As = false := by
    apply Bool.eq_false_iff.2
    intro ha
    have := List.all_eq_true.1 ha A (List.mem_of_getElem? hA)
    rw [h] at this
    cases this
  unfold subE
  rw [e, Bool.and_false]
  rfl
theorem sub_arg {T : Ty} {L : List ByteArray} {As : List Ty} (hT : (look 9 T).2.2 = true) (hA : allOk As = true) (h : ¬ (As.length = L.length ∧ L.Nodup)) : subE T L As = 2 := by
  unfold subE
  rw [hT, hA, if_pos (show (true && true) = true from rfl), if_neg h]
theorem sub_end {T : Ty} {L : List ByteArray} {As : List Ty} (hT : (look 9 T).2.2 = true) (hA : allOk As = true) (h : As.length = L.length ∧ L.Nodup) : subE T L As = if (lookG (standG L As) 9 T).2.2 = true then 0 else 6 := by
  unfold subE
  rw [hT, hA, if_pos (show (true && true) = true from rfl), if_pos h]
/-- The maps that Subst fills: a header, a size for each name so far. -/
def mapT (L : List ByteArray) (K : Nat → Hd) (n : Nat) (s : ByteArray) : Option Value := (idx (L.take n) s).map (fun j => (K j).val)
noncomputable def mapZ (L : List ByteArray) (As : List Ty) (n : Nat) (s : ByteArray) : Option Value := (idx (L.take n) s).map (fun j => szm (szs (As.getD j (.mk 0 ⟨#[]⟩ 0 [] 0 []))))
theorem take_snoc' {L : List ByteArray} {n : Nat} (hn : n < L.length) : L.take (n + 1) = L.take n ++ [L.getD n ByteArray.empty] := by
  rw [List.take_succ_eq_append_getElem hn, List.getD_eq_getElem?_getD, List.getElem?_eq_getElem hn]
  rfl
theorem fput_idx {L : List ByteArray} {n : Nat} (hn : n < L.length) (hno : L.getD n ByteArray.empty ∉ L.take n) (F : Nat → Value) : fput (fun s => (idx (L.take n) s).map F) (L.getD n ByteArray.empty) (F n) = fun s => (idx (L.take (n + 1)) s).map F := by
  funext s
  rw [take_snoc' hn, idx_snoc hno]
  unfold fput
  by_cases hs : s = L.getD n ByteArray.empty
  · rw [if_pos hs, if_pos hs, List.length_take, Nat.min_eq_left (by omega)]; rfl
  · rw [if_neg hs, if_neg hs]
noncomputable def szC (As : List Ty) (j : Nat) : List Value := [.int .i64 ((szs (As.getD j (.mk 0 ⟨#[]⟩ 0 [] 0 []))).1 : Nat), .int .i64 ((szs (As.getD j (.mk 0 ⟨#[]⟩ 0 [] 0 []))).2 : Nat)]
theorem mapZ_end {L : List ByteArray} {As : List Ty} (h : As.length = L.length) : mapZ L As L.length = gmap (standG L As) := by
  funext s
  unfold mapZ gmap standG
  rw [List.take_length]
  cases hj : idx L s with
  | none => rfl
  | some j =>
    have hl := idx_lt hj
    have e : As[j]? = some As[j] := List.getElem?_eq_getElem (by omega)
    show some (szm (szs (As.getD j _))) = (As[j]?.map szs).map szm
    rw [List.getD_eq_getElem?_getD, e]
    rfl
theorem mapT_end {w : World} {L : List ByteArray} {As : List Ty} {K : Nat → Hd} {Ra : Nat} (h : As.length = L.length) (hA : ∀ j X, As[j]? = some X → Lies w A0 Ra X (K j)) : StOK w (mapT L K L.length) (stand L As) Ra := fun s => by
  unfold mapT stand
  rw [List.take_length]
  cases hj : idx L s with
  | none => exact .inl ⟨rfl, rfl⟩
  | some j =>
    have hl := idx_lt hj
    have e : As[j]? = some As[j] := List.getElem?_eq_getElem (by omega)
    exact .inr ⟨As[j], K j, rfl, e, hA j _ e⟩
theorem stand_sized {L : List ByteArray} {As : List Ty} (h : As.length = L.length) (hA : allOk As = true) : Sized (stand L As) (standG L As) := fun s => by
  unfold stand standG
  cases hj : idx L s with
  | none => exact .inl ⟨rfl, rfl⟩
  | some j =>
    have hl := idx_lt hj
    have e : As[j]? = some As[j] := List.getElem?_eq_getElem (by omega)
    have hok := List.all_eq_true.1 hA As[j] (List.getElem_mem _)
    refine .inr ⟨As[j], (look 9 As[j]).1, (look 9 As[j]).2.1, e, ?_, ?_⟩
    · show As[j]?.map szs = _
      rw [e]
      simp [szs, gd, gc, hok]
    · rw [← hok]
theorem run_index_rows {P : Program} {t e : TypeId} {m : Nat} (ht : P.underlying t = some (.slice e)) (hm : (P.info? e).map (·.size) = some m) {b o n c j : Nat} (hj : j < n) {w : World} :
    (Instr.indexAt t (.slice (some ⟨b, o, none⟩) n c) (.int .i64 (j : Int))).run P w = .ok (.pointer (some ⟨b, o + j * m, none⟩)) w := by
  obtain ⟨ii, hii, hs⟩ := Option.map_eq_some_iff.1 hm
  have he : P.elem t = e := by simp [Program.elem, ht]
  rw [run_indexAt_slice w t _ n c .i64 j (by rw [he]; exact ht), if_pos ⟨by omega, by omega⟩, he]
  simp [sizeOf, typeInfo, hii, hs, Result.andThen, Addr.add_mid]
theorem mapT_succ {L : List ByteArray} {K : Nat → Hd} {m : Nat} {sn : ByteArray} (hs : L.getD m ByteArray.empty = sn) (hm : m < L.length) (hno : sn ∉ L.take m) : fput (mapT L K m) sn (K m).val = mapT L K (m + 1) := by
  subst hs
  exact fput_idx hm hno (fun j => (K j).val)
theorem mapZ_succ {L : List ByteArray} {As : List Ty} {m sd sc : Nat} {sn : ByteArray} (hs : L.getD m ByteArray.empty = sn) (hm : m < L.length) (hno : sn ∉ L.take m) (hd : (szs (As.getD m (.mk 0 ⟨#[]⟩ 0 [] 0 []))).1 = sd) (hc : (szs (As.getD m (.mk 0 ⟨#[]⟩ 0 [] 0 []))).2 = sc) :
    fput (mapZ L As m) sn (szm (sd, sc)) = mapZ L As (m + 1) := by
  subst hs hd hc
  exact fput_idx hm hno (fun j => szm (szs (As.getD j (.mk 0 ⟨#[]⟩ 0 [] 0 []))))
theorem mapT_0 (L : List ByteArray) (K : Nat → Hd) : mapT L K 0 = fun _ => none := by funext s; rfl
theorem mapZ_0 (L : List ByteArray) (As : List Ty) : mapZ L As 0 = fun _ => none := by funext s; rfl
theorem szC_at {As : List Ty} {n sd sc : Nat} {X : Ty} (hX : As.getD n (.mk 0 ⟨#[]⟩ 0 [] 0 []) = X) (hd : gd (look 9 X) = sd) (hc : gc (look 9 X) = sc) : szC As n = [.int .i64 sd, .int .i64 sc] := by
  unfold szC szs
  rw [hX, hd, hc]
set_option maxHeartbeats 3200000 in
set_option maxRecDepth 100000 in
theorem c_Subst (r Ra : Nat) (T : Ty) (h : Hd) (L : List ByteArray) (ad : Option Addr) (c : Nat) (S : Sel) (As : List Ty) (ad2 : Option Addr) (c2 : Nat) (K : Nat → Hd) (w : World) (hl : Lies w A0 r T h)
    (ht : tab w S 9 ad L.length c 1 (fun i => [.string (L.getD i ByteArray.empty)])) (hL : ∀ s, s ∈ L → s.size ≤ 140737488351232) (hlL : L.length * 16 ≤ 140737488351232)
    (ha : LiesAll w A0 Ra As ad2 c2 K) (hlA : As.length * 104 ≤ 140737488351232) :
    Calls Try.prog 17 #[h.val, .slice ad L.length c, .slice ad2 As.length c2] w (SubstP r Ra T L As w) := by
  obtain ⟨i3, hq, hq0, hq1, hq2⟩ := info_parts infoZ
  have HL := Lib.hid hl
  have HT := Lib.hid ht
  have HA := Lib.hid ha
  have HSZ := Lib.hid hL
  clear hl ht ha hL
  have hmm := @run_makeMap Try.prog
  obtain ⟨k, nm, con, fa, fl, fc, la, ll, lc, ra, rl, rc⟩ := h
  cases hT : (look 9 T).2.2 with
  | false =>
    have HCH : Hid (Calls Try.prog 29 #[.agg #[.int .i64 k, .string nm, .int .i64 con, .slice fa fl fc, .slice la ll lc, .slice ra rl rc]] ((w.alloc (.cells #[.int .i64 k, .string nm, .int .i64 con, .slice fa fl fc, .slice la ll lc, .slice ra rl rc] 42)).alloc (.cells #[.int .i64 0, .string ⟨#[]⟩, .int .i64 0, .slice none 0 0, .slice none 0 0, .slice none 0 0] 42)) fun e w' => e = .returned (.int .i64 1) ∧ Kp ((w.alloc (.cells #[.int .i64 k, .string nm, .int .i64 con, .slice fa fl fc, .slice la ll lc, .slice ra rl rc] 42)).alloc (.cells #[.int .i64 0, .string ⟨#[]⟩, .int .i64 0, .slice none 0 0, .slice none 0 0, .slice none 0 0] 42)) w') := Lib.hid ((c_Check r T _ _ (HL.out.keep (((Kp.refl w).alloc _).alloc _))).mono fun e w' hp => ⟨hp.1.trans (by rw [hT]; rfl), hp.2⟩)
    have HT1 := Lib.hid (sub_form (L := L) (As := As) hT)
    clear hT
    go_enter Try.func17, Try.ntmps17
    go_wp2_with (first | (go_at_call 29; refine HCH.out.mono ?_; rintro e w6 ⟨rfl, hk6⟩; have hb6 := (hk6.blk (b := w.heap.size + 1) (by simp <;> omega)).trans (heap_at (by simp)); have HB6 := Lib.hid hb6; have HK6 := Lib.hid hk6; clear hk6 hb6) | ((with_reducible show wpList _ _ _ (⟨none, .store _ (.tmp 6) (.tmp 26), _, _, _, _⟩ :: _) _ _); refine wpList_store_rowK (by rfl) 42 _ _ (by rfl) (w.heap.size + 1) #[.int .i64 0, .string ⟨#[]⟩, .int .i64 0, .slice none 0 0, .slice none 0 0, .slice none 0 0] (by rfl) (by rfl) 42 _ HB6.out (by exact sizeT) (by rfl) (by simp [Value.oneCell']) ?_; intro w7 hb7 hke; obtain ⟨u0, u1, u2, u3, u4, u5, us⟩ := row6 hb7; have HKE := Lib.hid hke; clear hke hb7))
    exact bodyPost_ret (v := .tuple #[.agg #[.int .i64 0, .string ⟨#[]⟩, .int .i64 0, .slice none 0 0, .slice none 0 0, .slice none 0 0], .int .i64 1]) (by simp [results, Try.results17, go_sem, u0, u1, u2, u3, u4, u5]) rfl (sub_bad HT1.out (by decide) (HKE.out.old ((((Kp.refl w).alloc _).alloc _).trans HK6.out) (by omega)))
  | true =>
    have HCH : Hid (Calls Try.prog 29 #[.agg #[.int .i64 k, .string nm, .int .i64 con, .slice fa fl fc, .slice la ll lc, .slice ra rl rc]] ((w.alloc (.cells #[.int .i64 k, .string nm, .int .i64 con, .slice fa fl fc, .slice la ll lc, .slice ra rl rc] 42)).alloc (.cells #[.int .i64 0, .string ⟨#[]⟩, .int .i64 0, .slice none 0 0, .slice none 0 0, .slice none 0 0] 42)) fun e w' => e = .returned (.int .i64 0) ∧ Kp ((w.alloc (.cells #[.int .i64 k, .string nm, .int .i64 con, .slice fa fl fc, .slice la ll lc, .slice ra rl rc] 42)).alloc (.cells #[.int .i64 0, .string ⟨#[]⟩, .int .i64 0, .slice none 0 0, .slice none 0 0, .slice none 0 0] 42)) w') := Lib.hid ((c_Check r T _ _ (HL.out.keep (((Kp.refl w).alloc _).alloc _))).mono fun e w' hp => ⟨hp.1.trans (by rw [hT]; rfl), hp.2⟩)
    have HT1 := Lib.hid hT
    clear hT
    go_enter Try.func17, Try.ntmps17
    go_wp2_with (first | (go_at_call 29; refine HCH.out.mono ?_; rintro e w6 ⟨rfl, hk6⟩; have hb6 := (hk6.blk (b := w.heap.size + 1) (by simp <;> omega)).trans (heap_at (by simp)); have hbx := (hk6.blk (b := w.heap.size) (by simp <;> omega)).trans ((((Kp.refl _).alloc _).blk (b := w.heap.size) (by simp <;> omega)).trans (heap_alloc_new _ _)); have HB6 := Lib.hid hb6; have HBX := Lib.hid hbx; have HK6 := Lib.hid ((((Kp.refl w).alloc _).alloc _).trans hk6); have hz6 : w.heap.size + 1 < w6.heap.size := (Array.getElem?_eq_some_iff.1 hb6).1; clear hk6 hb6 hbx) | (at_make; refine wpList_make_own _ rfl _ _ 61 rfl w6.heap.size 63 i3 _ 2 Try.underlying61 hq hq0 hq1 _ _ _ As.length rfl rfl (by omega) (by rw [hq2]; omega) (by unfold maxLen; omega) (by simp) ?_; intro w1 hown hgrow; have hk1 := (Kp.refl _).grown hgrow (fun _ h => by cases h)))
    have HK0 := Lib.hid hk1
    clear hgrow hk1
    go_loopw [9, 33] (fun v i wr => ∃ n : Nat, n ≤ As.length ∧ i = .int .i64 n ∧ wr.ownsRow w6.heap.size 63 2 v n (flat (szC As) n) ∧ Kp w6 wr ∧ (∀ j A, j < n → As[j]? = some A → (look 9 A).2.2 = true)) (fun _ i _ => As.length - (intOf i).toNat)
    case atStart => exact ⟨0, Nat.zero_le _, rfl, by simpa [flat] using hown, HK0.out, fun j A hj => absurd hj (by omega)⟩
    case round =>
      obtain ⟨n, hn, rfl, ho, hkr, hok⟩ := hrel
      have HO := Lib.hid ho
      have HKR := Lib.hid hkr
      have HOK := Lib.hid hok
      clear ho hkr hok hown
      have hzr : w6.heap.size ≤ wr.heap.size := HKR.out.sz
      by_cases hlt : n < As.length
      · obtain ⟨b, o, ha, hr⟩ := HA.out.1.at (by omega)
        have HAD := Lib.hid ha
        have HR := Lib.hid (hr n hlt)
        clear ha hr
        obtain ⟨X, hX⟩ : ∃ X, As[n]? = some X := ⟨_, List.getElem?_eq_getElem hlt⟩
        have HX := Lib.hid hX
        have hxd : As.getD n (.mk 0 ⟨#[]⟩ 0 [] 0 []) = X := by rw [List.getD_eq_getElem?_getD, hX]; rfl
        have HXD := Lib.hid hxd
        clear hX hxd
        have HKW := Lib.hid (HK6.out.trans HKR.out)
        have HLX := Lib.hid (HA.out.2 n X HX.out)
        obtain ⟨sd, hsd⟩ : ∃ sd, gd (look 9 X) = sd := ⟨_, rfl⟩
        obtain ⟨sc, hsc⟩ : ∃ sc, gc (look 9 X) = sc := ⟨_, rfl⟩
        have HSD := Lib.hid hsd
        have HSC := Lib.hid hsc
        have CG : Hid (∀ q, ef (look 9 X).2.2 = q → ∀ W, Kp w W → Calls Try.prog 30 #[(K n).val] W fun e w' => e = .returned (.tuple #[.agg #[.int .i64 sd, .int .i64 sc], .int .i64 q]) ∧ Kp W w') :=
          Lib.hid (fun q hq W hk => (c_gauge Ra X (K n) W (HLX.out.keep hk)).mono fun e w' hp => ⟨hp.1.trans (by rw [HSD.out, HSC.out, hq]), hp.2⟩)
        clear hsd hsc
        have hbr := (HKR.out.blk (b := w.heap.size + 1) hz6).trans HB6.out
        have HBR := Lib.hid hbr
        clear hbr
        cases hs3 : (look 9 X).2.2 with
        | false =>
          have HE1 := Lib.hid (sub_form2 (T := T) (L := L) HX.out hs3)
          have CG1 := Lib.hid (CG.out 1 (by rw [hs3]; rfl))
          clear hs3
          go_wp2_with (first | ((with_reducible show wpList _ _ _ (⟨some 35, _, _, _, _, _⟩ :: _) _ _); refine wpList_index_tab (d := 35) _ _ _ rfl 42 Try.underlying23 6 rfl _ _ _ _ o (by rfl) HAD.out n (by rfl) hlt ?_) | ((with_reducible show wpList _ _ _ (⟨some 36, _, _, _, _, _⟩ :: _) _ _); refine wpList_load_ty (d := 36) _ _ rfl _ Try.underlying42 w _ _ b (o + n * 6) (by rfl) rfl (by first | rfl | omega) (K n) HR.out HKW.out rfl ?_) | (go_at_call 30; refine (CG1.out _ (HKW.out.alloc _)).mono ?_; rintro e w8 ⟨rfl, hk8⟩; have hb8 := (hk8.blk (b := w.heap.size + 1) (by simp; omega)).trans ((((Kp.refl _).alloc _).blk (b := w.heap.size + 1) (by omega)).trans HBR.out); have HB8 := Lib.hid (((Kp.refl _).alloc (.cells #[.int .i64 sd, .int .i64 sc] 63)).blk (b := w.heap.size + 1) (Array.getElem?_eq_some_iff.1 hb8).1 |>.trans hb8); have HK8 := Lib.hid (HKW.out.trans (((Kp.refl wr).alloc _).trans hk8)); clear hk8 hb8) | ((with_reducible show wpList _ _ _ (⟨none, .store _ (.tmp 6) (.tmp 44), _, _, _, _⟩ :: _) _ _); refine wpList_store_rowK (by rfl) 42 _ _ (by rfl) (w.heap.size + 1) #[.int .i64 0, .string ⟨#[]⟩, .int .i64 0, .slice none 0 0, .slice none 0 0, .slice none 0 0] (by rfl) (by rfl) 42 _ HB8.out (by exact sizeT) (by rfl) (by simp [Value.oneCell']) ?_; intro w7 hb7 hke; obtain ⟨u0, u1, u2, u3, u4, u5, us⟩ := row6 hb7; have HKE := Lib.hid hke; clear hke hb7))
          exact bodyPost_ret (v := .tuple #[.agg #[.int .i64 0, .string ⟨#[]⟩, .int .i64 0, .slice none 0 0, .slice none 0 0, .slice none 0 0], .int .i64 1]) (by simp [results, Try.results17, go_sem, u0, u1, u2, u3, u4, u5]) rfl (sub_bad HE1.out (by decide) (HKE.out.old (HK8.out.alloc _) (by omega)))
        | true =>
          have CG1 := Lib.hid (CG.out 0 (by rw [hs3]; rfl))
          have HS3 := Lib.hid hs3
          clear hs3
          go_wp2_with (first | ((with_reducible show wpList _ _ _ (⟨some 35, _, _, _, _, _⟩ :: _) _ _); refine wpList_index_tab (d := 35) _ _ _ rfl 42 Try.underlying23 6 rfl _ _ _ _ o (by rfl) HAD.out n (by rfl) hlt ?_) | ((with_reducible show wpList _ _ _ (⟨some 36, _, _, _, _, _⟩ :: _) _ _); refine wpList_load_ty (d := 36) _ _ rfl _ Try.underlying42 w _ _ b (o + n * 6) (by rfl) rfl (by first | rfl | omega) (K n) HR.out HKW.out rfl ?_) | (go_at_call 30; refine (CG1.out _ (HKW.out.alloc _)).mono ?_; rintro e w8 ⟨rfl, hk8⟩; have HO8 := Lib.hid (own_kp (HO.out.alloc (.cells #[.int .i64 (K n).k, .string (K n).nm, .int .i64 (K n).con, .slice (K n).fa (K n).fl (K n).fc, .slice (K n).la (K n).ll (K n).lc, .slice (K n).ra (K n).rl (K n).rc] 42)) hk8); have HK8 := Lib.hid (((Kp.refl wr).alloc _).trans hk8); clear hk8) | ((with_reducible show wpList _ _ _ (⟨some 49, _, _, _, _, _⟩ :: _) _ _); refine wpList_append_one (d := 49) _ _ 61 rfl w6.heap.size 63 i3 _ 2 16 Try.underlying61 hq hq0 hq1 hq2 rfl (by decide) _ n _ (by rfl) _ (HO8.out.alloc _) [.int .i64 sd, .int .i64 sc] _ _ _ (by rfl) (by first | rfl | simp) (by rfl) (by rfl) (by intro u hu; simp at hu; rcases hu with rfl | rfl <;> rfl) (by unfold maxLen; omega) (by omega) (by have := HK8.out.sz; simp; omega) ?_; intro v1 w9 ho1 hg1))
          go_roundw
          case rel => exact ⟨n + 1, by omega, by go_num, by rw [flat, szC_at HXD.out HSD.out HSC.out]; exact ho1, ((((HKR.out.trans HK8.out).alloc _).alloc _).grown hg1 (fun k hk => (HO.out.lt k hk).1)), fun j A hj hA => by
            by_cases hjn : j < n
            · exact HOK.out j A hjn hA
            · obtain rfl : n = j := by omega
              have := HX.out.symm.trans hA
              cases this
              exact HS3.out⟩
          case measure => simp [intOf]; omega
      · obtain rfl : As.length = n := by omega
        have hall : allOk As = true := List.all_eq_true.2 (fun A hA => by
          obtain ⟨j, hj, e⟩ := List.getElem_of_mem hA
          exact HOK.out j A hj (by rw [← e]; exact List.getElem?_eq_getElem hj))
        obtain ⟨wm, hwm⟩ : ∃ wm, wm = wr := ⟨_, rfl⟩
        subst hwm
        obtain ⟨za, zc, rfl, _, htz, _⟩ := tab_of_owns HO.out (fun _ => rfl)
        have HALL := Lib.hid hall
        have HTZ := Lib.hid htz
        have hbr := (HKR.out.blk (b := w.heap.size + 1) hz6).trans HB6.out
        have HBR := Lib.hid hbr
        have hbx := (HKR.out.blk (b := w.heap.size) (by omega)).trans HBX.out
        have HBX2 := Lib.hid hbx
        clear hall htz hbr hbx HO
        have HKW := Lib.hid (HK6.out.trans HKR.out)
        by_cases hlen : As.length = L.length
        · have hne : ((L.length : Int) != (As.length : Int)) = false := by simp; omega
          have HLEN := Lib.hid hlen
          have hzw : w.heap.size + 1 < wm.heap.size := by omega
          clear hlen
          go_wp2_with fail
          have m1 : MapIs ((wm.alloc (.map #[] 0)).alloc (.map #[] 0)) Try.prog 9 wm.heap.size 0 (mapT L K 0) := by rw [mapT_0]; exact (mapIs_made wm _ _).alloc _
          have m2 : MapIs ((wm.alloc (.map #[] 0)).alloc (.map #[] 0)) Try.prog 9 (wm.heap.size + 1) 0 (mapZ L As 0) := by
            rw [mapZ_0]
            have := mapIs_made (wm.alloc (.map #[] 0)) Try.prog 9
            rwa [World.size_alloc] at this
          have HM1 := Lib.hid m1
          have HM2 := Lib.hid m2
          clear m1 m2 hne
          go_loopw [61] (fun i wr => ∃ m : Nat, m ≤ L.length ∧ i = .int .i64 m ∧ MapIs wr Try.prog 9 wm.heap.size m (mapT L K m) ∧ MapIs wr Try.prog 9 (wm.heap.size + 1) m (mapZ L As m) ∧ Kp wm wr ∧ (L.take m).Nodup) (fun i _ => L.length - (intOf i).toNat)
          case atStart => exact ⟨0, Nat.zero_le _, rfl, HM1.out, HM2.out, ((Kp.refl wm).alloc _).alloc _, List.nodup_nil⟩
          case round =>
            obtain ⟨m, hm, rfl, hM1, hM2, hkz, hnd⟩ := hrel
            clear HM1 HM2
            have HM1 := Lib.hid hM1
            have HM2 := Lib.hid hM2
            have HKZ := Lib.hid hkz
            have HND := Lib.hid hnd
            clear hM1 hM2 hkz hnd
            have HKWZ := Lib.hid (HKW.out.trans HKZ.out)
            have hzz : wm.heap.size + 1 < wr.heap.size := HM2.out.lt
            have hbr := (HKZ.out.blk (b := w.heap.size + 1) hzw).trans HBR.out
            have HBRZ := Lib.hid hbr
            have hbx := (HKZ.out.blk (b := w.heap.size) (by omega)).trans HBX2.out
            have HBXZ := Lib.hid hbx
            clear hbr hbx
            by_cases hlt : m < L.length
            · obtain ⟨nb, no, hna, hnr⟩ := HT.out.at (by omega)
              have HNA := Lib.hid hna
              obtain ⟨sn, hsn⟩ : ∃ sn, L.getD m ByteArray.empty = sn := ⟨_, rfl⟩
              have hcs : wr.cell? ⟨nb, no + m, none⟩ = some (.string sn) := by
                have := (HKWZ.out.range (hnr m hlt)) 0 (.string sn) (by rw [hsn]; rfl)
                simpa using this
              have hcl : nb < wr.heap.size := lt_of_cell hcs
              have HSN := Lib.hid hsn
              have hss : sn.size ≤ maxLen := by
                have := HSZ.out sn (by rw [← hsn, List.getD_eq_getElem?_getD, List.getElem?_eq_getElem hlt]; exact List.getElem_mem _)
                unfold maxLen; omega
              have HSS := Lib.hid hss
              clear hna hnr hsn hss
              by_cases hdup : sn ∈ L.take m
              · obtain ⟨j, hj, hjl⟩ := idx_mem hdup
                have hu : (mapZ L As m sn).getD (.agg #[.int .i64 0, .int .i64 0]) = .agg #[.int .i64 ((szs (As.getD j (.mk 0 ⟨#[]⟩ 0 [] 0 []))).1 : Nat), .int .i64 ((szs (As.getD j (.mk 0 ⟨#[]⟩ 0 [] 0 []))).2 : Nat)] := by unfold mapZ; rw [hj]; rfl
                obtain ⟨z1, hz1⟩ : ∃ z1, (szs (As.getD j (.mk 0 ⟨#[]⟩ 0 [] 0 []))).1 = z1 := ⟨_, rfl⟩
                obtain ⟨z2, hz2⟩ : ∃ z2, (szs (As.getD j (.mk 0 ⟨#[]⟩ 0 [] 0 []))).2 = z2 := ⟨_, rfl⟩
                rw [hz1, hz2] at hu
                have HU := Lib.hid hu
                have HOKM := Lib.hid (show (mapZ L As m sn).isSome = true by unfold mapZ; rw [hj]; rfl)
                have HN2 := Lib.hid (sub_arg HT1.out HALL.out (fun h => absurd ((take_nodup hlt).1 (nodup_take h.2 (m + 1))).2 (by
                  have := HSN.out
                  rw [List.getD_eq_getElem?_getD, List.getElem?_eq_getElem hlt] at this
                  have e : L[m] = sn := this
                  rw [e]
                  exact fun hx => hx hdup)))
                clear hdup hj hjl hu hz1 hz2
                go_wp2_with (first | ((with_reducible show wpList _ _ _ (⟨some 64, _, _, _, _, _⟩ :: _) _ _); refine wpList_index_tab (d := 64) _ _ _ rfl 9 Try.underlying22 1 rfl _ _ _ _ no (by rfl) HNA.out m (by rfl) hlt ?_) | ((with_reducible show wpList _ _ _ (⟨some 69, _, _, _, _, _⟩ :: _) _ _); refine wpList_map_ok (d := 69) _ _ 67 9 63 rfl Try.underlying9 Try.underlying67 _ (zeroZ) (wm.heap.size + 1) m _ (by rfl) HM2.out sn (by rfl) HSS.out _ HU.out _ HOKM.out ?_) | ((with_reducible show wpList _ _ _ (⟨none, .store _ (.tmp 6) (.tmp 73), _, _, _, _⟩ :: _) _ _); refine wpList_store_rowK (by rfl) 42 _ _ (by rfl) (w.heap.size + 1) #[.int .i64 0, .string ⟨#[]⟩, .int .i64 0, .slice none 0 0, .slice none 0 0, .slice none 0 0] (by rfl) (by rfl) 42 _ (((Kp.refl wr).alloc _).blk (b := w.heap.size + 1) (by omega) |>.trans HBRZ.out) (by exact sizeT) (by rfl) (by simp [Value.oneCell']) ?_; intro w7 hb7 hke; obtain ⟨u0, u1, u2, u3, u4, u5, us⟩ := row6 hb7; have HKE := Lib.hid hke; clear hke hb7))
                exact bodyPost_ret (v := .tuple #[.agg #[.int .i64 0, .string ⟨#[]⟩, .int .i64 0, .slice none 0 0, .slice none 0 0, .slice none 0 0], .int .i64 2]) (by simp [results, Try.results17, go_sem, u0, u1, u2, u3, u4, u5]) rfl (sub_bad HN2.out (by decide) (HKE.out.old (HKWZ.out.alloc _) (by omega)))
              · have HU := Lib.hid (show (mapZ L As m sn).getD (.agg #[.int .i64 0, .int .i64 0]) = .agg #[.int .i64 0, .int .i64 0] by unfold mapZ; rw [idx_none hdup]; rfl)
                have HOKM := Lib.hid (show (mapZ L As m sn).isSome = false by unfold mapZ; rw [idx_none hdup]; rfl)
                have HDUP := Lib.hid hdup
                clear hdup
                go_wp2_with (first | ((with_reducible show wpList _ _ _ (⟨some 64, _, _, _, _, _⟩ :: _) _ _); refine wpList_index_tab (d := 64) _ _ _ rfl 9 Try.underlying22 1 rfl _ _ _ _ no (by rfl) HNA.out m (by rfl) hlt ?_) | ((with_reducible show wpList _ _ _ (⟨some 69, _, _, _, _, _⟩ :: _) _ _); refine wpList_map_ok (d := 69) _ _ 67 9 63 rfl Try.underlying9 Try.underlying67 _ (zeroZ) (wm.heap.size + 1) m _ (by rfl) HM2.out sn (by rfl) HSS.out _ HU.out _ HOKM.out ?_))
                obtain ⟨ab, ao, haa, har⟩ := HA.out.1.at (by have := HLEN.out; omega)
                obtain ⟨zb, zo, hza, hzr⟩ := HTZ.out.at (by have := HLEN.out; omega)
                have hmA : m < As.length := by have := HLEN.out; omega
                obtain ⟨sd, hsd⟩ : ∃ sd, (szs (As.getD m (.mk 0 ⟨#[]⟩ 0 [] 0 []))).1 = sd := ⟨_, rfl⟩
                obtain ⟨sc, hsc⟩ : ∃ sc, (szs (As.getD m (.mk 0 ⟨#[]⟩ 0 [] 0 []))).2 = sc := ⟨_, rfl⟩
                have hzc := hzr m hmA
                unfold szC at hzc
                rw [hsd, hsc] at hzc
                have CS : Hid (∀ w' : World, Kp wm w' → w'.cell? ⟨ab, ao + m * 6, none⟩ = some (.int .i64 (K m).k) ∧ w'.cell? ⟨ab, ao + m * 6 + 1, none⟩ = some (.string (K m).nm) ∧ w'.cell? ⟨ab, ao + m * 6 + 2, none⟩ = some (.int .i64 (K m).con) ∧ w'.cell? ⟨ab, ao + m * 6 + 3, none⟩ = some (.slice (K m).fa (K m).fl (K m).fc) ∧ w'.cell? ⟨ab, ao + m * 6 + 4, none⟩ = some (.slice (K m).la (K m).ll (K m).lc) ∧ w'.cell? ⟨ab, ao + m * 6 + 5, none⟩ = some (.slice (K m).ra (K m).rl (K m).rc) ∧ w'.cell? ⟨zb, zo + m * 2, none⟩ = some (.int .i64 (sd : Nat)) ∧ w'.cell? ⟨zb, zo + m * 2 + 1, none⟩ = some (.int .i64 (sc : Nat))) := Lib.hid (fun w' hk => ⟨(hk.range (HKW.out.range (har m hmA))) 0 _ rfl, (hk.range (HKW.out.range (har m hmA))) 1 _ rfl, (hk.range (HKW.out.range (har m hmA))) 2 _ rfl, (hk.range (HKW.out.range (har m hmA))) 3 _ rfl, (hk.range (HKW.out.range (har m hmA))) 4 _ rfl, (hk.range (HKW.out.range (har m hmA))) 5 _ rfl, (hk.range hzc) 0 _ rfl, (hk.range hzc) 1 _ rfl⟩)
                have HSD := Lib.hid hsd
                have HSC := Lib.hid hsc
                have KA := Lib.hid (((Kp.refl wr).alloc (.cells #[.int .i64 0, .int .i64 0] 63)).drew)
                clear har hzr hzc hsd hsc
                subst haa hza
                have hi1 : ∀ W, (Instr.indexAt 23 (.slice (some ⟨ab, ao, none⟩) As.length c2) (.int .i64 (m : Nat))).run Try.prog W = .ok (.pointer (some ⟨ab, ao + m * 6, none⟩)) W := fun W => run_index_rows Try.underlying23 rfl hmA
                have hi2 : ∀ W, (Instr.indexAt 61 (.slice (some ⟨zb, zo, none⟩) As.length zc) (.int .i64 (m : Nat))).run Try.prog W = .ok (.pointer (some ⟨zb, zo + m * 2, none⟩)) W := fun W => run_index_rows Try.underlying61 rfl hmA
                refine wp_region_held_drew (S := (fun w' : World => w'.cell? ⟨ab, ao + m * 6, none⟩ = some (.int .i64 (K m).k) ∧ w'.cell? ⟨ab, ao + m * 6 + 1, none⟩ = some (.string (K m).nm) ∧ w'.cell? ⟨ab, ao + m * 6 + 2, none⟩ = some (.int .i64 (K m).con) ∧ w'.cell? ⟨ab, ao + m * 6 + 3, none⟩ = some (.slice (K m).fa (K m).fl (K m).fc) ∧ w'.cell? ⟨ab, ao + m * 6 + 4, none⟩ = some (.slice (K m).la (K m).ll (K m).lc) ∧ w'.cell? ⟨ab, ao + m * 6 + 5, none⟩ = some (.slice (K m).ra (K m).rl (K m).rc) ∧ w'.cell? ⟨zb, zo + m * 2, none⟩ = some (.int .i64 (sd : Nat)) ∧ w'.cell? ⟨zb, zo + m * 2 + 1, none⟩ = some (.int .i64 (sc : Nat)))) (by kernel_rfl) (CS.out _ (HKZ.out.trans KA.out)) (fun hHeld0 => ?_)
                refine wpAnyH_take (i := 0) (oi := { dst := some 74, op := Op.move (Operand.tmp 14), type := 66, pos := "subst.go:26", after := #[], guard := none }) (v := ?_) rfl (by kernel_rfl) (by kernel_rfl) (by kernel_rfl) (fun _ _ _ h => h) (Or.inl ⟨by rfl, ?_⟩) (by assumption) ?_
                rotate_left
                · (intro wz hSw; (try dsimp only at hSw); go_simp; first | done | with_reducible rfl)
                try simp only [Act.put, List.setIfInBounds_toArray, List.set_cons_zero, List.set_cons_succ]
                refine wpAnyH_take (i := 1) (oi := { dst := some 75, op := Op.move (Operand.tmp 17), type := 9, pos := "subst.go:26", after := #[], guard := none }) (v := ?_) rfl (by kernel_rfl) (by kernel_rfl) (by kernel_rfl) (fun _ _ _ h => h) (Or.inl ⟨by rfl, ?_⟩) (by assumption) ?_
                rotate_left
                · (intro wz hSw; (try dsimp only at hSw); go_simp; first | done | with_reducible rfl)
                try simp only [Act.put, List.setIfInBounds_toArray, List.set_cons_zero, List.set_cons_succ]
                refine wpAnyH_take (i := 2) (oi := { dst := some 76, op := Op.move (Operand.tmp 15), type := 67, pos := "subst.go:26", after := #[{ on := 14, ground := Ground.gcOnly Departure.lateStores }], guard := none }) (v := ?_) rfl (by kernel_rfl) (by kernel_rfl) (by kernel_rfl) (fun _ _ _ h => h) (Or.inl ⟨by rfl, ?_⟩) (by assumption) ?_
                rotate_left
                · (intro wz hSw; (try dsimp only at hSw); go_simp; first | done | with_reducible rfl)
                try simp only [Act.put, List.setIfInBounds_toArray, List.set_cons_zero, List.set_cons_succ]
                refine wpAnyH_take (i := 3) (oi := { dst := some 77, op := Op.move (Operand.tmp 17), type := 9, pos := "subst.go:26", after := #[{ on := 14, ground := Ground.gcOnly Departure.lateStores }], guard := none }) (v := ?_) rfl (by kernel_rfl) (by kernel_rfl) (by kernel_rfl) (fun _ _ _ h => h) (Or.inl ⟨by rfl, ?_⟩) (by assumption) ?_
                rotate_left
                · (intro wz hSw; (try dsimp only at hSw); go_simp; first | done | with_reducible rfl)
                try simp only [Act.put, List.setIfInBounds_toArray, List.set_cons_zero, List.set_cons_succ]
                refine wpAnyH_take (i := 4) (oi := { dst := some 78, op := Op.move (Operand.tmp 2), type := 23, pos := "subst.go:26", after := #[{ on := 12, ground := Ground.gcOnly Departure.tupleMapEntryFirst }], guard := none }) (v := ?_) rfl (by kernel_rfl) (by kernel_rfl) (by kernel_rfl) (fun _ _ _ h => h) (Or.inl ⟨by rfl, ?_⟩) (by assumption) ?_
                rotate_left
                · (intro wz hSw; (try dsimp only at hSw); go_simp; first | done | with_reducible rfl)
                try simp only [Act.put, List.setIfInBounds_toArray, List.set_cons_zero, List.set_cons_succ]
                refine wpAnyH_take (i := 5) (oi := { dst := some 79, op := Op.move (Operand.tmp 16), type := 3, pos := "subst.go:26", after := #[{ on := 12, ground := Ground.gcOnly Departure.tupleMapEntryFirst }], guard := none }) (v := ?_) rfl (by kernel_rfl) (by kernel_rfl) (by kernel_rfl) (fun _ _ _ h => h) (Or.inl ⟨by rfl, ?_⟩) (by assumption) ?_
                rotate_left
                · (intro wz hSw; (try dsimp only at hSw); go_simp; first | done | with_reducible rfl)
                try simp only [Act.put, List.setIfInBounds_toArray, List.set_cons_zero, List.set_cons_succ]
                refine wpAnyH_take (i := 6) (oi := { dst := some 80, op := Op.indexAddr 23 (Operand.tmp 78) (Operand.tmp 79), type := 0, pos := "subst.go:26", after := #[{ on := 4, ground := Ground.data }, { on := 5, ground := Ground.data }, { on := 12, ground := Ground.gcOnly Departure.tupleMapEntryFirst }], guard := none }) (v := ?_) rfl (by kernel_rfl) (by kernel_rfl) (by kernel_rfl) (fun _ _ _ h => h) (Or.inl ⟨by rfl, ?_⟩) (by assumption) ?_
                rotate_left
                · (intro wz hSw; (try dsimp only at hSw); go_simp; first | done | with_reducible rfl)
                try simp only [Act.put, List.setIfInBounds_toArray, List.set_cons_zero, List.set_cons_succ]
                refine wpAnyH_take (i := 7) (oi := { dst := some 81, op := Op.load 42 (Operand.tmp 80), type := 42, pos := "subst.go:26", after := #[{ on := 6, ground := Ground.data }, { on := 12, ground := Ground.gcOnly Departure.tupleMapEntryFirst }], guard := none }) (v := ?_) rfl (by kernel_rfl) (by kernel_rfl) (by kernel_rfl) (fun _ _ _ h => h) (Or.inl ⟨by rfl, ?_⟩) (by assumption) ?_
                rotate_left
                · (intro wz hSw; (try dsimp only at hSw); go_simp; first | done | with_reducible rfl)
                try simp only [Act.put, List.setIfInBounds_toArray, List.set_cons_zero, List.set_cons_succ]
                refine wpAnyH_take (i := 8) (oi := { dst := some 82, op := Op.move (Operand.tmp 9), type := 61, pos := "subst.go:26", after := #[], guard := none }) (v := ?_) rfl (by kernel_rfl) (by kernel_rfl) (by kernel_rfl) (fun _ _ _ h => h) (Or.inl ⟨by rfl, ?_⟩) (by assumption) ?_
                rotate_left
                · (intro wz hSw; (try dsimp only at hSw); go_simp; first | done | with_reducible rfl)
                try simp only [Act.put, List.setIfInBounds_toArray, List.set_cons_zero, List.set_cons_succ]
                refine wpAnyH_take (i := 9) (oi := { dst := some 83, op := Op.move (Operand.tmp 16), type := 3, pos := "subst.go:26", after := #[], guard := none }) (v := ?_) rfl (by kernel_rfl) (by kernel_rfl) (by kernel_rfl) (fun _ _ _ h => h) (Or.inl ⟨by rfl, ?_⟩) (by assumption) ?_
                rotate_left
                · (intro wz hSw; (try dsimp only at hSw); go_simp; first | done | with_reducible rfl)
                try simp only [Act.put, List.setIfInBounds_toArray, List.set_cons_zero, List.set_cons_succ]
                refine wpAnyH_take (i := 10) (oi := { dst := some 84, op := Op.indexAddr 61 (Operand.tmp 82) (Operand.tmp 83), type := 0, pos := "subst.go:26", after := #[{ on := 8, ground := Ground.data }, { on := 9, ground := Ground.data }], guard := none }) (v := ?_) rfl (by kernel_rfl) (by kernel_rfl) (by kernel_rfl) (fun _ _ _ h => h) (Or.inl ⟨by rfl, ?_⟩) (by assumption) ?_
                rotate_left
                · (intro wz hSw; (try dsimp only at hSw); go_simp; first | done | with_reducible rfl)
                try simp only [Act.put, List.setIfInBounds_toArray, List.set_cons_zero, List.set_cons_succ]
                refine wpAnyH_take (i := 11) (oi := { dst := some 85, op := Op.load 63 (Operand.tmp 84), type := 63, pos := "subst.go:26", after := #[{ on := 10, ground := Ground.data }], guard := none }) (v := ?_) rfl (by kernel_rfl) (by kernel_rfl) (by kernel_rfl) (fun _ _ _ h => h) (Or.inl ⟨by rfl, ?_⟩) (by assumption) ?_
                rotate_left
                · (intro wz hSw; (try dsimp only at hSw); go_simp; first | done | with_reducible rfl)
                try simp only [Act.put, List.setIfInBounds_toArray, List.set_cons_zero, List.set_cons_succ]
                refine wpAnyH_ready (rs := [12]) (by kernel_rfl) (by simp) ?_
                refine AllReadyH.cons (o := { dst := some 86, op := Op.mapEntry 66 (Operand.tmp 74) (Operand.tmp 75), type := 0, pos := "subst.go:26", after := #[{ on := 0, ground := Ground.data }, { on := 1, ground := Ground.data }, { on := 0, ground := Ground.textOnly Departure.tupleMapEntryFirst }, { on := 1, ground := Ground.textOnly Departure.tupleMapEntryFirst }, { on := 2, ground := Ground.textOnly Departure.lateStores }, { on := 3, ground := Ground.textOnly Departure.lateStores }, { on := 4, ground := Ground.textOnly Departure.tupleMapEntryFirst }, { on := 5, ground := Ground.textOnly Departure.tupleMapEntryFirst }, { on := 6, ground := Ground.textOnly Departure.tupleMapEntryFirst }, { on := 7, ground := Ground.textOnly Departure.tupleMapEntryFirst }, { on := 8, ground := Ground.textOnly Departure.lateStores }, { on := 9, ground := Ground.textOnly Departure.lateStores }, { on := 10, ground := Ground.textOnly Departure.lateStoresUnsure }, { on := 11, ground := Ground.phase }], guard := none }) rfl (fun Kw hKw => ?_) AllReadyH.nil
                refine step_entry (by rfl) _ _ 66 9 42 (by rfl) Try.underlying9 Try.underlying66 _ zeroY wm.heap.size m (mapT L K m) (by rfl) (HM1.out.keep KA.out) (by unfold maxLen; omega) sn (by rfl) HSS.out ?_
                intro v0 st1 w1 hmid1 hg1
                have HMID1 := Lib.hid hmid1
                have HG1 := Lib.hid hg1
                clear hmid1 hg1
                refine hKw.out _ _ (CS.out _ (Kp.grown (HKZ.out.trans KA.out) HG1.out (fun k hk => by cases hk; omega))) (fun hHeld1 => ?_)
                clear hKw Kw hHeld0
                try simp only [Act.put, List.setIfInBounds_toArray, List.set_cons_zero, List.set_cons_succ]
                refine wpAnyH_take (i := 13) (oi := { dst := some 87, op := Op.extract (Operand.tmp 86) 1, type := 3, pos := "subst.go:26", after := #[{ on := 12, ground := Ground.data }], guard := none }) (v := ?_) rfl (by kernel_rfl) (by kernel_rfl) (by kernel_rfl) (fun _ _ _ h => h) (Or.inl ⟨by rfl, ?_⟩) (by assumption) ?_
                rotate_left
                · (intro wz hSw; (try dsimp only at hSw); go_simp; first | done | with_reducible rfl)
                try simp only [Act.put, List.setIfInBounds_toArray, List.set_cons_zero, List.set_cons_succ]
                refine wpAnyH_ready (rs := [14]) (by kernel_rfl) (by simp) ?_
                refine AllReadyH.cons (o := { dst := none, op := Op.entryStore 66 (Operand.tmp 74) (Operand.tmp 87) (Operand.tmp 81), type := 0, pos := "subst.go:26", after := #[{ on := 0, ground := Ground.data }, { on := 13, ground := Ground.data }, { on := 7, ground := Ground.data }, { on := 12, ground := Ground.chain }, { on := 0, ground := Ground.phase }, { on := 1, ground := Ground.phase }, { on := 2, ground := Ground.textOnly Departure.lateStores }, { on := 3, ground := Ground.textOnly Departure.lateStores }, { on := 4, ground := Ground.phase }, { on := 5, ground := Ground.phase }, { on := 6, ground := Ground.phase }, { on := 7, ground := Ground.phase }, { on := 8, ground := Ground.textOnly Departure.lateStores }, { on := 9, ground := Ground.textOnly Departure.lateStores }, { on := 10, ground := Ground.textOnly Departure.lateStoresUnsure }, { on := 11, ground := Ground.phase }, { on := 12, ground := Ground.phase }], guard := none }) rfl (fun Kw hKw => ?_) AllReadyH.nil
                refine step_entryStore (by rfl) _ _ _ 66 9 (by rfl) wm.heap.size m (mapT L K m) (by rfl) sn st1 HMID1.out (by rfl) (K m).val (by rfl) ?_
                intro w2 hm1 hg2
                have HM12 := Lib.hid hm1
                have HG2 := Lib.hid hg2
                clear hm1 hg2
                refine hKw.out _ _ (CS.out _ (Kp.grown (Kp.grown (HKZ.out.trans KA.out) HG1.out (fun k hk => by cases hk; omega)) HG2.out (fun k hk => by cases hk; omega))) (fun hHeld2 => ?_)
                clear hKw Kw hHeld1
                try simp only [Act.put, List.setIfInBounds_toArray, List.set_cons_zero, List.set_cons_succ]
                refine wpAnyH_ready (rs := [15]) (by kernel_rfl) (by simp) ?_
                refine AllReadyH.cons (o := { dst := some 88, op := Op.mapEntry 67 (Operand.tmp 76) (Operand.tmp 77), type := 0, pos := "subst.go:26", after := #[{ on := 2, ground := Ground.data }, { on := 3, ground := Ground.data }, { on := 14, ground := Ground.chain }, { on := 0, ground := Ground.phase }, { on := 1, ground := Ground.phase }, { on := 2, ground := Ground.textOnly Departure.tupleMapEntryFirst }, { on := 3, ground := Ground.textOnly Departure.tupleMapEntryFirst }, { on := 4, ground := Ground.phase }, { on := 5, ground := Ground.phase }, { on := 6, ground := Ground.phase }, { on := 7, ground := Ground.phase }, { on := 8, ground := Ground.textOnly Departure.tupleMapEntryFirst }, { on := 9, ground := Ground.textOnly Departure.tupleMapEntryFirst }, { on := 10, ground := Ground.textOnly Departure.lateStoresUnsure }, { on := 11, ground := Ground.phase }, { on := 12, ground := Ground.phase }, { on := 13, ground := Ground.phase }, { on := 14, ground := Ground.phase }], guard := none }) rfl (fun Kw hKw => ?_) AllReadyH.nil
                refine step_entry (by rfl) _ _ 67 9 63 (by rfl) Try.underlying9 Try.underlying67 _ zeroZ (wm.heap.size + 1) m (mapZ L As m) (by rfl) (((HM2.out.keep KA.out).grown HG1.out (by simp)).grown HG2.out (by simp)) (by unfold maxLen; omega) sn (by rfl) HSS.out ?_
                intro v1 st2 w3 hmid2 hg3
                have HMID2 := Lib.hid hmid2
                have HG3 := Lib.hid hg3
                clear hmid2 hg3
                refine hKw.out _ _ (CS.out _ (Kp.grown (Kp.grown (Kp.grown (HKZ.out.trans KA.out) HG1.out (fun k hk => by cases hk; omega)) HG2.out (fun k hk => by cases hk; omega)) HG3.out (fun k hk => by cases hk; omega))) (fun hHeld3 => ?_)
                clear hKw Kw hHeld2
                try simp only [Act.put, List.setIfInBounds_toArray, List.set_cons_zero, List.set_cons_succ]
                refine wpAnyH_take (i := 16) (oi := { dst := some 89, op := Op.extract (Operand.tmp 88) 1, type := 3, pos := "subst.go:26", after := #[{ on := 15, ground := Ground.data }], guard := none }) (v := ?_) rfl (by kernel_rfl) (by kernel_rfl) (by kernel_rfl) (fun _ _ _ h => h) (Or.inl ⟨by rfl, ?_⟩) (by assumption) ?_
                rotate_left
                · (intro wz hSw; (try dsimp only at hSw); go_simp; first | done | with_reducible rfl)
                try simp only [Act.put, List.setIfInBounds_toArray, List.set_cons_zero, List.set_cons_succ]
                refine wpAnyH_ready (rs := [17]) (by kernel_rfl) (by simp) ?_
                refine AllReadyH.cons (o := { dst := none, op := Op.entryStore 67 (Operand.tmp 76) (Operand.tmp 89) (Operand.tmp 85), type := 0, pos := "subst.go:26", after := #[{ on := 2, ground := Ground.data }, { on := 16, ground := Ground.data }, { on := 11, ground := Ground.data }, { on := 15, ground := Ground.chain }, { on := 0, ground := Ground.phase }, { on := 1, ground := Ground.phase }, { on := 2, ground := Ground.phase }, { on := 3, ground := Ground.phase }, { on := 4, ground := Ground.phase }, { on := 5, ground := Ground.phase }, { on := 6, ground := Ground.phase }, { on := 7, ground := Ground.phase }, { on := 8, ground := Ground.phase }, { on := 9, ground := Ground.phase }, { on := 10, ground := Ground.phase }, { on := 11, ground := Ground.phase }, { on := 12, ground := Ground.phase }, { on := 13, ground := Ground.phase }, { on := 14, ground := Ground.phase }, { on := 15, ground := Ground.phase }], guard := none }) rfl (fun Kw hKw => ?_) AllReadyH.nil
                refine step_entryStore (by rfl) _ _ _ 67 9 (by rfl) (wm.heap.size + 1) m (mapZ L As m) (by rfl) sn st2 HMID2.out (by rfl) (szm (sd, sc)) (by rfl) ?_
                intro w4 hm2 hg4
                have HM24 := Lib.hid hm2
                have HG4 := Lib.hid hg4
                clear hm2 hg4
                refine hKw.out _ _ (CS.out _ (Kp.grown (Kp.grown (Kp.grown (Kp.grown (HKZ.out.trans KA.out) HG1.out (fun k hk => by cases hk; omega)) HG2.out (fun k hk => by cases hk; omega)) HG3.out (fun k hk => by cases hk; omega)) HG4.out (fun k hk => by cases hk; omega))) (fun hHeld4 => ?_)
                clear hKw Kw hHeld3
                try simp only [Act.put, List.setIfInBounds_toArray, List.set_cons_zero, List.set_cons_succ]
                refine wpAnyH_done (by kernel_rfl) ?_ _
                go_wp2_with fail
                go_roundw
                case rel => exact ⟨m + 1, by omega, by go_num, mapT_succ HSN.out hlt HDUP.out ▸ ((HM12.out.grown HG3.out (by simp)).grown HG4.out (by simp)), mapZ_succ HSN.out hlt HDUP.out HSD.out HSC.out ▸ HM24.out, (Kp.grown (Kp.grown (Kp.grown (Kp.grown (HKZ.out.trans KA.out) HG1.out (fun k hk => by cases hk; omega)) HG2.out (fun k hk => by cases hk; omega)) HG3.out (fun k hk => by cases hk; omega)) HG4.out (fun k hk => by cases hk; omega)), (take_nodup hlt).2 ⟨HND.out, by
                  have := HSN.out
                  rw [List.getD_eq_getElem?_getD, List.getElem?_eq_getElem hlt] at this
                  have e : L[m] = sn := this
                  rw [e]
                  exact HDUP.out⟩⟩
                case measure => simp [intOf]; omega
            · obtain rfl : L.length = m := by omega
              have HB := Lib.hid ((stand_sized HLEN.out HALL.out).bd)
              have HE := Lib.hid (sub_end HT1.out HALL.out (L := L) ⟨HLEN.out, by have := HND.out; rwa [List.take_length] at this⟩)
              have HMO : Hid (MapOpt wr Try.prog 9 (some (wm.heap.size + 1)) (gmap (standG L As))) := Lib.hid (.inr ⟨_, _, rfl, by rw [← mapZ_end HLEN.out]; exact HM2.out⟩)
              obtain ⟨s1, s2, s3, hss⟩ : ∃ s1 s2 s3, lookG (standG L As) 9 T = (s1, s2, s3) := ⟨_, _, _, rfl⟩
              have hgz : gz (lookG (standG L As) 9 T) = (if s3 = true then .tuple #[.agg #[.int .i64 s1, .int .i64 s2], .int .i64 0] else .tuple #[.agg #[.int .i64 0, .int .i64 0], .int .i64 1]) := by rw [hss]; rfl
              have he := HE.out
              rw [hss] at he
              simp only at he
              clear HE
              have HE := Lib.hid he
              have HGZ := Lib.hid hgz
              clear hss hgz he
              obtain ⟨q0, q1, q2, q3, q4, q5, qs⟩ := row6 HBXZ.out
              have CG := Lib.hid ((c_gaugeWith r T ⟨k, nm, con, fa, fl, fc, la, ll, lc, ra, rl, rc⟩ wr _ _ HB.out HMO.out (HL.out.keep HKWZ.out)))
              cases s3 with
              | false =>
                have CG1 : Hid (Calls Try.prog 31 #[.agg #[.int .i64 k, .string nm, .int .i64 con, .slice fa fl fc, .slice la ll lc, .slice ra rl rc], .map (some (wm.heap.size + 1))] wr fun e w' => e = .returned (.tuple #[.agg #[.int .i64 0, .int .i64 0], .int .i64 1]) ∧ Kp wr w') := Lib.hid (CG.out.mono fun e w' hp => ⟨hp.1.trans (by rw [HGZ.out]; rfl), hp.2⟩)
                clear CG
                go_wp2_with (first | (go_at_call 31; refine CG1.out.mono ?_; rintro e w10 ⟨rfl, hk10⟩; have hb10 := (hk10.blk (b := w.heap.size + 1) (by omega)).trans HBRZ.out; have HB10 := Lib.hid ((((Kp.refl w10).alloc (.cells #[.int .i64 0, .int .i64 0] 63)).blk (b := w.heap.size + 1) (Array.getElem?_eq_some_iff.1 hb10).1).trans hb10); have HK10 := Lib.hid (HKWZ.out.trans hk10); clear hk10 hb10) | ((with_reducible show wpList _ _ _ (⟨none, .store _ (.tmp 6) (.tmp 99), _, _, _, _⟩ :: _) _ _); refine wpList_store_rowK (by rfl) 42 _ _ (by rfl) (w.heap.size + 1) #[.int .i64 0, .string ⟨#[]⟩, .int .i64 0, .slice none 0 0, .slice none 0 0, .slice none 0 0] (by rfl) (by rfl) 42 _ HB10.out (by exact sizeT) (by rfl) (by simp [Value.oneCell']) ?_; intro w7 hb7 hke; obtain ⟨u0, u1, u2, u3, u4, u5, us⟩ := row6 hb7; have HKE := Lib.hid hke; clear hke hb7))
                exact bodyPost_ret (v := .tuple #[.agg #[.int .i64 0, .string ⟨#[]⟩, .int .i64 0, .slice none 0 0, .slice none 0 0, .slice none 0 0], .int .i64 6]) (by simp [results, Try.results17, go_sem, u0, u1, u2, u3, u4, u5]) rfl (sub_bad (HE.out.trans rfl) (by decide) (HKE.out.old (HK10.out.alloc _) (by omega)))
              | true =>
                have CG1 : Hid (Calls Try.prog 31 #[.agg #[.int .i64 k, .string nm, .int .i64 con, .slice fa fl fc, .slice la ll lc, .slice ra rl rc], .map (some (wm.heap.size + 1))] wr fun e w' => e = .returned (.tuple #[.agg #[.int .i64 s1, .int .i64 s2], .int .i64 0]) ∧ Kp wr w') := Lib.hid (CG.out.mono fun e w' hp => ⟨hp.1.trans (by rw [HGZ.out]; rfl), hp.2⟩)
                clear CG
                have CR : Hid (∀ W, Kp wr W → Calls Try.prog 32 #[.agg #[.int .i64 k, .string nm, .int .i64 con, .slice fa fl fc, .slice la ll lc, .slice ra rl rc], .map (some wm.heap.size)] W (MadeP (r + Ra) (fill (stand L As) r T) W)) := Lib.hid (fun W hk => c_replace (some wm.heap.size) (mapT L K L.length) (stand L As) Ra r T ⟨k, nm, con, fa, fl, fc, la, ll, lc, ra, rl, rc⟩ W (.inr ⟨_, _, rfl, HM1.out.keep hk⟩) (mapT_end HLEN.out (fun j X hX => ((HA.out.2 j X hX).keep (HKWZ.out.trans hk)))) (HL.out.keep (HKWZ.out.trans hk)))
                go_wp2_with (first | (go_at_call 31; refine CG1.out.mono ?_; rintro e w10 ⟨rfl, hk10⟩; have hb10 := (hk10.blk (b := w.heap.size + 1) (by omega)).trans HBRZ.out; have HB10 := Lib.hid hb10; have HBX10 := (hk10.blk (b := w.heap.size) (by omega)).trans HBXZ.out; obtain ⟨y0, y1, y2, y3, y4, y5, ys⟩ := row6 HBX10; have HK10 := Lib.hid hk10; clear hk10 hb10 HBX10) | (go_at_call 32; refine (CR.out _ (HK10.out.alloc _)).mono ?_; rintro e w11 ⟨⟨k', nm', con', fa', fl', fc', la', ll', lc', ra', rl', rc'⟩, rfl, hli, hk11⟩; have hb11 := (hk11.blk (b := w.heap.size + 1) (by have := (Array.getElem?_eq_some_iff.1 HB10.out).1; simp; omega)).trans ((((Kp.refl w10).alloc _).blk (b := w.heap.size + 1) (Array.getElem?_eq_some_iff.1 HB10.out).1).trans HB10.out); have HB11 := Lib.hid hb11; have HLI := Lib.hid hli; have HK11 := Lib.hid hk11; clear hli hk11 hb11) | ((with_reducible show wpList _ _ _ (⟨none, .store _ (.tmp 6) (.tmp 102), _, _, _, _⟩ :: _) _ _); refine wpList_store_rowK (by rfl) 42 _ _ (by rfl) (w.heap.size + 1) #[.int .i64 k', .string nm', .int .i64 con', .slice fa' fl' fc', .slice la' ll' lc', .slice ra' rl' rc'] (by rfl) (by rfl) 42 _ HB11.out (by exact sizeT) (by rfl) (by simp [Value.oneCell']) ?_; intro w7 hb7 hke; obtain ⟨u0, u1, u2, u3, u4, u5, us⟩ := row6 hb7; have HKE := Lib.hid hke; clear hke hb7))
                have hK := HKWZ.out.trans (HK10.out.trans (((Kp.refl w10).alloc _).trans HK11.out))
                refine bodyPost_ret (v := .tuple #[.agg #[.int .i64 k', .string nm', .int .i64 con', .slice fa' fl' fc', .slice la' ll' lc', .slice ra' rl' rc'], .int .i64 0]) (by simp [results, Try.results17, go_sem, u0, u1, u2, u3, u4, u5]) rfl ⟨⟨k', nm', con', fa', fl', fc', la', ll', lc', ra', rl', rc'⟩, by rw [HE.out]; rfl, HKE.out.old hK (by omega), fun _ => ?_, fun e => absurd HE.out e⟩
                have hs := HKE.out.2.2.2.1
                have hl := HLI.out
                simp only [World.size_alloc] at hl
                have hz10 := HK10.out.sz
                exact (hl.turn HKE.out.fr hs (fun b _ (hb : w10.heap.size + 1 ≤ b) (he : b = w.heap.size + 1) => by omega)).weak (From_le (by omega))
        · have HN := Lib.hid (sub_arg HT1.out HALL.out (fun h => hlen h.1))
          have hne : ((L.length : Int) != (As.length : Int)) = true := by simp; omega
          go_wp2_with ((with_reducible show wpList _ _ _ (⟨none, .store _ (.tmp 6) (.tmp 56), _, _, _, _⟩ :: _) _ _); refine wpList_store_rowK (by rfl) 42 _ _ (by rfl) (w.heap.size + 1) #[.int .i64 0, .string ⟨#[]⟩, .int .i64 0, .slice none 0 0, .slice none 0 0, .slice none 0 0] (by rfl) (by rfl) 42 _ HBR.out (by exact sizeT) (by rfl) (by simp [Value.oneCell']) ?_; intro w7 hb7 hke; obtain ⟨u0, u1, u2, u3, u4, u5, us⟩ := row6 hb7; have HKE := Lib.hid hke; clear hke hb7)
          exact bodyPost_ret (v := .tuple #[.agg #[.int .i64 0, .string ⟨#[]⟩, .int .i64 0, .slice none 0 0, .slice none 0 0, .slice none 0 0], .int .i64 2]) (by simp [results, Try.results17, go_sem, u0, u1, u2, u3, u4, u5]) rfl (sub_bad HN.out (by decide) (HKE.out.old HKW.out (by omega)))
end Go.Proofs.Ytfjflfokmihcpaa
