/- The reference's Reach and Collect. Condition: the heap lies in memory. -/
import Derived.Test.YtkaeigklhdpifaaR5
namespace Go.Proofs.Ytkaeigklhdpifaa
open Go.RowKit Go.Maps Go.Sort
set_option linter.unusedVariables false
set_option linter.unusedSimpArgs false
theorem own_weak0 {w : World} {B n m : Nat} {e : TypeId} {v : Value} {xs : List Value} (h : w.ownsRow B e m v n xs) : w.ownsRow 0 e m v n xs := by
  obtain ⟨hl, hv | ⟨gb, cap, cur, rfl, hB, rest⟩⟩ := h
  · exact ⟨hl, .inl hv⟩
  · exact ⟨hl, .inr ⟨gb, cap, cur, rfl, Nat.zero_le _, rest⟩⟩
noncomputable def colF (S : Hs) (l : List Int) (i : Nat) : Hs := (S.take i).filter fun o => rc S l o.nm
theorem colF_zero (S : Hs) (l : List Int) : colF S l 0 = [] := by simp [colF]
theorem colF_yes {S : Hs} {l : List Int} {i : Nat} {o : Ob} (h : S[i]? = some o) (hr : rc S l o.nm = true) : colF S l (i + 1) = colF S l i ++ [o] := by
  unfold colF; rw [List.take_add_one, h, List.filter_append]; simp [hr]
theorem colF_no {S : Hs} {l : List Int} {i : Nat} {o : Ob} (h : S[i]? = some o) (hr : rc S l o.nm = false) : colF S l (i + 1) = colF S l i := by
  unfold colF; rw [List.take_add_one, h, List.filter_append]; simp [hr]
theorem colF_all (S : Hs) (l : List Int) : colF S l S.length = col S l := by unfold colF col; rw [List.take_of_length_le (Nat.le_refl _)]
theorem colF_len (S : Hs) (l : List Int) (i : Nat) : (colF S l i).length ≤ S.length := by
  unfold colF
  have := List.length_filter_le (fun o => rc S l o.nm) (S.take i)
  have : (S.take i).length ≤ S.length := List.length_take_le' _ _
  omega
theorem rcl_at {S : Hs} {l : List Int} {i : Nat} {o : Ob} (h : S[i]? = some o) : (S.map fun o => rc S l o.nm)[i]? = some (rc S l o.nm) := by rw [List.getElem?_map, h]; rfl
set_option maxHeartbeats 2000000 in
set_option maxRecDepth 100000 in
theorem c_rReach {M : Nat → Prop} {q bud : Nat} {S : Hs} (l : List Int) (v : Value) (B : Sel) (w : World) (h : RP w M q bud S) (ok : Ok S bud) (hl : IL w B l v) :
    Calls Try.prog 17 #[.pointer (some ⟨q, 0, none⟩), v] w fun e w' => ∃ u, e = .returned (.tuple #[u, .int .i64 (reachP S l).2]) ∧ IL w' (From w.heap.size) (reachP S l).1 u ∧ Kp w w' := by
  obtain ⟨iI, hI, hI0, hI1, hI2⟩ := info_parts infoI
  have HH := Lib.hid h
  have HK := Lib.hid ok
  have HL := Lib.hid hl
  have hqz := h.lt q h.nq
  have hSl := ok.len
  obtain ⟨a, c, cv, rv, h1, hlc, _, _, ht, hro⟩ := h.list
  have H1 := Lib.hid h1
  have HTB := Lib.hid ht
  clear h ok hl h1 ht hro
  go_enter Try.func17, Try.ntmps17
  cases hk : knownR S l with
  | false =>
    have HN := Lib.hid hk
    clear hk
    go_wp2_with (go_at_call 36; (with_reducible refine (c_known l v B w HH.out HK.out HL.out).mono ?_); rintro e w' ⟨rfl, hw'⟩; subst hw'; rw [HN.out])
    go_ret2
    have hr : reachP S l = ([], 15) := by unfold reachP; rw [HN.out]; rfl
    rw [hr]
    exact ⟨_, rfl, il_nil _ _, Kp.refl _⟩
  | true =>
    have HN := Lib.hid hk
    clear hk
    go_wp2_with (first
      | (go_at_call 36; (with_reducible refine (c_known l v B w HH.out HK.out HL.out).mono ?_); rintro e w' ⟨rfl, hw'⟩; subst hw'; rw [HN.out])
      | (go_at_call 37; (with_reducible refine (c_Reached l v B _ HH.out HK.out HL.out HN.out).mono ?_); rintro e wA ⟨g, rfl, hon⟩; have ON := Lib.hid hon; clear hon))
    go_loopw [7, 8] (fun lv iv wr => ∃ (i : Nat) (a2 : Option Addr) (c2 : Nat), lv = .slice a2 (colF S l i).length c2 ∧ i ≤ S.length ∧ iv = .int .i64 (i : Int) ∧ Kp wA wr ∧ wr.ownsRow wA.heap.size 3 1 (.slice a2 (colF S l i).length c2) (colF S l i).length (((colF S l i).map (·.nm)).map encZ)) (fun _ iv _ => S.length - (intOf iv).toNat)
    case atStart => exact ⟨0, none, 0, by rw [colF_zero]; rfl, by omega, rfl, Kp.refl _, by rw [colF_zero]; exact World.ownsRow_nil _ _ _ _⟩
    case round =>
      obtain ⟨i, a2, c2, rfl, hi, rfl, hkp, hown⟩ := hrel
      have KW := Lib.hid (ON.out.kp.trans hkp)
      have KA := Lib.hid hkp
      have OW := Lib.hid hown
      have c0 := (row2 (row_keep KW.out H1.out)).1
      have hzz := KW.out.sz
      have hza := hkp.sz
      clear hkp hown
      by_cases hil : i < S.length
      · obtain ⟨o, hio⟩ : ∃ o, S[i]? = some o := ⟨_, List.getElem?_eq_getElem hil⟩
        have HIO := Lib.hid hio
        obtain ⟨y0, _, yz⟩ := ON.out.at (rcl_at (l := l) hio)
        have y0 := KA.out.cellv y0
        have hgz : g < wr.heap.size := by omega
        clear hio
        cases hrc : rc S l o.nm with
        | false =>
          rw [hrc] at y0
          have HRC := Lib.hid hrc
          clear hrc
          go_wp2_with fail
          go_roundw
          case rel => exact ⟨i + 1, a2, c2, by rw [colF_no HIO.out HRC.out], by omega, by go_num, KA.out, by rw [colF_no HIO.out HRC.out]; exact OW.out⟩
          case measure => simp [intOf]; omega
        | true =>
          rw [hrc] at y0
          have HRC := Lib.hid hrc
          have htab := HTB.out.keep KW.out
          obtain ⟨bl, z, rfl, e0, _, _, ez⟩ := htab.obj HIO.out
          have hcl := colF_len S l i
          have hcl2 : (colF S l i).length ≤ 65536 := by omega
          clear hrc htab
          go_wp2_with (((with_reducible show wpList _ _ _ (⟨some 39, _, _, _, _, _⟩ :: _) _ _); refine wpList_append_one (d := 39) _ _ 33 rfl wA.heap.size 3 iI _ 1 8 Try.underlying33 hI hI0 hI1 hI2 rfl (by decide) (.slice a2 (colF S l i).length c2) (colF S l i).length _ (by rfl) _ OW.out [.int .i64 o.nm] _ _ _ (by rfl) (by first | rfl | simp) (by rfl) (by rfl) (by intro u hu; simp at hu; rcases hu with rfl | rfl | rfl | rfl | rfl | rfl | rfl <;> rfl) (by unfold maxLen; omega) (by omega) (by first | omega | (simp; omega)) ?_; intro v1 w1 ho1 hg1; obtain ⟨a3, c3, rfl⟩ := own_slice ho1; have HV2 := Lib.hid ho1; have HG2 := Lib.hid hg1; clear ho1 hg1))
          go_roundw
          case rel =>
            refine ⟨i + 1, a3, c3, by rw [colF_yes HIO.out HRC.out, List.length_append]; rfl, by omega, by go_num, (KA.out.alloc _).grown HG2.out (fun k hk => (OW.out.lt k hk).1), ?_⟩
            rw [colF_yes HIO.out HRC.out, List.map_append, List.map_append, List.length_append]
            exact HV2.out
          case measure => simp [intOf]; omega
      · have hie : i = S.length := by omega
        subst hie
        go_wp2_with fail
        go_ret2
        have hr : reachP S l = (rl S l, 0) := by unfold reachP; rw [HN.out]; rfl
        rw [hr]
        have okc := HK.out.col l
        have hO := OW.out
        rw [colF_all] at hO
        have hll : (rl S l).length = (col S l).length := by simp [rl]
        rw [← hll] at hO
        rw [colF_all, ← hll]
        have hI := il_of_own hO okc.i64s okc.names_len
        exact ⟨_, rfl, RL.weak goodI hI (From_le ON.out.kp.sz), KW.out⟩
theorem flat_objC {S : Hs} {cv rv : Int → Value} {o : Ob} : flat (objC (S ++ [o]) cv rv) (S.length + 1) = flat (objC S cv rv) S.length ++ [.int .i64 o.nm, cv o.nm, rv o.nm] := by
  rw [flat, flat_congr (C' := objC S cv rv) (fun i hi => by unfold objC; rw [List.getElem?_append_left hi])]
  rw [objC_at (i := S.length) (o := o) (by simp)]
theorem three_one {n : Int} {a b : Value} (ha : a.oneCell' = true) (hb : b.oneCell' = true) : ∀ u ∈ [Value.int .i64 n, a, b], u.oneCell' = true := by
  intro u hu
  simp at hu
  rcases hu with rfl | rfl | rfl
  · rfl
  · exact ha
  · exact hb
theorem RO.sub {w : World} {M : Nat → Prop} {q : Nat} {S T : Hs} {cv rv : Int → Value} (h : RO w M q S cv rv) (hT : ∀ o ∈ T, o ∈ S) : RO w M q T cv rv :=
  ⟨fun o ho => h.ob o (hT o ho), h.one, fun o ho => h.inN o (hT o ho), fun a ha b hb => h.ap a (hT a ha) b (hT b hb)⟩
theorem RO.mono {w : World} {M M' : Nat → Prop} {q : Nat} {S : Hs} {cv rv : Int → Value} (h : RO w M q S cv rv) (hM : ∀ k, M k → M' k) : RO w M' q S cv rv :=
  ⟨h.ob, h.one, fun o ho g hg => ⟨hM _ (h.inN o ho g hg).1, (h.inN o ho g hg).2⟩, h.ap⟩
set_option maxHeartbeats 2000000 in
set_option maxRecDepth 100000 in
theorem c_rCollect {M : Nat → Prop} {q bud : Nat} {S : Hs} (l : List Int) (v : Value) (B : Sel) (w : World) (h : RP w M q bud S) (ok : Ok S bud) (hl : IL w B l v) :
    Calls Try.prog 34 #[.pointer (some ⟨q, 0, none⟩), v] w fun e w' => e = .returned (.tuple #[.int .i64 (colP S l).2.1, .int .i64 (colP S l).2.2]) ∧ ∃ M', RP w' M' q bud (colP S l).1 ∧ Tr M w w' ∧ ∀ k, M' k → M k ∨ w.heap.size ≤ k := by
  obtain ⟨iO, hO, hO0, hO1, hO2⟩ := info_parts infoO
  have HH := Lib.hid h
  have HK := Lib.hid ok
  have HL := Lib.hid hl
  have hqz := h.lt q h.nq
  have hSl := ok.len
  obtain ⟨a, c, cv, rv, h1, hlc, h2, h3, ht, hro⟩ := h.list
  have H1 := Lib.hid h1
  have H2 := Lib.hid h2
  have HTB := Lib.hid ht
  have HRO := Lib.hid hro
  clear h ok hl h1 h2 h3 ht hro
  go_enter Try.func34, Try.ntmps34
  cases hk : knownR S l with
  | false =>
    have HN := Lib.hid hk
    clear hk
    go_wp2_with (go_at_call 36; (with_reducible refine (c_known l v B w HH.out HK.out HL.out).mono ?_); rintro e w' ⟨rfl, hw'⟩; rw [hw']; clear hw' w'; rw [HN.out])
    go_ret2
    have hr : colP S l = (S, 0, 15) := by unfold colP; rw [HN.out]; rfl
    rw [hr]
    exact ⟨rfl, M, HH.out, Tr.refl M _, fun k hk => .inl hk⟩
  | true =>
    have HN := Lib.hid hk
    clear hk
    go_wp2_with (first
      | (go_at_call 36; (with_reducible refine (c_known l v B w HH.out HK.out HL.out).mono ?_); rintro e w' ⟨rfl, hw'⟩; rw [hw']; clear hw' w'; rw [HN.out])
      | (go_at_call 37; (with_reducible refine (c_Reached l v B w HH.out HK.out HL.out HN.out).mono ?_); rintro e wA ⟨g, rfl, hon⟩; have ON := Lib.hid hon; clear hon))
    go_loopw [7, 8] (fun lv iv wr => ∃ (i : Nat) (a2 : Option Addr) (c2 : Nat), lv = .slice a2 (colF S l i).length c2 ∧ i ≤ S.length ∧ iv = .int .i64 (i : Int) ∧ Kp wA wr ∧ wr.ownsRow wA.heap.size 50 3 (.slice a2 (colF S l i).length c2) (colF S l i).length (flat (objC (colF S l i) cv rv) (colF S l i).length)) (fun _ iv _ => S.length - (intOf iv).toNat)
    case atStart => exact ⟨0, none, 0, by rw [colF_zero]; rfl, by omega, rfl, Kp.refl _, by rw [colF_zero]; exact World.ownsRow_nil _ _ _ _⟩
    case round =>
      obtain ⟨i, a2, c2, rfl, hi, rfl, hkp, hown⟩ := hrel
      have KW := Lib.hid (ON.out.kp.trans hkp)
      have KA := Lib.hid hkp
      have OW := Lib.hid hown
      have hbox := row_keep KW.out H1.out
      obtain ⟨c0, c1⟩ := row2 hbox
      have hbf := frozen_of_row _ _ 0 _ _ hbox
      have HBX := Lib.hid hbox
      have hzz := KW.out.sz
      have hza := hkp.sz
      clear hkp hown hbox
      by_cases hil : i < S.length
      · obtain ⟨o, hio⟩ : ∃ o, S[i]? = some o := ⟨_, List.getElem?_eq_getElem hil⟩
        have HIO := Lib.hid hio
        obtain ⟨y0, _, yz⟩ := ON.out.at (rcl_at (l := l) hio)
        have y0 := KA.out.cellv y0
        have hgz : g < wr.heap.size := by omega
        clear hio
        cases hrc : rc S l o.nm with
        | false =>
          rw [hrc] at y0
          have HRC := Lib.hid hrc
          clear hrc
          go_wp2_with fail
          go_roundw
          case rel => exact ⟨i + 1, a2, c2, by rw [colF_no HIO.out HRC.out], by omega, by go_num, KA.out, by rw [colF_no HIO.out HRC.out]; exact OW.out⟩
          case measure => simp [intOf]; omega
        | true =>
          rw [hrc] at y0
          have HRC := Lib.hid hrc
          have htab := HTB.out.keep KW.out
          obtain ⟨bl, z, rfl, e0, e1, e2, ez⟩ := htab.obj HIO.out
          have hrow : wr.rangeAt bl (z + i * 3) [.int .i64 o.nm, cv o.nm, rv o.nm] := fun j u hu => by
            match j with
            | 0 => simp at hu; subst hu; exact e0
            | 1 => simp at hu; subst hu; exact e1
            | 2 => simp at hu; subst hu; exact e2
            | (j + 3) => simp at hu
          have HROW := Lib.hid hrow
          have ho1 := (HRO.out.one o.nm).1
          have ho2 := (HRO.out.one o.nm).2
          have HO1 := Lib.hid ho1
          have HO2 := Lib.hid ho2
          have hcl := colF_len S l i
          have hcl2 : (colF S l i).length ≤ 65536 := by omega
          clear hrc htab hrow e0 e1 e2 ho1 ho2
          go_wp2_with (first
            | ((with_reducible show wpList _ _ _ (⟨some 37, _, _, _, _, _⟩ :: _) _ _); refine wpList_load_range (d := 37) _ _ rfl _ Try.underlying50 wr _ _ _ _ (by rfl) rfl rfl _ HROW.out (Kp.refl wr) (by rfl) ?_)
            | ((with_reducible show wpList _ _ _ (⟨some 39, _, _, _, _, _⟩ :: _) _ _); refine wpList_append_one (d := 39) _ _ 51 rfl wA.heap.size 50 iO _ 3 56 Try.underlying51 hO hO0 hO1 hO2 rfl (by decide) (.slice a2 (colF S l i).length c2) (colF S l i).length _ (by rfl) _ OW.out [.int .i64 o.nm, cv o.nm, rv o.nm] _ _ _ (by rfl) (by first | rfl | simp) (by rfl) (by rfl) (three_one HO1.out HO2.out) (by unfold maxLen; omega) (by omega) (by first | omega | (simp; omega)) ?_; intro v1 w1 ho1 hg1; obtain ⟨a3, c3, rfl⟩ := own_slice ho1; have HV2 := Lib.hid ho1; have HG2 := Lib.hid hg1; clear ho1 hg1))
          go_roundw
          case rel =>
            refine ⟨i + 1, a3, c3, by rw [colF_yes HIO.out HRC.out, List.length_append]; rfl, by omega, by go_num, (KA.out.alloc _).grown HG2.out (fun k hk => (OW.out.lt k hk).1), ?_⟩
            rw [colF_yes HIO.out HRC.out, List.length_append, List.length_singleton, flat_objC]
            exact HV2.out
          case measure => simp [intOf]; omega
      · have hie : i = S.length := by omega
        subst hie
        have hcl := colF_len S l S.length
        go_wp2_with fail
        go_ret2
        have hr : colP S l = (col S l, (S.length : Int) - (col S l).length, 0) := by unfold colP; rw [HN.out]; rfl
        rw [hr]
        have hO := OW.out
        rw [colF_all] at hO
        rw [colF_all] at *
        have hsame := heap_setCell_same wr q 0 _ _ (.slice a2 (col S l).length c2) HBX.out
        have hset : ∀ j, j ≠ q → (wr.setCell ⟨q, 0, none⟩ (.slice a2 (col S l).length c2)).heap[j]? = wr.heap[j]? := fun j hj => Below.heap_setCell _ _ _ _ hj
        have hrq : ∀ k, (Value.slice a2 (col S l).length c2).ownBlock = some k → wA.heap.size ≤ k ∧ k < wr.heap.size ∧ k ≠ q := fun k hk => by
          obtain ⟨x1, x2⟩ := hO.lt k hk
          exact ⟨x1, x2, by have := ON.out.kp.sz; omega⟩
        have hTr : Tr M w (wr.setCell ⟨q, 0, none⟩ (.slice a2 (col S l).length c2)) := (KW.out.tr M).set (.inl HH.out.nq) _
        refine ⟨by go_num, fun k => M k ∨ (w.heap.size ≤ k ∧ k < wr.heap.size), ⟨.inl HH.out.nq, fun k hk => ?_, .slice a2 (col S l).length c2, cv, rv, hsame, fun k hk => ?_, ?_, ?_⟩, hTr, fun k hk => by rcases hk with hk | hk; exact .inl hk; exact .inr hk.1⟩
        · rw [World.size_setCell]
          rcases hk with hk | hk
          · have := HH.out.lt k hk; omega
          · exact hk.2
        · obtain ⟨x1, x2, x3⟩ := hrq k hk
          exact ⟨.inr ⟨by have := ON.out.kp.sz; omega, x2⟩, x3⟩
        · exact own_turn (own_weak0 hO) (fun k hk => hset k (hrq k hk).2.2)
        · have h1 := (HRO.out.sub (T := col S l) (fun o ho => (col_mem.1 ho).1)).mono (M' := fun k => M k ∨ (w.heap.size ≤ k ∧ k < wr.heap.size)) (fun k hk => .inl hk)
          refine ⟨fun o ho => ?_, h1.one, h1.inN, h1.ap⟩
          have hin := (HRO.out.sub (T := col S l) (fun o ho => (col_mem.1 ho).1)).inN o ho
          exact ⟨(h1.ob o ho).1.turn (fun g' hg' => (hset g' (hin g' (.inl hg')).2).trans (KW.out.blk (HH.out.lt g' (hin g' (.inl hg')).1))), (h1.ob o ho).2.turn (fun g' hg' => (hset g' (hin g' (.inr hg')).2).trans (KW.out.blk (HH.out.lt g' (hin g' (.inr hg')).1)))⟩
end Go.Proofs.Ytkaeigklhdpifaa
