/- An allocation. Condition: the heap lies in memory; what is handed in lies apart from it. -/
import Derived.Test.YtkaeigklhdpifaaA8
namespace Go.Proofs.Ytkaeigklhdpifaa
open Go.RowKit Go.Maps Go.Sort
set_option linter.unusedVariables false
set_option linter.unusedSimpArgs false
theorem ins_len (S : Hs) (refs : List Bool) : (ins S refs).length = S.length + 1 := by
  unfold ins
  rw [List.length_append, List.length_cons, List.length_take, List.length_drop]
  have := pre_le S 0
  omega
theorem HP.ins {w5 w6 W : World} {N : Nat → Prop} {p bud mb z : Nat} {S : Hs} {D : DV} {F : Int → Option Value} {refs : List Bool} {u : Value} (ok : Ok S bud) (hfit : used S + 1 + refs.length ≤ bud) (np : N p) (lt : ∀ k, N k → k < z) (hz5 : z ≤ w5.heap.size)
    (h2 : N mb) (h3 : mb ≠ p) (h5 : OM RS w6 mb (D.put (.int .i64 ((pre S 0 : Nat) + 1 : Int)) (.held u))) (hT : Maps.Tidy D) (h6 : MapIs D F) (h7 : Maps.size D = S.length) (h8 : HO w5 N p mb S F)
    (hu : CV w5 (refs.map fun r => (0, r)) u) (hub : ∀ g, u.ownBlock = some g → z ≤ g ∧ g < w5.heap.size) (hg6 : w5.grownBy w6 (some mb)) (hgW : w6.grownBy W (some p))
    (hpW : W.heap[p]? = some (.cells #[.int .i64 (bud : Int), .int .i64 ((used S : Int) + ((refs.length : Int) + 1)), .int .i64 ((pre S 0 : Nat) + 1 : Int), .map (some mb)] 71 (0, 0))) : HP W (fun k => N k ∨ u.ownBlock = some k) p bud (ins S refs) := by
  have hp1 : ∀ o ∈ S, 1 ≤ o.nm := fun o ho => (ok.pos o ho).1
  have hfree := free_not ok.up hp1
  have hFn : F ((pre S 0 : Nat) + 1 : Int) = none := by
    have := h8.dom ((pre S 0 : Nat) + 1 : Int)
    rw [hfree] at this
    cases hF : F ((pre S 0 : Nat) + 1 : Int) with
    | none => rfl
    | some x => rw [hF] at this; cases this
  have hsz := size_put hT (k := .int .i64 ((pre S 0 : Nat) + 1 : Int)) (d := (.held u : DV))
  rw [h6.hs, hFn] at hsz
  have hWs : w5.heap.size ≤ W.heap.size := Nat.le_trans hg6.size hgW.size
  have hW : ∀ k, k < w5.heap.size → k ≠ p → k ≠ mb → W.heap[k]? = w5.heap[k]? := fun k hk a b => (hgW.block k (Nat.lt_of_lt_of_le hk hg6.size) (fun e => a (by simpa using e))).trans (hg6.block k hk (fun e => b (by simpa using e)))
  have hum : mb < w5.heap.size := Nat.lt_of_lt_of_le (lt mb h2) hz5
  have hpl2 : pre S 0 ≤ S.length := pre_le S 0
  have hSl := ok.len
  refine ⟨.inl np, fun k hk => ?_, (pre S 0 : Nat) + 1, mb, _, _, ?_, .inl h2, h3, ⟨by omega, ?_, fun j a b => ?_⟩, h5.turn (hgW.block mb (Nat.lt_of_lt_of_le hum hg6.size) (fun e => h3 (by simpa using e))), h6.put _ u, ?_, ⟨fun k => ?_, fun o ho => ?_, fun k v g hk hg => ?_, fun j k a b g hjk hj hk hg => ?_⟩⟩
  · rcases hk with hk | hk
    · have := lt k hk; omega
    · have := (hub k hk).2; omega
  · rw [hpW, used_ins]
    have : ((used S : Int) + ((refs.length : Int) + 1)) = ((used S + 1 + refs.length : Nat) : Int) := by push_cast; omega
    rw [this]
  · have := used_len S; have := ok.bud; omega
  · rw [ins_has]
    by_cases e : j = (pre S 0 : Nat) + 1
    · subst e; simp
    · obtain ⟨n, rfl⟩ := Int.eq_ofNat_of_zero_le (show 0 ≤ j by omega)
      rw [free_below (by omega) (by omega)]; rfl
  · rw [hsz, h7, ins_len]; rfl
  · rw [ins_has, ← h8.dom]
    by_cases e : k = (pre S 0 : Nat) + 1
    · subst e; simp
    · rw [if_neg e]
      have : (k == ((pre S 0 : Nat) + 1 : Int)) = false := by simpa using e
      rw [this]; simp
  · rcases ins_mem.1 ho with rfl | h1
    · refine ⟨u, by simp [newOb], ?_⟩
      exact hu.turn (fun g hg => hW g (hub g hg).2 (fun e => by have := (hub g hg).1; have := lt p np; omega) (fun e => by have := (hub g hg).1; have := lt mb h2; omega))
    · obtain ⟨v, hv1, hv2⟩ := h8.ob o h1
      have hne : o.nm ≠ ((pre S 0 : Nat) + 1 : Int) := hasN_false.1 hfree o h1
      refine ⟨v, by rw [if_neg hne]; exact hv1, hv2.turn (fun g hg => ?_)⟩
      obtain ⟨a, b, c⟩ := h8.inN _ _ g hv1 hg
      exact hW g (Nat.lt_of_lt_of_le (lt g a) hz5) b c
  · split at hk
    · cases hk
      refine ⟨.inr hg, fun e => by have := (hub g hg).1; have := lt p np; omega, fun e => by have := (hub g hg).1; have := lt mb h2; omega⟩
    · obtain ⟨a, b, c⟩ := h8.inN k v g hk hg
      exact ⟨.inl a, b, c⟩
  · split at hj
    · cases hj
      split at hk
      · rename_i e1 e2; exact absurd (e1.trans e2.symm) hjk
      · intro hg2
        have := lt g (h8.inN k b g hk hg2).1
        have := (hub g hg).1
        omega
    · split at hk
      · cases hk
        intro hg2
        have := lt g (h8.inN j a g hj hg).1
        have := (hub g hg2).1
        omega
      · exact h8.ap j k a b g hjk hj hk hg
theorem store_obj {w : World} {mb : Nat} {D : DV} (h : OM RS w mb D) (hn : Maps.size D ≤ 65536) {k : Int} (hk : i64 k) (a : Option Addr) (n c : Nat) : ∃ w6, (Instr.mapUpdate 69 (.map (some mb)) (.int .i64 k) (.slice a n c)).run Try.prog w = .ok () w6 ∧ OM RS w6 mb (D.put (.int .i64 k) (.held (.slice a n c))) ∧ w.grownBy w6 (some mb) := by
  obtain ⟨w6, h1, h2, h3⟩ := World.ownsMap.store h KI Try.underlying69 (by unfold maxLen; omega) (keyI hk) (RS_mk a n c)
  exact ⟨w6, h1, OM.of h2, h3.grown⟩
set_option maxHeartbeats 2000000 in
set_option maxRecDepth 100000 in
theorem c_Alloc {N : Nat → Prop} {p bud : Nat} {S : Hs} (refs : List Bool) (v : Value) (B : Sel) (l : List Int) (vl : Value) (Bl : Sel) (w : World) (h : HP w N p bud S) (ok : Ok S bud) (hr : BoL w B refs v) (hB : ∀ b, B.S b → ¬ N b) (hl : IL w Bl l vl) :
    Calls Try.prog 18 #[.pointer (some ⟨p, 0, none⟩), v, vl] w fun e w' => e = .returned (.tuple #[.int .i64 (allocP bud S refs l).2.1, .int .i64 (allocP bud S refs l).2.2]) ∧ ∃ N', HP w' N' p bud (allocP bud S refs l).1 ∧ Tr N w w' ∧ ∀ k, N' k → N k ∨ w.heap.size ≤ k := by
  have HH := Lib.hid h
  have HK := Lib.hid ok
  have HR := Lib.hid hr
  have HL := Lib.hid hl
  have HB := Lib.hid hB
  obtain ⟨ar, cr, _, rfl, _⟩ := id hr
  obtain ⟨v, hv⟩ : ∃ v, v = Value.slice ar refs.length cr := ⟨_, rfl⟩
  rw [← hv] at HR
  clear h ok hl hB hr
  go_enter Try.func18, Try.ntmps18
  by_cases hbig : 262146 < refs.length
  · go_wp2_with fail
    go_ret2
    have hr : allocP bud S refs l = (S, 0, 2) := by unfold allocP; rw [if_pos hbig]
    rw [hr]
    exact ⟨rfl, N, HH.out, Tr.refl N _, fun k hk => .inl hk⟩
  · cases hk : knownR S l with
    | false =>
      have HN := Lib.hid hk
      clear hk
      go_wp2_with (go_at_call 38; (with_reducible refine (c_areRoots l vl Bl w HH.out HK.out HL.out).mono ?_); rintro e w' ⟨rfl, rfl⟩; rw [HN.out])
      go_ret2
      have hr : allocP bud S refs l = (S, 0, 15) := by unfold allocP; rw [if_neg hbig, if_pos HN.out]
      rw [hr]
      exact ⟨rfl, N, HH.out, Tr.refl N _, fun k hk => .inl hk⟩
    | true =>
    have HN := Lib.hid hk
    have hA : allocP bud S refs l = if used (made bud S refs.length l) + 1 + refs.length ≤ bud then (ins (made bud S refs.length l) refs, (pre (made bud S refs.length l) 0 : Int) + 1, 0) else (made bud S refs.length l, 0, 20) := by unfold allocP; rw [if_neg hbig, if_neg (by rw [hk]; simp)]
    have HA := Lib.hid hA
    clear hk hA
    have HTW := Lib.hid (Tr.refl N w)
    by_cases hroom : used S + 1 + refs.length ≤ bud
    · have hm : made bud S refs.length l = S := by unfold made; rw [if_pos hroom]
      have HM := Lib.hid hm
      have HD := Lib.hid (show decide (used S + 1 + refs.length ≤ bud) = true by simpa using hroom)
      clear hm
      go_upto_region 9 with (first
        | (go_at_call 38; (with_reducible refine (c_areRoots l vl Bl w HH.out HK.out HL.out).mono ?_); rintro e w' ⟨rfl, hw'⟩; subst hw'; rw [HN.out])
        | (go_at_call 39; (with_reducible refine (c_hasRoom refs.length _ HH.out HK.out (by omega)).mono ?_); rintro e wx ⟨rfl, hkx⟩; rw [HD.out]; have HH := Lib.hid (HH.out.keep hkx); have HR := Lib.hid (HR.out.keep goodBo hkx); have HTW := Lib.hid (HTW.out.keep hkx); clear hkx))
      obtain ⟨SX, hSX⟩ : ∃ SX, SX = made bud S refs.length l := ⟨_, rfl⟩
      have KX : Hid (Ok SX bud) := Lib.hid (by rw [hSX]; exact HK.out.made _ _)
      have hSS : SX = S := hSX.trans HM.out
      rw [← hSS] at HH hroom
      rw [← hSX] at HA
      clear hSX hSS HM
      obtain ⟨np, lt, tk, mb, D, F, q1, q2, q3, q4, q5, q6, q7, q8⟩ := HH.out
      obtain ⟨c0, c1, c2, c3⟩ := row4 q1
      have hpz := lt p np
      have hub := KX.out.bud
      have hus := used_len SX
      have hpre := pre_le SX 0
      have hnm : i64 ((pre SX 0 : Nat) + 1 : Int) := by unfold i64; omega
      have Q := Lib.hid (And.intro np (And.intro lt (And.intro q1 (And.intro q2 (And.intro q3 (And.intro q5 (And.intro q6 (And.intro q7 q8))))))))
      have hmz := lt mb q2
      clear np lt q1 q2 q3 q4 q5 q6 q7 q8
      go_upto_region 10 with (go_at_call 41; (with_reducible refine (c_freeName _ HH.out KX.out).mono ?_); rintro e w' ⟨rfl, hw'⟩; subst hw')
      go_region_law (refine step_go (by rfl) (step_call (f := 42) (by rfl) Try.func42 (by kernel_rfl) (by kernel_rfl) (by simp [Act.eval, Act.put]) ((c_cellsOf refs (.slice ar refs.length cr) B _ (by rw [← hv]; exact HR.out.keep goodBo ((Kp.refl _).drew)) (by omega)).mono ?_)); rintro e w5 ⟨u, rfl, hu1, hu2, hu3⟩; refine ⟨_, rfl, ?_⟩; obtain ⟨au, cu, hsl⟩ := hu1.slice; rw [List.length_map] at hsl; subst hsl; obtain ⟨w6, hrun6, ho6, ht6⟩ := store_obj (Q.out.2.2.2.2.2.1.turn (hu3.blk hmz)) (by rw [Q.out.2.2.2.2.2.2.2.1]; omega) hnm au refs.length cu; have U1 := Lib.hid hu1; have U2 := Lib.hid hu2; have U3 := Lib.hid (((Kp.refl _).drew).trans hu3); have O6 := Lib.hid ho6; have G6 := Lib.hid ht6; have hz5 := hu3.sz; have hp5 := (hu3.blk hpz).trans Q.out.2.2.1; have HP5 := Lib.hid hp5; have HP6 := Lib.hid (grown_row hp5 G6.out (fun k hk => by cases hk; exact Q.out.2.2.2.2.1)); obtain ⟨c0, c1, c2, c3⟩ := row4 hp5; obtain ⟨d0, d1, d2, d3⟩ := row4 HP6.out; have hz6 := row_lt HP6.out; have f1 := frozen_of_row _ _ 1 _ _ HP6.out; have f2 := frozen_of_row _ _ 2 _ _ HP6.out)
      all_goals
        go_wp2_with fail
        go_region_law (refine step_go (by rfl) (step_call (f := 43) (by rfl) Try.func43 (by kernel_rfl) (by kernel_rfl) (by simp [Act.eval, Act.put]) ((c_room (refs.length : Int) _ (by omega)).mono ?_)); rintro e w7 ⟨rfl, hw7⟩; subst hw7; refine ⟨_, rfl, ?_⟩)
      all_goals
        have hwr : IntKind.i64.wrap ((used SX : Int) + ((refs.length : Int) + 1)) = (used SX : Int) + ((refs.length : Int) + 1) := by rw [IntKind.wrap_i64]; omega
        have hp7 := heap_setCell_same w6 p 1 _ _ (.int .i64 (IntKind.i64.wrap ((used SX : Int) + ((refs.length : Int) + 1)))) HP6.out
        rw [hwr] at hp7
        go_wp2_with fail
        go_ret2
        have hp8 := heap_setCell_same _ p 2 _ _ (.int .i64 ((pre SX 0 : Nat) + 1 : Int)) hp7
        have hg8 := grownBy_set2 w6 p 1 2 (.int .i64 ((used SX : Int) + ((refs.length : Int) + 1))) (.int .i64 ((pre SX 0 : Nat) + 1 : Int))
        obtain ⟨qa, qb, qc, qd, qe, qf, qg, qh, qi⟩ := Q.out
        have hins := HP.ins (W := (((w6.setCell ⟨p, 1, none⟩ (.int .i64 ((used SX : Int) + ((refs.length : Int) + 1)))).setCell ⟨p, 2, none⟩ (.int .i64 ((pre SX 0 : Nat) + 1 : Int))).drew)) KX.out hroom qa qb U3.out.sz qd qe O6.out (OM.tidy qf) qg qh (qi.turn (fun g hg _ _ => U3.out.blk (qb g hg))) U1.out U2.out G6.out ⟨hg8.os, hg8.tape, hg8.output, hg8.size, hg8.block⟩ hp8
        refine ⟨by rw [HA.out, if_pos hroom]; rfl, _, by rw [HA.out, if_pos hroom]; exact hins, ?_, fun k hk => ?_⟩
        · exact ((HTW.out.keep U3.out).grown G6.out (fun k e => .inl (by cases e; exact qd))).grown (row := some p) ⟨hg8.os, hg8.tape, hg8.output, hg8.size, hg8.block⟩ (fun k e => .inl (by cases e; exact qa))
        · rcases hk with hk | hk
          · exact .inl hk
          · exact .inr (Nat.le_trans HTW.out.sz (U2.out k hk).1)
    · have hm : made bud S refs.length l = col S l := by unfold made; rw [if_neg hroom]
      have HM := Lib.hid hm
      have HD := Lib.hid (show decide (used S + 1 + refs.length ≤ bud) = false by simpa using hroom)
      clear hm
      go_upto_region 7 with (first
        | (go_at_call 38; (with_reducible refine (c_areRoots l vl Bl w HH.out HK.out HL.out).mono ?_); rintro e w' ⟨rfl, hw'⟩; subst hw'; rw [HN.out])
        | (go_at_call 39; (with_reducible refine (c_hasRoom refs.length _ HH.out HK.out (by omega)).mono ?_); rintro e wx ⟨rfl, hkx⟩; rw [HD.out]; have HH := Lib.hid (HH.out.keep hkx); have HR := Lib.hid (HR.out.keep goodBo hkx); have HL := Lib.hid (HL.out.keep goodI hkx); have HTW := Lib.hid (HTW.out.keep hkx); clear hkx)
        | (go_at_call 40; (with_reducible refine (c_sweep l vl Bl _ HH.out HK.out HL.out HN.out).mono ?_); rintro e wy ⟨rfl, h1, h2⟩; have HH := Lib.hid h1; have HR := Lib.hid (h2.rl goodBo HR.out (fun b _ hb => HB.out b hb)); have HTW := Lib.hid (HTW.out.trans h2 (fun _ _ e => e)); clear h1 h2))
      obtain ⟨SX, hSX⟩ : ∃ SX, SX = made bud S refs.length l := ⟨_, rfl⟩
      have KX : Hid (Ok SX bud) := Lib.hid (by rw [hSX]; exact HK.out.made _ _)
      have hSS : SX = col S l := hSX.trans HM.out
      rw [← hSS] at HH
      rw [← hSX] at HA
      clear hSX hSS HM
      clear hroom
      by_cases hroom : used SX + 1 + refs.length ≤ bud
      · have HD2 := Lib.hid (show decide (used SX + 1 + refs.length ≤ bud) = true by simpa using hroom)
        go_upto_region 9 with (go_at_call 39; (with_reducible refine (c_hasRoom refs.length _ HH.out KX.out (by omega)).mono ?_); rintro e wx ⟨rfl, hkx⟩; rw [HD2.out]; have HH := Lib.hid (HH.out.keep hkx); have HR := Lib.hid (HR.out.keep goodBo hkx); have HTW := Lib.hid (HTW.out.keep hkx); clear hkx)
        obtain ⟨np, lt, tk, mb, D, F, q1, q2, q3, q4, q5, q6, q7, q8⟩ := HH.out
        obtain ⟨c0, c1, c2, c3⟩ := row4 q1
        have hpz := lt p np
        have hub := KX.out.bud
        have hus := used_len SX
        have hpre := pre_le SX 0
        have hnm : i64 ((pre SX 0 : Nat) + 1 : Int) := by unfold i64; omega
        have Q := Lib.hid (And.intro np (And.intro lt (And.intro q1 (And.intro q2 (And.intro q3 (And.intro q5 (And.intro q6 (And.intro q7 q8))))))))
        have hmz := lt mb q2
        clear np lt q1 q2 q3 q4 q5 q6 q7 q8
        go_upto_region 10 with (go_at_call 41; (with_reducible refine (c_freeName _ HH.out KX.out).mono ?_); rintro e w' ⟨rfl, hw'⟩; subst hw')
        go_region_law (refine step_go (by rfl) (step_call (f := 42) (by rfl) Try.func42 (by kernel_rfl) (by kernel_rfl) (by simp [Act.eval, Act.put]) ((c_cellsOf refs (.slice ar refs.length cr) B _ (by rw [← hv]; exact HR.out.keep goodBo ((Kp.refl _).drew)) (by omega)).mono ?_)); rintro e w5 ⟨u, rfl, hu1, hu2, hu3⟩; refine ⟨_, rfl, ?_⟩; obtain ⟨au, cu, hsl⟩ := hu1.slice; rw [List.length_map] at hsl; subst hsl; obtain ⟨w6, hrun6, ho6, ht6⟩ := store_obj (Q.out.2.2.2.2.2.1.turn (hu3.blk hmz)) (by rw [Q.out.2.2.2.2.2.2.2.1]; omega) hnm au refs.length cu; have U1 := Lib.hid hu1; have U2 := Lib.hid hu2; have U3 := Lib.hid (((Kp.refl _).drew).trans hu3); have O6 := Lib.hid ho6; have G6 := Lib.hid ht6; have hz5 := hu3.sz; have hp5 := (hu3.blk hpz).trans Q.out.2.2.1; have HP5 := Lib.hid hp5; have HP6 := Lib.hid (grown_row hp5 G6.out (fun k hk => by cases hk; exact Q.out.2.2.2.2.1)); obtain ⟨c0, c1, c2, c3⟩ := row4 hp5; obtain ⟨d0, d1, d2, d3⟩ := row4 HP6.out; have hz6 := row_lt HP6.out; have f1 := frozen_of_row _ _ 1 _ _ HP6.out; have f2 := frozen_of_row _ _ 2 _ _ HP6.out)
        all_goals
          go_wp2_with fail
          go_region_law (refine step_go (by rfl) (step_call (f := 43) (by rfl) Try.func43 (by kernel_rfl) (by kernel_rfl) (by simp [Act.eval, Act.put]) ((c_room (refs.length : Int) _ (by omega)).mono ?_)); rintro e w7 ⟨rfl, hw7⟩; subst hw7; refine ⟨_, rfl, ?_⟩)
        all_goals
          have hwr : IntKind.i64.wrap ((used SX : Int) + ((refs.length : Int) + 1)) = (used SX : Int) + ((refs.length : Int) + 1) := by rw [IntKind.wrap_i64]; omega
          have hp7 := heap_setCell_same w6 p 1 _ _ (.int .i64 (IntKind.i64.wrap ((used SX : Int) + ((refs.length : Int) + 1)))) HP6.out
          rw [hwr] at hp7
          go_wp2_with fail
          go_ret2
          have hp8 := heap_setCell_same _ p 2 _ _ (.int .i64 ((pre SX 0 : Nat) + 1 : Int)) hp7
          have hg8 := grownBy_set2 w6 p 1 2 (.int .i64 ((used SX : Int) + ((refs.length : Int) + 1))) (.int .i64 ((pre SX 0 : Nat) + 1 : Int))
          obtain ⟨qa, qb, qc, qd, qe, qf, qg, qh, qi⟩ := Q.out
          have hins := HP.ins (W := (((w6.setCell ⟨p, 1, none⟩ (.int .i64 ((used SX : Int) + ((refs.length : Int) + 1)))).setCell ⟨p, 2, none⟩ (.int .i64 ((pre SX 0 : Nat) + 1 : Int))).drew)) KX.out hroom qa qb U3.out.sz qd qe O6.out (OM.tidy qf) qg qh (qi.turn (fun g hg _ _ => U3.out.blk (qb g hg))) U1.out U2.out G6.out ⟨hg8.os, hg8.tape, hg8.output, hg8.size, hg8.block⟩ hp8
          refine ⟨by rw [HA.out, if_pos hroom]; rfl, _, by rw [HA.out, if_pos hroom]; exact hins, ?_, fun k hk => ?_⟩
          · exact ((HTW.out.keep U3.out).grown G6.out (fun k e => .inl (by cases e; exact qd))).grown (row := some p) ⟨hg8.os, hg8.tape, hg8.output, hg8.size, hg8.block⟩ (fun k e => .inl (by cases e; exact qa))
          · rcases hk with hk | hk
            · exact .inl hk
            · exact .inr (Nat.le_trans HTW.out.sz (U2.out k hk).1)
      · have HD2 := Lib.hid (show decide (used SX + 1 + refs.length ≤ bud) = false by simpa using hroom)
        go_wp2_with (go_at_call 39; (with_reducible refine (c_hasRoom refs.length _ HH.out KX.out (by omega)).mono ?_); rintro e wx ⟨rfl, hkx⟩; rw [HD2.out]; have HH := Lib.hid (HH.out.keep hkx); have HTW := Lib.hid (HTW.out.keep hkx); clear hkx)
        go_ret2
        rw [HA.out, if_neg hroom]
        exact ⟨rfl, N, HH.out, HTW.out, fun k hk => .inl hk⟩
end Go.Proofs.Ytkaeigklhdpifaa
