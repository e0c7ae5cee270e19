/- Own of the reference: a node in new memory. Condition: the node lies in memory. -/
import Derived.Test.YtgamenimbkafjaaT1
namespace Go.Proofs.Ytgamenimbkafjaa
open Go.RowKit
set_option linter.unusedVariables false
set_option linter.unusedSimpArgs false
/-- What Own answers. -/
def OwnP (r : Nat) (T : Nd) (w : World) (e : Ending) (w' : World) : Prop := ∃ h' : Hn, e = .returned h'.val ∧ Lies w' (From w.heap.size) r T h' ∧ Kp w w'
set_option maxHeartbeats 3200000 in
set_option maxRecDepth 100000 in
theorem own_step (r : Nat) (T : Nd) (h : Hn) (K : Nat → Hn) (w : World) (t : Top w A0 T h K) (hh : ∀ i X, T.kids[i]? = some X → Lies w A0 r X (K i)) (h0 : 0 < h.ll)
    (cf : ∀ (T : Nd) (h : Hn) (w : World), Lies w A0 r T h → Calls Try.prog 14 #[h.val] w (OwnP r T w)) :
    Calls Try.prog 14 #[h.val] w (OwnP (r + 1) T w) := by
  obtain ⟨i0, hi, hz0, hz1, hz2⟩ := info_parts infoN
  obtain ⟨b, o, ha, hr⟩ := t.tl.at h0
  have hes := t.es
  have hbl := t.bl
  have HT := Lib.hid t
  have HH := Lib.hid hh
  have CF := Lib.hid cf
  clear t hh cf
  obtain ⟨k, tx, nn, at_, la, ll, lc⟩ := h
  simp only at h0 ha hr hes hbl
  subst ha
  have HR := Lib.hid hr
  have hkl : ll ≤ T.kids.length := by omega
  have hbw : b < w.heap.size := lt_of_cell (hr 0 h0 0 _ rfl)
  have HE := Lib.hid hes
  clear hr hes
  go_enter Try.func14, Try.ntmps14
  go_wp2_with fail
  go_loopw [4] (fun i wr => ∃ n v K', n ≤ ll ∧ i = .int .i64 (n : Nat) ∧ wr.heap[w.heap.size + 1 + 1]? = some (.cells #[.int .i64 k, .string tx, .int .u64 nn, .int .i64 at_, v] 25 (0, 0)) ∧ KidsIn wr (w.heap.size + 1 + 1 + 1) r T.kids n v K' ∧
      Kp ((w.alloc (.cells #[.int .i64 k, .string tx, .int .u64 nn, .int .i64 at_, .slice (some ⟨b, o, none⟩) ll lc] 25)).alloc (.cells #[.int .i64 0, .string ⟨#[]⟩, .int .u64 0, .int .i64 0, .slice none 0 0] 25)) wr ∧ w.heap.size + 1 + 1 < wr.heap.size) (fun i _ => ll - (intOf i).toNat)
  case atStart => exact ⟨0, _, K, by omega, rfl, heap_at (by simp), kidsIn_nil _ _ _ _ _, (Kp.refl _).alloc _, by simp⟩
  case round =>
    obtain ⟨n, v, K', hn, rfl, hbk, hI, hkr, hws⟩ := hrel
    have g4 : wr.cell? ⟨w.heap.size + 1 + 1, 4, none⟩ = some v := by rw [cell_of_row _ _ _ _ _ _ hbk]; rfl
    have gf : ∀ j, wr.frozen? ⟨w.heap.size + 1 + 1, j, none⟩ = false := fun j => frozen_of_row _ _ _ _ _ hbk
    obtain ⟨p0, p1, p2, p3, p4, ps⟩ := boxed (h := ⟨k, tx, nn, at_, some ⟨b, o, none⟩, ll, lc⟩) (Kp.trans ((Kp.refl _).alloc _) hkr)
    simp only at p0 p1 p2 p3 p4
    have HBK := Lib.hid hbk
    have HI := Lib.hid hI
    have HKR := Lib.hid hkr
    have HKW := Lib.hid (((Kp.refl w).alloc _).alloc _ |>.trans hkr)
    clear hI hkr
    by_cases hlt : n < ll
    · clear hbk
      obtain ⟨X, hX⟩ : ∃ X, T.kids[n]? = some X := ⟨_, List.getElem?_eq_getElem (by omega)⟩
      have HX := Lib.hid hX
      clear hX
      have hrn := HKW.out.range (HR.out n hlt)
      obtain ⟨c0, c1, c2, c3, c4⟩ := node_at hrn
      clear hrn
      have jj1 : (0 : Int) ≤ n := by omega
      have jj2 : (n : Int) < ll := by omega
      have hno : ∀ q, q < w.heap.size + 1 + 1 + 1 → some q ≠ v.ownBlock := fun q hq e => by have := (HI.out.1.lt q e.symm).1; omega
      have HNO := Lib.hid hno
      clear hno
      have CSH : Hid (∀ w' : World, (∀ (p : Addr) (v : Value), p.block < w.heap.size + 1 → wr.cell? p = some v → w'.cell? p = some v) → w'.cell? ⟨w.heap.size, 4, none⟩ = some (.slice (some ⟨b, o, none⟩) ll lc) ∧ w'.cell? ⟨b, o + n * 5, none⟩ = some (.int .i64 (K n).k) ∧ w'.cell? ⟨b, o + n * 5 + 1, none⟩ = some (.string (K n).tx) ∧ w'.cell? ⟨b, o + n * 5 + 2, none⟩ = some (.int .u64 (K n).n) ∧ w'.cell? ⟨b, o + n * 5 + 3, none⟩ = some (.int .i64 (K n).at_) ∧ w'.cell? ⟨b, o + n * 5 + 4, none⟩ = some (.slice (K n).la (K n).ll (K n).lc)) :=
        Lib.hid (fun w' f => ⟨f _ _ (by simp) p4, f _ _ (by simp; omega) c0, f _ _ (by simp; omega) c1, f _ _ (by simp; omega) c2, f _ _ (by simp; omega) c3, f _ _ (by simp; omega) c4⟩)
      go_wp2_with fail
      refine wp_region_held_drew (S := (fun w' => w'.cell? ⟨w.heap.size, 4, none⟩ = some (.slice (some ⟨b, o, none⟩) ll lc) ∧ w'.cell? ⟨b, o + n * 5, none⟩ = some (.int .i64 (K n).k) ∧ w'.cell? ⟨b, o + n * 5 + 1, none⟩ = some (.string (K n).tx) ∧ w'.cell? ⟨b, o + n * 5 + 2, none⟩ = some (.int .u64 (K n).n) ∧ w'.cell? ⟨b, o + n * 5 + 3, none⟩ = some (.int .i64 (K n).at_) ∧ w'.cell? ⟨b, o + n * 5 + 4, none⟩ = some (.slice (K n).la (K n).ll (K n).lc))) (by kernel_rfl) (CSH.out _ (fun p v hp hc => hc)) (fun hHeld0 => ?_)
      refine wpAnyH_take (i := 0) (oi := { dst := some 21, op := Op.fieldAddr 25 (Operand.tmp 3) 4, type := 0, pos := "ref.go:280", after := #[], guard := none }) (v := ?_) rfl (by kernel_rfl) (by kernel_rfl) (by kernel_rfl) (fun _ _ _ h => h) (Or.inl ⟨by rfl, ?_⟩) (by assumption) ?_
      rotate_left
      · (intro wz hSw; (try dsimp only at hSw); go_simp; first | done | with_reducible rfl)
      try simp only [Act.put, List.setIfInBounds_toArray, List.set_cons_zero, List.set_cons_succ]
      refine wpAnyH_take (i := 2) (oi := { dst := some 23, op := Op.fieldAddr 25 (Operand.tmp 1) 4, type := 0, pos := "ref.go:280", after := #[], guard := none }) (v := ?_) rfl (by kernel_rfl) (by kernel_rfl) (by kernel_rfl) (fun _ _ _ h => h) (Or.inl ⟨by rfl, ?_⟩) (by assumption) ?_
      rotate_left
      · (intro wz hSw; (try dsimp only at hSw); go_simp; first | done | with_reducible rfl)
      try simp only [Act.put, List.setIfInBounds_toArray, List.set_cons_zero, List.set_cons_succ]
      refine wpAnyH_take (i := 3) (oi := { dst := some 24, op := Op.load 23 (Operand.tmp 23), type := 23, pos := "ref.go:280", after := #[{ on := 2, ground := Ground.data }], guard := none }) (v := ?_) rfl (by kernel_rfl) (by kernel_rfl) (by kernel_rfl) (fun _ _ _ h => h) (Or.inl ⟨by rfl, ?_⟩) (by assumption) ?_
      rotate_left
      · (intro wz hSw; (try dsimp only at hSw); go_simp; first | done | with_reducible rfl)
      try simp only [Act.put, List.setIfInBounds_toArray, List.set_cons_zero, List.set_cons_succ]
      refine wpAnyH_take (i := 4) (oi := { dst := some 25, op := Op.move (Operand.tmp 4), type := 3, pos := "ref.go:280", after := #[], guard := none }) (v := ?_) rfl (by kernel_rfl) (by kernel_rfl) (by kernel_rfl) (fun _ _ _ h => h) (Or.inl ⟨by rfl, ?_⟩) (by assumption) ?_
      rotate_left
      · (intro wz hSw; (try dsimp only at hSw); go_simp; first | done | with_reducible rfl)
      try simp only [Act.put, List.setIfInBounds_toArray, List.set_cons_zero, List.set_cons_succ]
      refine wpAnyH_take (i := 5) (oi := { dst := some 26, op := Op.indexAddr 23 (Operand.tmp 24) (Operand.tmp 25), type := 0, pos := "ref.go:280", after := #[{ on := 3, ground := Ground.data }, { on := 4, ground := Ground.data }], guard := none }) (v := ?_) rfl (by kernel_rfl) (by kernel_rfl) (by kernel_rfl) (fun _ _ _ h => h) (Or.inl ⟨by rfl, ?_⟩) (by assumption) ?_
      rotate_left
      · (intro wz hSw; (try dsimp only at hSw); go_simp; first | done | with_reducible rfl)
      try simp only [Act.put, List.setIfInBounds_toArray, List.set_cons_zero, List.set_cons_succ]
      refine wpAnyH_take (i := 6) (oi := { dst := some 27, op := Op.load 25 (Operand.tmp 26), type := 25, pos := "ref.go:280", after := #[{ on := 5, ground := Ground.data }], guard := none }) (v := ?_) rfl (by kernel_rfl) (by kernel_rfl) (by kernel_rfl) (fun _ _ _ h => h) (Or.inl ⟨by rfl, ?_⟩) (by assumption) ?_
      rotate_left
      · (intro wz hSw; (try dsimp only at hSw); go_simp; first | done | with_reducible rfl)
      try simp only [Act.put, List.setIfInBounds_toArray, List.set_cons_zero, List.set_cons_succ]
      refine wpAnyH_ready (rs := [1, 7]) (by kernel_rfl) (by simp) ?_
      refine AllReadyH.cons (o := { dst := some 22, op := Op.load 23 (Operand.tmp 21), type := 23, pos := "ref.go:280", after := #[{ on := 0, ground := Ground.data }], guard := none }) rfl (fun Kw hKw => ?_) ?_
      · go_simp
        refine hKw.out _ _ (CSH.out _ (fun p v hp hc => hc)) (fun hHeld1 => ?_)
        clear hKw Kw hHeld0
        try simp only [Act.put, List.setIfInBounds_toArray, List.set_cons_zero, List.set_cons_succ]
        refine wpAnyH_ready (rs := [7]) (by kernel_rfl) (by simp) ?_
        refine AllReadyH.cons (o := { dst := some 28, op := Op.call { callee := Callee.value (Operand.func 14), args := #[Operand.tmp 27], argTypes := #[25] }, type := 25, pos := "ref.go:280", after := #[{ on := 6, ground := Ground.data }], guard := none }) rfl (fun Kw hKw => ?_) AllReadyH.nil
        go_simp
        go_at_call 14
        refine (CF.out X (K n) _ ((HH.out n X HX.out).keep HKW.out.drew)).mono ?_
        rintro e w1 ⟨h', rfl, hli, hk1⟩
        have KQ1 := Lib.hid (((Kp.refl wr).drew).trans hk1)
        have q4 := KQ1.out.cellv g4
        have q5 : w.heap.size + 1 + 1 < w1.heap.size := (by have := KQ1.out.sz; omega)
        go_wp2_with fail
        refine hKw.out _ _ (CSH.out _ (fun p v hp hc => KQ1.out.cellv hc)) (fun hHeld2 => ?_)
        clear hKw Kw hHeld1
        try simp only [Act.put, List.setIfInBounds_toArray, List.set_cons_zero, List.set_cons_succ]
        refine wpAnyH_ready (rs := [8]) (by kernel_rfl) (by simp) ?_
        refine AllReadyH.cons (o := { dst := some 29, op := Op.buildSlice 23 1 #[(0, Operand.tmp 28)], type := 23, pos := "ref.go:280", after := #[{ on := 7, ground := Ground.data }], guard := none }) rfl (fun Kw hKw => ?_) AllReadyH.nil
        go_simp
        refine hKw.out _ _ (CSH.out _ (fun p v hp hc => (KQ1.out.alloc _).cellv hc)) (fun hHeld3 => ?_)
        clear hKw Kw hHeld2
        try simp only [Act.put, List.setIfInBounds_toArray, List.set_cons_zero, List.set_cons_succ]
        refine wpAnyH_ready (rs := [9]) (by kernel_rfl) (by simp) ?_
        refine AllReadyH.cons (o := { dst := some 30, op := Op.call { callee := Callee.builtin Builtin.append, args := #[Operand.tmp 22, Operand.tmp 29], argTypes := #[23, 23] }, type := 23, pos := "ref.go:280", after := #[{ on := 1, ground := Ground.data }, { on := 8, ground := Ground.data }, { on := 7, ground := Ground.chain }], guard := none }) rfl (fun Kw hKw => ?_) AllReadyH.nil
        refine step_append_lies _ (by rfl) _ _ _ (by rfl) (w.heap.size + 1 + 1 + 1) 25 i0 _ 5 64 Try.underlying23 hi hz0 hz1 hz2 rfl (by omega) v n _ (by rfl) ((HI.out.keep (KQ1.out.alloc _)).1) ⟨w1.heap.size, 0, none⟩ 1 1 h'.cells (by rfl) (by rfl) (World.news_of_block (cs := h'.cells.toArray) (t := 25) (fr := (0, 0)) (heap_alloc_new w1 _)) (by intro u hu; simp at hu; rcases hu with rfl | rfl | rfl | rfl | rfl <;> rfl) (by omega) (by unfold maxLen; omega) (by omega) (by have := hk1.sz; simp at this ⊢; omega) (w1.heap.size + 1) (by simp) ?_
        intro gg cap w3 hown3 hgrow hat hlt3
        have KQ := Lib.hid (KQ1.out.alloc (.cells h'.cells.toArray 25))
        have k4 := hgrow.cell (KQ.out.cellv g4) (HNO.out _ (by simp))
        have kf := (grown_frz (b := w.heap.size + 1 + 1) (j := 4) hgrow (by have := KQ.out.sz; simp at this ⊢; omega) (HNO.out _ (by omega))).trans ((KQ.out.frz (p := ⟨w.heap.size + 1 + 1, 4, none⟩) hws).trans (gf 4))
        refine hKw.out _ _ (CSH.out _ (fun p v hp hc => hgrow.cell (KQ.out.cellv hc) (HNO.out _ (by omega)))) (fun hHeld4 => ?_)
        clear hKw Kw hHeld3
        try simp only [Act.put, List.setIfInBounds_toArray, List.set_cons_zero, List.set_cons_succ]
        refine wpAnyH_take (i := 10) (oi := { dst := some 31, op := Op.fieldAddr 25 (Operand.tmp 3) 4, type := 0, pos := "ref.go:280", after := #[{ on := 0, ground := Ground.phase }, { on := 1, ground := Ground.phase }, { on := 2, ground := Ground.phase }, { on := 3, ground := Ground.phase }, { on := 4, ground := Ground.phase }, { on := 5, ground := Ground.phase }, { on := 6, ground := Ground.phase }, { on := 7, ground := Ground.phase }, { on := 8, ground := Ground.phase }, { on := 9, ground := Ground.phase }], guard := none }) (v := ?_) rfl (by kernel_rfl) (by kernel_rfl) (by kernel_rfl) (fun _ _ _ h => h) (Or.inl ⟨by rfl, ?_⟩) (by assumption) ?_
        rotate_left
        · (intro wz hSw; (try dsimp only at hSw); go_simp; first | done | with_reducible rfl)
        try simp only [Act.put, List.setIfInBounds_toArray, List.set_cons_zero, List.set_cons_succ]
        refine wpAnyH_ready (rs := [11]) (by kernel_rfl) (by simp) ?_
        refine AllReadyH.cons (o := { dst := none, op := Op.store 23 (Operand.tmp 31) (Operand.tmp 30), type := 0, pos := "ref.go:280", after := #[{ on := 10, ground := Ground.data }, { on := 9, ground := Ground.data }, { on := 9, ground := Ground.chain }, { on := 0, ground := Ground.phase }, { on := 1, ground := Ground.phase }, { on := 2, ground := Ground.phase }, { on := 3, ground := Ground.phase }, { on := 4, ground := Ground.phase }, { on := 5, ground := Ground.phase }, { on := 6, ground := Ground.phase }, { on := 7, ground := Ground.phase }, { on := 8, ground := Ground.phase }, { on := 9, ground := Ground.phase }], guard := none }) rfl (fun Kw hKw => ?_) AllReadyH.nil
        go_simp
        refine hKw.out _ _ (CSH.out _ (fun p v hp hc => (World.cell?_setCell_other _ _ _ _ (by intro e; rw [← e] at hp; simp at hp; omega)).trans (hgrow.cell (KQ.out.cellv hc) (HNO.out _ (by omega))))) (fun hHeld5 => ?_)
        clear hKw Kw hHeld4
        try simp only [Act.put, List.setIfInBounds_toArray, List.set_cons_zero, List.set_cons_succ]
        refine wpAnyH_done (by kernel_rfl) ?_ _
        go_wp2_with fail
        go_roundw
        case rel => exact ⟨n + 1, _, put K' n h', by omega, by go_num, heap_setCell_same w3 _ 4 _ _ _ ((hgrow.block _ (by have := KQ.out.sz; simp at this ⊢; omega) (HNO.out _ (by omega))).trans ((KQ.out.blk hws).trans HBK.out)), KidsIn.turn (KidsIn.next (w := wr.drew) (show w.heap.size + 1 + 1 + 1 ≤ wr.heap.size from hws) (HI.out.keep ((Kp.refl wr).drew)) HX.out hk1 hli ((Kp.refl w1).alloc _) hown3 hgrow (hat.imp (fun e => e.symm) (fun e => by rw [e]; simp [Value.ownBlock]))) (Fr.set _ _ _) (by simp) (fun b hb => by rw [hb]; simp), (((HKR.out.drew.trans hk1).alloc _).grown hgrow (fun k hk => by have := (HI.out.1.lt k hk).1; simp; omega)).setCell (by simp) _, by have := hgrow.size; have := hk1.sz; simp at *; omega⟩
        case measure => simp [intOf]; omega
      refine AllReadyH.cons (o := { dst := some 28, op := Op.call { callee := Callee.value (Operand.func 14), args := #[Operand.tmp 27], argTypes := #[25] }, type := 25, pos := "ref.go:280", after := #[{ on := 6, ground := Ground.data }], guard := none }) rfl (fun Kw hKw => ?_) AllReadyH.nil
      go_simp
      go_at_call 14
      refine (CF.out X (K n) _ ((HH.out n X HX.out).keep HKW.out.drew)).mono ?_
      rintro e w1 ⟨h', rfl, hli, hk1⟩
      have KQ1 := Lib.hid (((Kp.refl wr).drew).trans hk1)
      have q4 := KQ1.out.cellv g4
      have q5 : w.heap.size + 1 + 1 < w1.heap.size := (by have := KQ1.out.sz; omega)
      go_wp2_with fail
      refine hKw.out _ _ (CSH.out _ (fun p v hp hc => KQ1.out.cellv hc)) (fun hHeld6 => ?_)
      clear hKw Kw hHeld0
      try simp only [Act.put, List.setIfInBounds_toArray, List.set_cons_zero, List.set_cons_succ]
      refine wpAnyH_ready (rs := [1, 8]) (by kernel_rfl) (by simp) ?_
      refine AllReadyH.cons (o := { dst := some 22, op := Op.load 23 (Operand.tmp 21), type := 23, pos := "ref.go:280", after := #[{ on := 0, ground := Ground.data }], guard := none }) rfl (fun Kw hKw => ?_) ?_
      · go_simp
        refine hKw.out _ _ (CSH.out _ (fun p v hp hc => KQ1.out.cellv hc)) (fun hHeld7 => ?_)
        clear hKw Kw hHeld6
        try simp only [Act.put, List.setIfInBounds_toArray, List.set_cons_zero, List.set_cons_succ]
        refine wpAnyH_ready (rs := [8]) (by kernel_rfl) (by simp) ?_
        refine AllReadyH.cons (o := { dst := some 29, op := Op.buildSlice 23 1 #[(0, Operand.tmp 28)], type := 23, pos := "ref.go:280", after := #[{ on := 7, ground := Ground.data }], guard := none }) rfl (fun Kw hKw => ?_) AllReadyH.nil
        go_simp
        refine hKw.out _ _ (CSH.out _ (fun p v hp hc => (KQ1.out.alloc _).cellv hc)) (fun hHeld8 => ?_)
        clear hKw Kw hHeld7
        try simp only [Act.put, List.setIfInBounds_toArray, List.set_cons_zero, List.set_cons_succ]
        refine wpAnyH_ready (rs := [9]) (by kernel_rfl) (by simp) ?_
        refine AllReadyH.cons (o := { dst := some 30, op := Op.call { callee := Callee.builtin Builtin.append, args := #[Operand.tmp 22, Operand.tmp 29], argTypes := #[23, 23] }, type := 23, pos := "ref.go:280", after := #[{ on := 1, ground := Ground.data }, { on := 8, ground := Ground.data }, { on := 7, ground := Ground.chain }], guard := none }) rfl (fun Kw hKw => ?_) AllReadyH.nil
        refine step_append_lies _ (by rfl) _ _ _ (by rfl) (w.heap.size + 1 + 1 + 1) 25 i0 _ 5 64 Try.underlying23 hi hz0 hz1 hz2 rfl (by omega) v n _ (by rfl) ((HI.out.keep (KQ1.out.alloc _)).1) ⟨w1.heap.size, 0, none⟩ 1 1 h'.cells (by rfl) (by rfl) (World.news_of_block (cs := h'.cells.toArray) (t := 25) (fr := (0, 0)) (heap_alloc_new w1 _)) (by intro u hu; simp at hu; rcases hu with rfl | rfl | rfl | rfl | rfl <;> rfl) (by omega) (by unfold maxLen; omega) (by omega) (by have := hk1.sz; simp at this ⊢; omega) (w1.heap.size + 1) (by simp) ?_
        intro gg cap w3 hown3 hgrow hat hlt3
        have KQ := Lib.hid (KQ1.out.alloc (.cells h'.cells.toArray 25))
        have k4 := hgrow.cell (KQ.out.cellv g4) (HNO.out _ (by simp))
        have kf := (grown_frz (b := w.heap.size + 1 + 1) (j := 4) hgrow (by have := KQ.out.sz; simp at this ⊢; omega) (HNO.out _ (by omega))).trans ((KQ.out.frz (p := ⟨w.heap.size + 1 + 1, 4, none⟩) hws).trans (gf 4))
        refine hKw.out _ _ (CSH.out _ (fun p v hp hc => hgrow.cell (KQ.out.cellv hc) (HNO.out _ (by omega)))) (fun hHeld9 => ?_)
        clear hKw Kw hHeld8
        try simp only [Act.put, List.setIfInBounds_toArray, List.set_cons_zero, List.set_cons_succ]
        refine wpAnyH_take (i := 10) (oi := { dst := some 31, op := Op.fieldAddr 25 (Operand.tmp 3) 4, type := 0, pos := "ref.go:280", after := #[{ on := 0, ground := Ground.phase }, { on := 1, ground := Ground.phase }, { on := 2, ground := Ground.phase }, { on := 3, ground := Ground.phase }, { on := 4, ground := Ground.phase }, { on := 5, ground := Ground.phase }, { on := 6, ground := Ground.phase }, { on := 7, ground := Ground.phase }, { on := 8, ground := Ground.phase }, { on := 9, ground := Ground.phase }], guard := none }) (v := ?_) rfl (by kernel_rfl) (by kernel_rfl) (by kernel_rfl) (fun _ _ _ h => h) (Or.inl ⟨by rfl, ?_⟩) (by assumption) ?_
        rotate_left
        · (intro wz hSw; (try dsimp only at hSw); go_simp; first | done | with_reducible rfl)
        try simp only [Act.put, List.setIfInBounds_toArray, List.set_cons_zero, List.set_cons_succ]
        refine wpAnyH_ready (rs := [11]) (by kernel_rfl) (by simp) ?_
        refine AllReadyH.cons (o := { dst := none, op := Op.store 23 (Operand.tmp 31) (Operand.tmp 30), type := 0, pos := "ref.go:280", after := #[{ on := 10, ground := Ground.data }, { on := 9, ground := Ground.data }, { on := 9, ground := Ground.chain }, { on := 0, ground := Ground.phase }, { on := 1, ground := Ground.phase }, { on := 2, ground := Ground.phase }, { on := 3, ground := Ground.phase }, { on := 4, ground := Ground.phase }, { on := 5, ground := Ground.phase }, { on := 6, ground := Ground.phase }, { on := 7, ground := Ground.phase }, { on := 8, ground := Ground.phase }, { on := 9, ground := Ground.phase }], guard := none }) rfl (fun Kw hKw => ?_) AllReadyH.nil
        go_simp
        refine hKw.out _ _ (CSH.out _ (fun p v hp hc => (World.cell?_setCell_other _ _ _ _ (by intro e; rw [← e] at hp; simp at hp; omega)).trans (hgrow.cell (KQ.out.cellv hc) (HNO.out _ (by omega))))) (fun hHeld10 => ?_)
        clear hKw Kw hHeld9
        try simp only [Act.put, List.setIfInBounds_toArray, List.set_cons_zero, List.set_cons_succ]
        refine wpAnyH_done (by kernel_rfl) ?_ _
        go_wp2_with fail
        go_roundw
        case rel => exact ⟨n + 1, _, put K' n h', by omega, by go_num, heap_setCell_same w3 _ 4 _ _ _ ((hgrow.block _ (by have := KQ.out.sz; simp at this ⊢; omega) (HNO.out _ (by omega))).trans ((KQ.out.blk hws).trans HBK.out)), KidsIn.turn (KidsIn.next (w := wr.drew) (show w.heap.size + 1 + 1 + 1 ≤ wr.heap.size from hws) (HI.out.keep ((Kp.refl wr).drew)) HX.out hk1 hli ((Kp.refl w1).alloc _) hown3 hgrow (hat.imp (fun e => e.symm) (fun e => by rw [e]; simp [Value.ownBlock]))) (Fr.set _ _ _) (by simp) (fun b hb => by rw [hb]; simp), (((HKR.out.drew.trans hk1).alloc _).grown hgrow (fun k hk => by have := (HI.out.1.lt k hk).1; simp; omega)).setCell (by simp) _, by have := hgrow.size; have := hk1.sz; simp at *; omega⟩
        case measure => simp [intOf]; omega
      refine AllReadyH.cons (o := { dst := some 29, op := Op.buildSlice 23 1 #[(0, Operand.tmp 28)], type := 23, pos := "ref.go:280", after := #[{ on := 7, ground := Ground.data }], guard := none }) rfl (fun Kw hKw => ?_) AllReadyH.nil
      go_simp
      refine hKw.out _ _ (CSH.out _ (fun p v hp hc => (KQ1.out.alloc _).cellv hc)) (fun hHeld11 => ?_)
      clear hKw Kw hHeld6
      try simp only [Act.put, List.setIfInBounds_toArray, List.set_cons_zero, List.set_cons_succ]
      refine wpAnyH_ready (rs := [1]) (by kernel_rfl) (by simp) ?_
      refine AllReadyH.cons (o := { dst := some 22, op := Op.load 23 (Operand.tmp 21), type := 23, pos := "ref.go:280", after := #[{ on := 0, ground := Ground.data }], guard := none }) rfl (fun Kw hKw => ?_) AllReadyH.nil
      go_simp
      refine hKw.out _ _ (CSH.out _ (fun p v hp hc => (KQ1.out.alloc _).cellv hc)) (fun hHeld12 => ?_)
      clear hKw Kw hHeld11
      try simp only [Act.put, List.setIfInBounds_toArray, List.set_cons_zero, List.set_cons_succ]
      refine wpAnyH_ready (rs := [9]) (by kernel_rfl) (by simp) ?_
      refine AllReadyH.cons (o := { dst := some 30, op := Op.call { callee := Callee.builtin Builtin.append, args := #[Operand.tmp 22, Operand.tmp 29], argTypes := #[23, 23] }, type := 23, pos := "ref.go:280", after := #[{ on := 1, ground := Ground.data }, { on := 8, ground := Ground.data }, { on := 7, ground := Ground.chain }], guard := none }) rfl (fun Kw hKw => ?_) AllReadyH.nil
      refine step_append_lies _ (by rfl) _ _ _ (by rfl) (w.heap.size + 1 + 1 + 1) 25 i0 _ 5 64 Try.underlying23 hi hz0 hz1 hz2 rfl (by omega) v n _ (by rfl) ((HI.out.keep (KQ1.out.alloc _)).1) ⟨w1.heap.size, 0, none⟩ 1 1 h'.cells (by rfl) (by rfl) (World.news_of_block (cs := h'.cells.toArray) (t := 25) (fr := (0, 0)) (heap_alloc_new w1 _)) (by intro u hu; simp at hu; rcases hu with rfl | rfl | rfl | rfl | rfl <;> rfl) (by omega) (by unfold maxLen; omega) (by omega) (by have := hk1.sz; simp at this ⊢; omega) (w1.heap.size + 1) (by simp) ?_
      intro gg cap w3 hown3 hgrow hat hlt3
      have KQ := Lib.hid (KQ1.out.alloc (.cells h'.cells.toArray 25))
      have k4 := hgrow.cell (KQ.out.cellv g4) (HNO.out _ (by simp))
      have kf := (grown_frz (b := w.heap.size + 1 + 1) (j := 4) hgrow (by have := KQ.out.sz; simp at this ⊢; omega) (HNO.out _ (by omega))).trans ((KQ.out.frz (p := ⟨w.heap.size + 1 + 1, 4, none⟩) hws).trans (gf 4))
      refine hKw.out _ _ (CSH.out _ (fun p v hp hc => hgrow.cell (KQ.out.cellv hc) (HNO.out _ (by omega)))) (fun hHeld13 => ?_)
      clear hKw Kw hHeld12
      try simp only [Act.put, List.setIfInBounds_toArray, List.set_cons_zero, List.set_cons_succ]
      refine wpAnyH_take (i := 10) (oi := { dst := some 31, op := Op.fieldAddr 25 (Operand.tmp 3) 4, type := 0, pos := "ref.go:280", after := #[{ on := 0, ground := Ground.phase }, { on := 1, ground := Ground.phase }, { on := 2, ground := Ground.phase }, { on := 3, ground := Ground.phase }, { on := 4, ground := Ground.phase }, { on := 5, ground := Ground.phase }, { on := 6, ground := Ground.phase }, { on := 7, ground := Ground.phase }, { on := 8, ground := Ground.phase }, { on := 9, ground := Ground.phase }], guard := none }) (v := ?_) rfl (by kernel_rfl) (by kernel_rfl) (by kernel_rfl) (fun _ _ _ h => h) (Or.inl ⟨by rfl, ?_⟩) (by assumption) ?_
      rotate_left
      · (intro wz hSw; (try dsimp only at hSw); go_simp; first | done | with_reducible rfl)
      try simp only [Act.put, List.setIfInBounds_toArray, List.set_cons_zero, List.set_cons_succ]
      refine wpAnyH_ready (rs := [11]) (by kernel_rfl) (by simp) ?_
      refine AllReadyH.cons (o := { dst := none, op := Op.store 23 (Operand.tmp 31) (Operand.tmp 30), type := 0, pos := "ref.go:280", after := #[{ on := 10, ground := Ground.data }, { on := 9, ground := Ground.data }, { on := 9, ground := Ground.chain }, { on := 0, ground := Ground.phase }, { on := 1, ground := Ground.phase }, { on := 2, ground := Ground.phase }, { on := 3, ground := Ground.phase }, { on := 4, ground := Ground.phase }, { on := 5, ground := Ground.phase }, { on := 6, ground := Ground.phase }, { on := 7, ground := Ground.phase }, { on := 8, ground := Ground.phase }, { on := 9, ground := Ground.phase }], guard := none }) rfl (fun Kw hKw => ?_) AllReadyH.nil
      go_simp
      refine hKw.out _ _ (CSH.out _ (fun p v hp hc => (World.cell?_setCell_other _ _ _ _ (by intro e; rw [← e] at hp; simp at hp; omega)).trans (hgrow.cell (KQ.out.cellv hc) (HNO.out _ (by omega))))) (fun hHeld14 => ?_)
      clear hKw Kw hHeld13
      try simp only [Act.put, List.setIfInBounds_toArray, List.set_cons_zero, List.set_cons_succ]
      refine wpAnyH_done (by kernel_rfl) ?_ _
      go_wp2_with fail
      go_roundw
      case rel => exact ⟨n + 1, _, put K' n h', by omega, by go_num, heap_setCell_same w3 _ 4 _ _ _ ((hgrow.block _ (by have := KQ.out.sz; simp at this ⊢; omega) (HNO.out _ (by omega))).trans ((KQ.out.blk hws).trans HBK.out)), KidsIn.turn (KidsIn.next (w := wr.drew) (show w.heap.size + 1 + 1 + 1 ≤ wr.heap.size from hws) (HI.out.keep ((Kp.refl wr).drew)) HX.out hk1 hli ((Kp.refl w1).alloc _) hown3 hgrow (hat.imp (fun e => e.symm) (fun e => by rw [e]; simp [Value.ownBlock]))) (Fr.set _ _ _) (by simp) (fun b hb => by rw [hb]; simp), (((HKR.out.drew.trans hk1).alloc _).grown hgrow (fun k hk => by have := (HI.out.1.lt k hk).1; simp; omega)).setCell (by simp) _, by have := hgrow.size; have := hk1.sz; simp at *; omega⟩
      case measure => simp [intOf]; omega
    · obtain rfl : ll = n := by omega
      obtain ⟨la', lc', rfl, hcap, htl, hkids⟩ := HI.out.all HE.out
      have u0 := row_cell hbk 0
      have u1 := row_cell hbk 1
      have u2 := row_cell hbk 2
      have u3 := row_cell hbk 3
      have u4 := row_cell hbk 4
      simp at u0 u1 u2 u3 u4
      have hbz := (HKR.out.blk (b := w.heap.size + 1) (by simp)).trans (heap_at (by simp))
      have zf : ∀ j, wr.frozen? ⟨w.heap.size + 1, j, none⟩ = false := fun j => frozen_of_row _ _ _ _ _ hbz
      have z0 := row_cell hbz 0
      have z1 := row_cell hbz 1
      have z2 := row_cell hbz 2
      have z3 := row_cell hbz 3
      have z4 := row_cell hbz 4
      simp at z0 z1 z2 z3 z4
      have HTL := Lib.hid htl
      have HKD := Lib.hid hkids
      clear htl hkids hbk hbz
      go_wp2_with fail
      have K6 : Lies wr (From (w.heap.size + 1 + 1 + 1)) (r + 1) T ⟨k, tx, nn, at_, la', ll, lc'⟩ :=
        ⟨K', { ek := HT.out.ek, et := HT.out.et, en := HT.out.en, ea := HT.out.ea, es := HT.out.es, rk := HT.out.rk, rn := HT.out.rn, ra := HT.out.ra, rt := HT.out.rt, bl := HT.out.bl, cp := hcap, tl := HTL.out }, HKD.out⟩
      have zz : w.heap.size + 1 < wr.heap.size := by omega
      refine bodyPost_ret (v := .agg #[.int .i64 k, .string tx, .int .u64 nn, .int .i64 at_, .slice la' ll lc']) (by simp [results, Try.results14, go_sem, z0, z1, z2, z3, z4, zz]) rfl ⟨⟨k, tx, nn, at_, la', ll, lc'⟩, rfl, ?_, ?_⟩
      · refine (K6.turn (N := fun k => k < w.heap.size + 1 + 1 + 1) ?_ (by simp) (fun b _ (hb : w.heap.size + 1 + 1 + 1 ≤ b) h => by omega)).weak (From_le (by omega))
        iterate 5 refine Fr.setCell ?_ (by simp) (by simp <;> omega) _
        exact Fr.refl _ _
      · iterate 5 refine Kp.setCell ?_ (by simp <;> omega) _
        exact HKW.out
set_option maxHeartbeats 3200000 in
set_option maxRecDepth 100000 in
theorem own_none (r : Nat) (T : Nd) (h : Hn) (K : Nat → Hn) (w : World) (t : Top w A0 T h K) (hh : ∀ i X, T.kids[i]? = some X → Lies w A0 r X (K i)) (h0 : ¬ 0 < h.ll)
    (cf : ∀ (T : Nd) (h : Hn) (w : World), Lies w A0 r T h → Calls Try.prog 14 #[h.val] w (OwnP r T w)) :
    Calls Try.prog 14 #[h.val] w (OwnP (r + 1) T w) := by
  obtain ⟨i0, hi, hz0, hz1, hz2⟩ := info_parts infoN
  have hes := t.es
  have hbl := t.bl
  have HT := Lib.hid t
  have HH := Lib.hid hh
  have CF := Lib.hid cf
  clear t hh cf
  obtain ⟨k, tx, nn, at_, la, ll, lc⟩ := h
  simp only at h0 hes hbl
  have hkl : ll ≤ T.kids.length := by omega
  have HE := Lib.hid hes
  clear hes
  go_enter Try.func14, Try.ntmps14
  go_wp2_with fail
  go_loopw [4] (fun i wr => ∃ n v K', n ≤ ll ∧ i = .int .i64 (n : Nat) ∧ wr.heap[w.heap.size + 1 + 1]? = some (.cells #[.int .i64 k, .string tx, .int .u64 nn, .int .i64 at_, v] 25 (0, 0)) ∧ KidsIn wr (w.heap.size + 1 + 1 + 1) r T.kids n v K' ∧
      Kp ((w.alloc (.cells #[.int .i64 k, .string tx, .int .u64 nn, .int .i64 at_, .slice la ll lc] 25)).alloc (.cells #[.int .i64 0, .string ⟨#[]⟩, .int .u64 0, .int .i64 0, .slice none 0 0] 25)) wr ∧ w.heap.size + 1 + 1 < wr.heap.size) (fun i _ => ll - (intOf i).toNat)
  case atStart => exact ⟨0, _, K, by omega, rfl, heap_at (by simp), kidsIn_nil _ _ _ _ _, (Kp.refl _).alloc _, by simp⟩
  case round =>
    obtain ⟨n, v, K', hn, rfl, hbk, hI, hkr, hws⟩ := hrel
    have g4 : wr.cell? ⟨w.heap.size + 1 + 1, 4, none⟩ = some v := by rw [cell_of_row _ _ _ _ _ _ hbk]; rfl
    have gf : ∀ j, wr.frozen? ⟨w.heap.size + 1 + 1, j, none⟩ = false := fun j => frozen_of_row _ _ _ _ _ hbk
    obtain ⟨p0, p1, p2, p3, p4, ps⟩ := boxed (h := ⟨k, tx, nn, at_, la, ll, lc⟩) (Kp.trans ((Kp.refl _).alloc _) hkr)
    simp only at p0 p1 p2 p3 p4
    have HBK := Lib.hid hbk
    have HI := Lib.hid hI
    have HKR := Lib.hid hkr
    have HKW := Lib.hid (((Kp.refl w).alloc _).alloc _ |>.trans hkr)
    clear hI hkr
    by_cases hlt : n < ll
    · omega
    · obtain rfl : ll = n := by omega
      obtain ⟨la', lc', rfl, hcap, htl, hkids⟩ := HI.out.all HE.out
      have u0 := row_cell hbk 0
      have u1 := row_cell hbk 1
      have u2 := row_cell hbk 2
      have u3 := row_cell hbk 3
      have u4 := row_cell hbk 4
      simp at u0 u1 u2 u3 u4
      have hbz := (HKR.out.blk (b := w.heap.size + 1) (by simp)).trans (heap_at (by simp))
      have zf : ∀ j, wr.frozen? ⟨w.heap.size + 1, j, none⟩ = false := fun j => frozen_of_row _ _ _ _ _ hbz
      have z0 := row_cell hbz 0
      have z1 := row_cell hbz 1
      have z2 := row_cell hbz 2
      have z3 := row_cell hbz 3
      have z4 := row_cell hbz 4
      simp at z0 z1 z2 z3 z4
      have HTL := Lib.hid htl
      have HKD := Lib.hid hkids
      clear htl hkids hbk hbz
      go_wp2_with fail
      have K6 : Lies wr (From (w.heap.size + 1 + 1 + 1)) (r + 1) T ⟨k, tx, nn, at_, la', ll, lc'⟩ :=
        ⟨K', { ek := HT.out.ek, et := HT.out.et, en := HT.out.en, ea := HT.out.ea, es := HT.out.es, rk := HT.out.rk, rn := HT.out.rn, ra := HT.out.ra, rt := HT.out.rt, bl := HT.out.bl, cp := hcap, tl := HTL.out }, HKD.out⟩
      have zz : w.heap.size + 1 < wr.heap.size := by omega
      refine bodyPost_ret (v := .agg #[.int .i64 k, .string tx, .int .u64 nn, .int .i64 at_, .slice la' ll lc']) (by simp [results, Try.results14, go_sem, z0, z1, z2, z3, z4, zz]) rfl ⟨⟨k, tx, nn, at_, la', ll, lc'⟩, rfl, ?_, ?_⟩
      · refine (K6.turn (N := fun k => k < w.heap.size + 1 + 1 + 1) ?_ (by simp) (fun b _ (hb : w.heap.size + 1 + 1 + 1 ≤ b) h => by omega)).weak (From_le (by omega))
        iterate 5 refine Fr.setCell ?_ (by simp) (by simp <;> omega) _
        exact Fr.refl _ _
      · iterate 5 refine Kp.setCell ?_ (by simp <;> omega) _
        exact HKW.out
theorem c_Own : ∀ (r : Nat) (T : Nd) (h : Hn) (w : World), Lies w A0 r T h → Calls Try.prog 14 #[h.val] w (OwnP r T w)
  | 0, _, _, _, hl => hl.elim
  | r + 1, T, h, w, hl => by
    obtain ⟨K, t, hh⟩ := hl
    by_cases h0 : 0 < h.ll
    · exact own_step r T h K w t hh h0 (fun T h w hl => c_Own r T h w hl)
    · exact own_none r T h K w t hh h0 (fun T h w hl => c_Own r T h w hl)
end Go.Proofs.Ytgamenimbkafjaa
