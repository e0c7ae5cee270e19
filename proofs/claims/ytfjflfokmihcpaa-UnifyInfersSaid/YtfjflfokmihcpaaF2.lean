/- The reference's Fill where no name stands for anything: a type in new memory. Condition: the type lies in memory. -/
import Derived.Test.YtfjflfokmihcpaaF
namespace Go.Proofs.Ytfjflfokmihcpaa
open Go.RowKit
set_option linter.unusedVariables false
set_option linter.unusedSimpArgs false

theorem Kp.frz {a w : World} (h : Kp a w) {p : Addr} (hb : p.block < a.heap.size) : w.frozen? p = a.frozen? p := World.frozen?_of_block (h.blk hb)
theorem grown_frz {w w' : World} {row : Option Nat} {b j : Nat} (hg : w.grownBy w' row) (hb : b < w.heap.size) (hne : some b ≠ row) : w'.frozen? ⟨b, j, none⟩ = w.frozen? ⟨b, j, none⟩ := World.frozen?_of_block (hg.block b hb hne)
theorem row_cell {w : World} {g : Nat} {cs : Array Value} {t : TypeId} {fr : Nat × Nat} (hg : w.heap[g]? = some (.cells cs t fr)) (j : Nat) : w.cell? ⟨g, j, none⟩ = cs[j]? := cell_of_row w g j cs t fr hg
theorem Fr.setCell {N : Nat → Prop} {w0 w : World} (h : Fr N w0 w) (hs : w0.heap.size ≤ w.heap.size) {a : Addr} (ha : N a.block) (v : Value) : Fr N w0 (w.setCell a v) := h.trans hs ((Fr.set w a v).mono (fun k hk => by rw [hk]; exact ha))
theorem Fr.keep {N : Nat → Prop} {w0 w w' : World} (h : Fr N w0 w) (hs : w0.heap.size ≤ w.heap.size) (hk : Kp w w') : Fr N w0 w' := h.trans hs (hk.fr.mono (fun _ h => h.elim))
theorem Fr.refl (N : Nat → Prop) (w : World) : Fr N w w := fun _ _ _ => rfl
theorem From_le {a b : Nat} (h : a ≤ b) : (From a).le (From b) := ⟨fun h => h, fun x hx => Nat.le_trans h hx⟩
theorem heap_at {w : World} {o : Obj} {n : Nat} (h : n = w.heap.size) : (w.alloc o).heap[n]? = some o := by subst h; exact heap_alloc_new w o
set_option maxHeartbeats 3200000 in
set_option maxRecDepth 100000 in
theorem fill0b (r : Nat) (T : Ty) (h : Hd) (K : Nat → Hd) (w : World) (t : Top w A0 T h K) (hh : ∀ i X, T.kids[i]? = some X → Lies w A0 r X (K i)) (h0 : 0 < h.fl)
    (cf : ∀ (T : Ty) (h : Hd) (w : World), Lies w A0 r T h → Calls Try.prog 18 #[h.val, .slice none 0 0, .slice none 0 0] w (FillP r T w)) :
    Calls Try.prog 18 #[h.val, .slice none 0 0, .slice none 0 0] w (FillP (r + 1) T w) := by
  obtain ⟨i0, hi, hz0, hz1, hz2⟩ := info_parts infoT
  obtain ⟨i1, hj, hy0, hy1, hy2⟩ := info_parts infoF
  obtain ⟨b, o, ha, hr⟩ := t.tf.at h0
  have hes := t.es
  have hbf := t.bf
  have HT := Lib.hid t
  have HH := Lib.hid hh
  have CF := Lib.hid cf
  clear t hh cf
  obtain ⟨k, nm, con, fa, fl, fc, la, ll, lc, ra, rl, rc⟩ := h
  simp only at h0 ha hr hes hbf
  subst ha
  have HR := Lib.hid hr
  have HE := Lib.hid hes
  have hkl : fl + ll + rl ≤ T.kids.length := by omega
  have hbw : b < w.heap.size := lt_of_cell (rangeAt_head (hr 0 h0))
  clear hr hes
  go_enter Try.func18, Try.ntmps18
  go_wp2_with fail
  refine wp_loop_rounds 1 ?_
  rw [rounds_succ]
  go_wp2_with fail
  go_loopw [9] (fun i wr => ∃ n v K', n ≤ fl ∧ i = .int .i64 (n : Nat) ∧ wr.heap[w.heap.size + 1 + 1]? = some (.cells #[.int .i64 k, .string nm, .int .i64 con, v, .slice none 0 0, .slice none 0 0] 42 (0, 0)) ∧ KidsIn wr (w.heap.size + 1 + 1 + 1) 52 7 r T.kids n v (fun i => [.string (T.fn.getD i ByteArray.empty)]) K' ∧
      Kp ((w.alloc (.cells #[.int .i64 k, .string nm, .int .i64 con, .slice (some ⟨b, o, none⟩) fl fc, .slice la ll lc, .slice ra rl rc] 42)).alloc (.cells #[.int .i64 0, .string ⟨#[]⟩, .int .i64 0, .slice none 0 0, .slice none 0 0, .slice none 0 0] 42)) wr ∧ w.heap.size + 1 + 1 < wr.heap.size) (fun i _ => fl - (intOf i).toNat)
  case atStart => exact ⟨0, _, K, by omega, rfl, heap_at (by simp), kidsIn_nil _ _ _ _ _ _ _ _, (Kp.refl _).alloc _, by simp⟩
  case round =>
    obtain ⟨n, v, K', hn, rfl, hbk, hI, hkr, hws⟩ := hrel
    have g3 : wr.cell? ⟨w.heap.size + 1 + 1, 3, none⟩ = some v := by rw [cell_of_row _ _ _ _ _ _ hbk]; rfl
    have gf : ∀ j, wr.frozen? ⟨w.heap.size + 1 + 1, j, none⟩ = false := fun j => frozen_of_row _ _ _ _ _ hbk
    obtain ⟨p0, p1, p2, p3, p4, p5, ps⟩ := boxed (h := ⟨k, nm, con, some ⟨b, o, none⟩, fl, fc, la, ll, lc, ra, rl, rc⟩) (Kp.trans ((Kp.refl _).alloc _) hkr)
    simp only at p0 p1 p2 p3 p4 p5
    have HBK := Lib.hid hbk
    have HI := Lib.hid hI
    have HKR := Lib.hid hkr
    have HKW := Lib.hid (((Kp.refl w).alloc _).alloc _ |>.trans hkr)
    clear hbk hI hkr
    by_cases hlt : n < fl
    · obtain ⟨X, hX⟩ : ∃ X, T.kids[n]? = some X := ⟨_, List.getElem?_eq_getElem (by omega)⟩
      have HX := Lib.hid hX
      clear hX
      have hrn := HKW.out.range (HR.out n hlt)
      have c0 : wr.cell? ⟨b, o + n * 7, none⟩ = some (.string (T.fn.getD n ByteArray.empty)) := rangeAt_head hrn
      have hrt := rangeAt_tail hrn
      have c1 : wr.cell? ⟨b, o + n * 7 + 1, none⟩ = some (.int .i64 (K n).k) := hrt 0 _ rfl
      have c2 : wr.cell? ⟨b, o + n * 7 + 1 + 1, none⟩ = some (.string (K n).nm) := hrt 1 _ rfl
      have c3 : wr.cell? ⟨b, o + n * 7 + 1 + 2, none⟩ = some (.int .i64 (K n).con) := hrt 2 _ rfl
      have c4 : wr.cell? ⟨b, o + n * 7 + 1 + 3, none⟩ = some (.slice (K n).fa (K n).fl (K n).fc) := hrt 3 _ rfl
      have c5 : wr.cell? ⟨b, o + n * 7 + 1 + 4, none⟩ = some (.slice (K n).la (K n).ll (K n).lc) := hrt 4 _ rfl
      have c6 : wr.cell? ⟨b, o + n * 7 + 1 + 5, none⟩ = some (.slice (K n).ra (K n).rl (K n).rc) := hrt 5 _ rfl
      clear hrn hrt
      generalize hsn : T.fn.getD n ByteArray.empty = sn at c0
      have HSN := Lib.hid hsn
      clear hsn
      have jj1 : (0 : Int) ≤ n := by omega
      have jj2 : (n : Int) < fl := by omega
      have hno : ∀ q, q < w.heap.size + 1 + 1 + 1 → some q ≠ v.ownBlock := fun q hq e => by have := (HI.out.1.lt q e.symm).1; omega
      have HNO := Lib.hid hno
      clear hno
      have CSH : Hid (∀ w' : World, (∀ (p : Addr) (v : Value), p.block < w.heap.size + 1 → wr.cell? p = some v → w'.cell? p = some v) → w'.cell? ⟨w.heap.size, 3, none⟩ = some (.slice (some ⟨b, o, none⟩) fl fc) ∧ w'.cell? ⟨b, o + n * 7, none⟩ = some (.string sn) ∧ w'.cell? ⟨b, o + n * 7 + 1, none⟩ = some (.int .i64 (K n).k) ∧ w'.cell? ⟨b, o + n * 7 + 1 + 1, none⟩ = some (.string (K n).nm) ∧ w'.cell? ⟨b, o + n * 7 + 1 + 2, none⟩ = some (.int .i64 (K n).con) ∧ w'.cell? ⟨b, o + n * 7 + 1 + 3, none⟩ = some (.slice (K n).fa (K n).fl (K n).fc) ∧ w'.cell? ⟨b, o + n * 7 + 1 + 4, none⟩ = some (.slice (K n).la (K n).ll (K n).lc) ∧ w'.cell? ⟨b, o + n * 7 + 1 + 5, none⟩ = some (.slice (K n).ra (K n).rl (K n).rc)) :=
        Lib.hid (fun w' f => ⟨f _ _ (by simp) p3, f _ _ (by simp; omega) c0, f _ _ (by simp; omega) c1, f _ _ (by simp; omega) c2, f _ _ (by simp; omega) c3, f _ _ (by simp; omega) c4, f _ _ (by simp; omega) c5, f _ _ (by simp; omega) c6⟩)
      go_wp2_with fail
      refine wp_region_held_drew (S := (fun w' => w'.cell? ⟨w.heap.size, 3, none⟩ = some (.slice (some ⟨b, o, none⟩) fl fc) ∧ w'.cell? ⟨b, o + n * 7, none⟩ = some (.string sn) ∧ w'.cell? ⟨b, o + n * 7 + 1, none⟩ = some (.int .i64 (K n).k) ∧ w'.cell? ⟨b, o + n * 7 + 1 + 1, none⟩ = some (.string (K n).nm) ∧ w'.cell? ⟨b, o + n * 7 + 1 + 2, none⟩ = some (.int .i64 (K n).con) ∧ w'.cell? ⟨b, o + n * 7 + 1 + 3, none⟩ = some (.slice (K n).fa (K n).fl (K n).fc) ∧ w'.cell? ⟨b, o + n * 7 + 1 + 4, none⟩ = some (.slice (K n).la (K n).ll (K n).lc) ∧ w'.cell? ⟨b, o + n * 7 + 1 + 5, none⟩ = some (.slice (K n).ra (K n).rl (K n).rc))) (by kernel_rfl) (CSH.out _ (fun p v hp hc => hc)) (fun hHeld0 => ?_)
      refine wpAnyH_take (i := 0) (oi := { dst := some 47, op := Op.fieldAddr 42 (Operand.tmp 8) 3, type := 0, pos := "ref.go:228", after := #[], guard := none }) (v := ?_) rfl (by kernel_rfl) (by kernel_rfl) (by kernel_rfl) (fun _ _ _ h => h) (Or.inl ⟨by rfl, ?_⟩) (by assumption) ?_
      rotate_left
      · (intro wz hSw; (try dsimp only at hSw); go_simp; first | done | with_reducible rfl)
      try simp only [Act.put, List.setIfInBounds_toArray, List.set_cons_zero, List.set_cons_succ]
      refine wpAnyH_take (i := 2) (oi := { dst := some 49, op := Op.fieldAddr 42 (Operand.tmp 3) 3, type := 0, pos := "ref.go:228", after := #[], guard := none }) (v := ?_) rfl (by kernel_rfl) (by kernel_rfl) (by kernel_rfl) (fun _ _ _ h => h) (Or.inl ⟨by rfl, ?_⟩) (by assumption) ?_
      rotate_left
      · (intro wz hSw; (try dsimp only at hSw); go_simp; first | done | with_reducible rfl)
      try simp only [Act.put, List.setIfInBounds_toArray, List.set_cons_zero, List.set_cons_succ]
      refine wpAnyH_take (i := 3) (oi := { dst := some 50, op := Op.load 40 (Operand.tmp 49), type := 40, pos := "ref.go:228", after := #[{ on := 2, ground := Ground.data }], guard := none }) (v := ?_) rfl (by kernel_rfl) (by kernel_rfl) (by kernel_rfl) (fun _ _ _ h => h) (Or.inl ⟨by rfl, ?_⟩) (by assumption) ?_
      rotate_left
      · (intro wz hSw; (try dsimp only at hSw); go_simp; first | done | with_reducible rfl)
      try simp only [Act.put, List.setIfInBounds_toArray, List.set_cons_zero, List.set_cons_succ]
      refine wpAnyH_take (i := 4) (oi := { dst := some 51, op := Op.move (Operand.tmp 9), type := 3, pos := "ref.go:228", after := #[], guard := none }) (v := ?_) rfl (by kernel_rfl) (by kernel_rfl) (by kernel_rfl) (fun _ _ _ h => h) (Or.inl ⟨by rfl, ?_⟩) (by assumption) ?_
      rotate_left
      · (intro wz hSw; (try dsimp only at hSw); go_simp; first | done | with_reducible rfl)
      try simp only [Act.put, List.setIfInBounds_toArray, List.set_cons_zero, List.set_cons_succ]
      refine wpAnyH_take (i := 5) (oi := { dst := some 52, op := Op.indexAddr 40 (Operand.tmp 50) (Operand.tmp 51), type := 0, pos := "ref.go:228", after := #[{ on := 3, ground := Ground.data }, { on := 4, ground := Ground.data }], guard := none }) (v := ?_) rfl (by kernel_rfl) (by kernel_rfl) (by kernel_rfl) (fun _ _ _ h => h) (Or.inl ⟨by rfl, ?_⟩) (by assumption) ?_
      rotate_left
      · (intro wz hSw; (try dsimp only at hSw); go_simp; first | done | with_reducible rfl)
      try simp only [Act.put, List.setIfInBounds_toArray, List.set_cons_zero, List.set_cons_succ]
      refine wpAnyH_take (i := 6) (oi := { dst := some 53, op := Op.fieldAddr 52 (Operand.tmp 52) 0, type := 0, pos := "ref.go:228", after := #[{ on := 5, ground := Ground.data }], guard := none }) (v := ?_) rfl (by kernel_rfl) (by kernel_rfl) (by kernel_rfl) (fun _ _ _ h => h) (Or.inl ⟨by rfl, ?_⟩) (by assumption) ?_
      rotate_left
      · (intro wz hSw; (try dsimp only at hSw); go_simp; first | done | with_reducible rfl)
      try simp only [Act.put, List.setIfInBounds_toArray, List.set_cons_zero, List.set_cons_succ]
      refine wpAnyH_take (i := 7) (oi := { dst := some 54, op := Op.load 9 (Operand.tmp 53), type := 9, pos := "ref.go:228", after := #[{ on := 6, ground := Ground.data }], guard := none }) (v := ?_) rfl (by kernel_rfl) (by kernel_rfl) (by kernel_rfl) (fun _ _ _ h => h) (Or.inl ⟨by rfl, ?_⟩) (by assumption) ?_
      rotate_left
      · (intro wz hSw; (try dsimp only at hSw); go_simp; first | done | with_reducible rfl)
      try simp only [Act.put, List.setIfInBounds_toArray, List.set_cons_zero, List.set_cons_succ]
      refine wpAnyH_take (i := 8) (oi := { dst := some 55, op := Op.fieldAddr 42 (Operand.tmp 3) 3, type := 0, pos := "ref.go:228", after := #[], guard := none }) (v := ?_) rfl (by kernel_rfl) (by kernel_rfl) (by kernel_rfl) (fun _ _ _ h => h) (Or.inl ⟨by rfl, ?_⟩) (by assumption) ?_
      rotate_left
      · (intro wz hSw; (try dsimp only at hSw); go_simp; first | done | with_reducible rfl)
      try simp only [Act.put, List.setIfInBounds_toArray, List.set_cons_zero, List.set_cons_succ]
      refine wpAnyH_take (i := 9) (oi := { dst := some 56, op := Op.load 40 (Operand.tmp 55), type := 40, pos := "ref.go:228", after := #[{ on := 8, ground := Ground.data }], guard := none }) (v := ?_) rfl (by kernel_rfl) (by kernel_rfl) (by kernel_rfl) (fun _ _ _ h => h) (Or.inl ⟨by rfl, ?_⟩) (by assumption) ?_
      rotate_left
      · (intro wz hSw; (try dsimp only at hSw); go_simp; first | done | with_reducible rfl)
      try simp only [Act.put, List.setIfInBounds_toArray, List.set_cons_zero, List.set_cons_succ]
      refine wpAnyH_take (i := 10) (oi := { dst := some 57, op := Op.move (Operand.tmp 9), type := 3, pos := "ref.go:228", after := #[], guard := none }) (v := ?_) rfl (by kernel_rfl) (by kernel_rfl) (by kernel_rfl) (fun _ _ _ h => h) (Or.inl ⟨by rfl, ?_⟩) (by assumption) ?_
      rotate_left
      · (intro wz hSw; (try dsimp only at hSw); go_simp; first | done | with_reducible rfl)
      try simp only [Act.put, List.setIfInBounds_toArray, List.set_cons_zero, List.set_cons_succ]
      refine wpAnyH_take (i := 11) (oi := { dst := some 58, op := Op.indexAddr 40 (Operand.tmp 56) (Operand.tmp 57), type := 0, pos := "ref.go:228", after := #[{ on := 9, ground := Ground.data }, { on := 10, ground := Ground.data }], guard := none }) (v := ?_) rfl (by kernel_rfl) (by kernel_rfl) (by kernel_rfl) (fun _ _ _ h => h) (Or.inl ⟨by rfl, ?_⟩) (by assumption) ?_
      rotate_left
      · (intro wz hSw; (try dsimp only at hSw); go_simp; first | done | with_reducible rfl)
      try simp only [Act.put, List.setIfInBounds_toArray, List.set_cons_zero, List.set_cons_succ]
      refine wpAnyH_take (i := 12) (oi := { dst := some 59, op := Op.fieldAddr 52 (Operand.tmp 58) 1, type := 0, pos := "ref.go:228", after := #[{ on := 11, ground := Ground.data }], guard := none }) (v := ?_) rfl (by kernel_rfl) (by kernel_rfl) (by kernel_rfl) (fun _ _ _ h => h) (Or.inl ⟨by rfl, ?_⟩) (by assumption) ?_
      rotate_left
      · (intro wz hSw; (try dsimp only at hSw); go_simp; first | done | with_reducible rfl)
      try simp only [Act.put, List.setIfInBounds_toArray, List.set_cons_zero, List.set_cons_succ]
      refine wpAnyH_take (i := 13) (oi := { dst := some 60, op := Op.load 42 (Operand.tmp 59), type := 42, pos := "ref.go:228", after := #[{ on := 12, ground := Ground.data }], guard := none }) (v := ?_) rfl (by kernel_rfl) (by kernel_rfl) (by kernel_rfl) (fun _ _ _ h => h) (Or.inl ⟨by rfl, ?_⟩) (by assumption) ?_
      rotate_left
      · (intro wz hSw; (try dsimp only at hSw); go_simp; first | done | with_reducible rfl)
      try simp only [Act.put, List.setIfInBounds_toArray, List.set_cons_zero, List.set_cons_succ]
      refine wpAnyH_take (i := 14) (oi := { dst := some 61, op := Op.move (Operand.tmp 1), type := 22, pos := "ref.go:228", after := #[], guard := none }) (v := ?_) rfl (by kernel_rfl) (by kernel_rfl) (by kernel_rfl) (fun _ _ _ h => h) (Or.inl ⟨by rfl, ?_⟩) (by assumption) ?_
      rotate_left
      · (intro wz hSw; (try dsimp only at hSw); go_simp; first | done | with_reducible rfl)
      try simp only [Act.put, List.setIfInBounds_toArray, List.set_cons_zero, List.set_cons_succ]
      refine wpAnyH_take (i := 15) (oi := { dst := some 62, op := Op.move (Operand.tmp 2), type := 23, pos := "ref.go:228", after := #[], guard := none }) (v := ?_) rfl (by kernel_rfl) (by kernel_rfl) (by kernel_rfl) (fun _ _ _ h => h) (Or.inl ⟨by rfl, ?_⟩) (by assumption) ?_
      rotate_left
      · (intro wz hSw; (try dsimp only at hSw); go_simp; first | done | with_reducible rfl)
      try simp only [Act.put, List.setIfInBounds_toArray, List.set_cons_zero, List.set_cons_succ]
      refine wpAnyH_ready (rs := [1, 16]) (by kernel_rfl) (by simp) ?_
      refine AllReadyH.cons (o := { dst := some 48, op := Op.load 40 (Operand.tmp 47), type := 40, pos := "ref.go:228", after := #[{ on := 0, ground := Ground.data }], guard := none }) rfl (fun Kw hKw => ?_) ?_
      · go_simp
        refine hKw.out _ _ (CSH.out _ (fun p v hp hc => hc)) (fun hHeld1 => ?_)
        clear hKw Kw hHeld0
        try simp only [Act.put, List.setIfInBounds_toArray, List.set_cons_zero, List.set_cons_succ]
        refine wpAnyH_ready (rs := [16]) (by kernel_rfl) (by simp) ?_
        refine AllReadyH.cons (o := { dst := some 63, op := Op.call { callee := Callee.value (Operand.func 18), args := #[Operand.tmp 60, Operand.tmp 61, Operand.tmp 62], argTypes := #[42, 22, 23] }, type := 42, pos := "ref.go:228", after := #[{ on := 13, ground := Ground.data }, { on := 14, ground := Ground.data }, { on := 15, ground := Ground.data }], guard := none }) rfl (fun Kw hKw => ?_) AllReadyH.nil
        go_simp
        go_at_call 18
        refine (CF.out X (K n) _ ((HH.out n X HX.out).keep HKW.out.drew)).mono ?_
        rintro e w1 ⟨h', rfl, hli, hk1⟩
        have KQ1 := Lib.hid (((Kp.refl wr).drew).trans hk1)
        have q3 := KQ1.out.cellv g3
        have q4 : w.heap.size + 1 + 1 < w1.heap.size := (by have := KQ1.out.sz; omega)
        go_wp2_with fail
        refine hKw.out _ _ (CSH.out _ (fun p v hp hc => KQ1.out.cellv hc)) (fun hHeld2 => ?_)
        clear hKw Kw hHeld1
        try simp only [Act.put, List.setIfInBounds_toArray, List.set_cons_zero, List.set_cons_succ]
        refine wpAnyH_take (i := 17) (oi := { dst := some 64, op := Op.build 52 #[(0, Operand.tmp 54), (1, Operand.tmp 63)], type := 52, pos := "ref.go:228", after := #[{ on := 7, ground := Ground.data }, { on := 16, ground := Ground.data }], guard := none }) (v := ?_) rfl (by kernel_rfl) (by kernel_rfl) (by kernel_rfl) (fun _ _ _ h => h) (Or.inl ⟨by rfl, ?_⟩) (by assumption) ?_
        rotate_left
        · (intro wz hSw; (try dsimp only at hSw); go_simp; first | done | with_reducible rfl)
        try simp only [Act.put, List.setIfInBounds_toArray, List.set_cons_zero, List.set_cons_succ]
        refine wpAnyH_ready (rs := [18]) (by kernel_rfl) (by simp) ?_
        refine AllReadyH.cons (o := { dst := some 65, op := Op.buildSlice 40 1 #[(0, Operand.tmp 64)], type := 40, pos := "ref.go:228", after := #[{ on := 17, ground := Ground.data }], guard := none }) rfl (fun Kw hKw => ?_) AllReadyH.nil
        go_simp
        refine hKw.out _ _ (CSH.out _ (fun p v hp hc => (KQ1.out.alloc _).cellv hc)) (fun hHeld3 => ?_)
        clear hKw Kw hHeld2
        try simp only [Act.put, List.setIfInBounds_toArray, List.set_cons_zero, List.set_cons_succ]
        refine wpAnyH_ready (rs := [19]) (by kernel_rfl) (by simp) ?_
        refine AllReadyH.cons (o := { dst := some 66, op := Op.call { callee := Callee.builtin Builtin.append, args := #[Operand.tmp 48, Operand.tmp 65], argTypes := #[40, 40] }, type := 40, pos := "ref.go:228", after := #[{ on := 1, ground := Ground.data }, { on := 18, ground := Ground.data }, { on := 16, ground := Ground.chain }], guard := none }) rfl (fun Kw hKw => ?_) AllReadyH.nil
        refine step_append_lies _ (by rfl) _ _ _ (by rfl) (w.heap.size + 1 + 1 + 1) 52 i1 _ 7 120 Try.underlying40 hj hy0 hy1 hy2 rfl (by omega) v n _ (by rfl) ((HI.out.keep (KQ1.out.alloc _)).1) ⟨w1.heap.size, 0, none⟩ 1 1 (.string sn :: h'.cells) (by rfl) (by rfl) (World.news_of_block (cs := (.string sn :: h'.cells).toArray) (t := 52) (fr := (0, 0)) (heap_alloc_new w1 _)) (by intro u hu; simp at hu; rcases hu with rfl | rfl | rfl | rfl | rfl | rfl | rfl <;> rfl) (by omega) (by unfold maxLen; omega) (by omega) (by have := hk1.sz; simp at this ⊢; omega) (w1.heap.size + 1) (by simp) ?_
        intro gg cap w3 hown3 hgrow hat hlt3
        have KQ := Lib.hid (KQ1.out.alloc (.cells (.string sn :: h'.cells).toArray 52))
        have k3 := hgrow.cell (KQ.out.cellv g3) (HNO.out _ (by simp))
        have kf := (grown_frz (b := w.heap.size + 1 + 1) (j := 3) hgrow (by have := KQ.out.sz; simp at this ⊢; omega) (HNO.out _ (by omega))).trans ((KQ.out.frz (p := ⟨w.heap.size + 1 + 1, 3, none⟩) hws).trans (gf 3))
        refine hKw.out _ _ (CSH.out _ (fun p v hp hc => hgrow.cell (KQ.out.cellv hc) (HNO.out _ (by omega)))) (fun hHeld4 => ?_)
        clear hKw Kw hHeld3
        try simp only [Act.put, List.setIfInBounds_toArray, List.set_cons_zero, List.set_cons_succ]
        refine wpAnyH_take (i := 20) (oi := { dst := some 67, op := Op.fieldAddr 42 (Operand.tmp 8) 3, type := 0, pos := "ref.go:228", after := #[{ on := 0, ground := Ground.phase }, { on := 1, ground := Ground.phase }, { on := 2, ground := Ground.phase }, { on := 3, ground := Ground.phase }, { on := 4, ground := Ground.phase }, { on := 5, ground := Ground.phase }, { on := 6, ground := Ground.phase }, { on := 7, ground := Ground.phase }, { on := 8, ground := Ground.phase }, { on := 9, ground := Ground.phase }, { on := 10, ground := Ground.phase }, { on := 11, ground := Ground.phase }, { on := 12, ground := Ground.phase }, { on := 13, ground := Ground.phase }, { on := 14, ground := Ground.phase }, { on := 15, ground := Ground.phase }, { on := 16, ground := Ground.phase }, { on := 17, ground := Ground.phase }, { on := 18, ground := Ground.phase }, { on := 19, ground := Ground.phase }], guard := none }) (v := ?_) rfl (by kernel_rfl) (by kernel_rfl) (by kernel_rfl) (fun _ _ _ h => h) (Or.inl ⟨by rfl, ?_⟩) (by assumption) ?_
        rotate_left
        · (intro wz hSw; (try dsimp only at hSw); go_simp; first | done | with_reducible rfl)
        try simp only [Act.put, List.setIfInBounds_toArray, List.set_cons_zero, List.set_cons_succ]
        refine wpAnyH_ready (rs := [21]) (by kernel_rfl) (by simp) ?_
        refine AllReadyH.cons (o := { dst := none, op := Op.store 40 (Operand.tmp 67) (Operand.tmp 66), type := 0, pos := "ref.go:228", after := #[{ on := 20, ground := Ground.data }, { on := 19, ground := Ground.data }, { on := 19, ground := Ground.chain }, { on := 0, ground := Ground.phase }, { on := 1, ground := Ground.phase }, { on := 2, ground := Ground.phase }, { on := 3, ground := Ground.phase }, { on := 4, ground := Ground.phase }, { on := 5, ground := Ground.phase }, { on := 6, ground := Ground.phase }, { on := 7, ground := Ground.phase }, { on := 8, ground := Ground.phase }, { on := 9, ground := Ground.phase }, { on := 10, ground := Ground.phase }, { on := 11, ground := Ground.phase }, { on := 12, ground := Ground.phase }, { on := 13, ground := Ground.phase }, { on := 14, ground := Ground.phase }, { on := 15, ground := Ground.phase }, { on := 16, ground := Ground.phase }, { on := 17, ground := Ground.phase }, { on := 18, ground := Ground.phase }, { on := 19, ground := Ground.phase }], guard := none }) rfl (fun Kw hKw => ?_) AllReadyH.nil
        go_simp
        refine hKw.out _ _ (CSH.out _ (fun p v hp hc => (World.cell?_setCell_other _ _ _ _ (by intro e; rw [← e] at hp; simp at hp; omega)).trans (hgrow.cell (KQ.out.cellv hc) (HNO.out _ (by omega))))) (fun hHeld5 => ?_)
        clear hKw Kw hHeld4
        try simp only [Act.put, List.setIfInBounds_toArray, List.set_cons_zero, List.set_cons_succ]
        refine wpAnyH_done (by kernel_rfl) ?_ _
        go_wp2_with fail
        go_roundw
        case rel => exact ⟨n + 1, _, put K' n h', by omega, by go_num, heap_setCell_same w3 _ 3 _ _ _ ((hgrow.block _ (by have := KQ.out.sz; simp at this ⊢; omega) (HNO.out _ (by omega))).trans ((KQ.out.blk hws).trans HBK.out)), KidsIn.turn (KidsIn.next (w := wr.drew) (show w.heap.size + 1 + 1 + 1 ≤ wr.heap.size from hws) (HI.out.keep ((Kp.refl wr).drew)) HX.out hk1 hli ((Kp.refl w1).alloc _) (by have e := hown3; rw [← HSN.out] at e; exact e) hgrow (hat.imp (fun e => e.symm) (fun e => by rw [e]; simp [Value.ownBlock]))) (Fr.set _ _ _) (by simp) (fun b hb => by rw [hb]; simp), (((HKR.out.drew.trans hk1).alloc _).grown hgrow (fun k hk => by have := (HI.out.1.lt k hk).1; simp; omega)).setCell (by simp) _, by have := hgrow.size; have := hk1.sz; simp at *; omega⟩
        case measure => simp [intOf]; omega
      refine AllReadyH.cons (o := { dst := some 63, op := Op.call { callee := Callee.value (Operand.func 18), args := #[Operand.tmp 60, Operand.tmp 61, Operand.tmp 62], argTypes := #[42, 22, 23] }, type := 42, pos := "ref.go:228", after := #[{ on := 13, ground := Ground.data }, { on := 14, ground := Ground.data }, { on := 15, ground := Ground.data }], guard := none }) rfl (fun Kw hKw => ?_) AllReadyH.nil
      go_simp
      go_at_call 18
      refine (CF.out X (K n) _ ((HH.out n X HX.out).keep HKW.out.drew)).mono ?_
      rintro e w1 ⟨h', rfl, hli, hk1⟩
      have KQ1 := Lib.hid (((Kp.refl wr).drew).trans hk1)
      have q3 := KQ1.out.cellv g3
      have q4 : w.heap.size + 1 + 1 < w1.heap.size := (by have := KQ1.out.sz; omega)
      go_wp2_with fail
      refine hKw.out _ _ (CSH.out _ (fun p v hp hc => KQ1.out.cellv hc)) (fun hHeld6 => ?_)
      clear hKw Kw hHeld0
      try simp only [Act.put, List.setIfInBounds_toArray, List.set_cons_zero, List.set_cons_succ]
      refine wpAnyH_take (i := 17) (oi := { dst := some 64, op := Op.build 52 #[(0, Operand.tmp 54), (1, Operand.tmp 63)], type := 52, pos := "ref.go:228", after := #[{ on := 7, ground := Ground.data }, { on := 16, ground := Ground.data }], guard := none }) (v := ?_) rfl (by kernel_rfl) (by kernel_rfl) (by kernel_rfl) (fun _ _ _ h => h) (Or.inl ⟨by rfl, ?_⟩) (by assumption) ?_
      rotate_left
      · (intro wz hSw; (try dsimp only at hSw); go_simp; first | done | with_reducible rfl)
      try simp only [Act.put, List.setIfInBounds_toArray, List.set_cons_zero, List.set_cons_succ]
      refine wpAnyH_ready (rs := [1, 18]) (by kernel_rfl) (by simp) ?_
      refine AllReadyH.cons (o := { dst := some 48, op := Op.load 40 (Operand.tmp 47), type := 40, pos := "ref.go:228", after := #[{ on := 0, ground := Ground.data }], guard := none }) rfl (fun Kw hKw => ?_) ?_
      · go_simp
        refine hKw.out _ _ (CSH.out _ (fun p v hp hc => KQ1.out.cellv hc)) (fun hHeld7 => ?_)
        clear hKw Kw hHeld6
        try simp only [Act.put, List.setIfInBounds_toArray, List.set_cons_zero, List.set_cons_succ]
        refine wpAnyH_ready (rs := [18]) (by kernel_rfl) (by simp) ?_
        refine AllReadyH.cons (o := { dst := some 65, op := Op.buildSlice 40 1 #[(0, Operand.tmp 64)], type := 40, pos := "ref.go:228", after := #[{ on := 17, ground := Ground.data }], guard := none }) rfl (fun Kw hKw => ?_) AllReadyH.nil
        go_simp
        refine hKw.out _ _ (CSH.out _ (fun p v hp hc => (KQ1.out.alloc _).cellv hc)) (fun hHeld8 => ?_)
        clear hKw Kw hHeld7
        try simp only [Act.put, List.setIfInBounds_toArray, List.set_cons_zero, List.set_cons_succ]
        refine wpAnyH_ready (rs := [19]) (by kernel_rfl) (by simp) ?_
        refine AllReadyH.cons (o := { dst := some 66, op := Op.call { callee := Callee.builtin Builtin.append, args := #[Operand.tmp 48, Operand.tmp 65], argTypes := #[40, 40] }, type := 40, pos := "ref.go:228", after := #[{ on := 1, ground := Ground.data }, { on := 18, ground := Ground.data }, { on := 16, ground := Ground.chain }], guard := none }) rfl (fun Kw hKw => ?_) AllReadyH.nil
        refine step_append_lies _ (by rfl) _ _ _ (by rfl) (w.heap.size + 1 + 1 + 1) 52 i1 _ 7 120 Try.underlying40 hj hy0 hy1 hy2 rfl (by omega) v n _ (by rfl) ((HI.out.keep (KQ1.out.alloc _)).1) ⟨w1.heap.size, 0, none⟩ 1 1 (.string sn :: h'.cells) (by rfl) (by rfl) (World.news_of_block (cs := (.string sn :: h'.cells).toArray) (t := 52) (fr := (0, 0)) (heap_alloc_new w1 _)) (by intro u hu; simp at hu; rcases hu with rfl | rfl | rfl | rfl | rfl | rfl | rfl <;> rfl) (by omega) (by unfold maxLen; omega) (by omega) (by have := hk1.sz; simp at this ⊢; omega) (w1.heap.size + 1) (by simp) ?_
        intro gg cap w3 hown3 hgrow hat hlt3
        have KQ := Lib.hid (KQ1.out.alloc (.cells (.string sn :: h'.cells).toArray 52))
        have k3 := hgrow.cell (KQ.out.cellv g3) (HNO.out _ (by simp))
        have kf := (grown_frz (b := w.heap.size + 1 + 1) (j := 3) hgrow (by have := KQ.out.sz; simp at this ⊢; omega) (HNO.out _ (by omega))).trans ((KQ.out.frz (p := ⟨w.heap.size + 1 + 1, 3, none⟩) hws).trans (gf 3))
        refine hKw.out _ _ (CSH.out _ (fun p v hp hc => hgrow.cell (KQ.out.cellv hc) (HNO.out _ (by omega)))) (fun hHeld9 => ?_)
        clear hKw Kw hHeld8
        try simp only [Act.put, List.setIfInBounds_toArray, List.set_cons_zero, List.set_cons_succ]
        refine wpAnyH_take (i := 20) (oi := { dst := some 67, op := Op.fieldAddr 42 (Operand.tmp 8) 3, type := 0, pos := "ref.go:228", after := #[{ on := 0, ground := Ground.phase }, { on := 1, ground := Ground.phase }, { on := 2, ground := Ground.phase }, { on := 3, ground := Ground.phase }, { on := 4, ground := Ground.phase }, { on := 5, ground := Ground.phase }, { on := 6, ground := Ground.phase }, { on := 7, ground := Ground.phase }, { on := 8, ground := Ground.phase }, { on := 9, ground := Ground.phase }, { on := 10, ground := Ground.phase }, { on := 11, ground := Ground.phase }, { on := 12, ground := Ground.phase }, { on := 13, ground := Ground.phase }, { on := 14, ground := Ground.phase }, { on := 15, ground := Ground.phase }, { on := 16, ground := Ground.phase }, { on := 17, ground := Ground.phase }, { on := 18, ground := Ground.phase }, { on := 19, ground := Ground.phase }], guard := none }) (v := ?_) rfl (by kernel_rfl) (by kernel_rfl) (by kernel_rfl) (fun _ _ _ h => h) (Or.inl ⟨by rfl, ?_⟩) (by assumption) ?_
        rotate_left
        · (intro wz hSw; (try dsimp only at hSw); go_simp; first | done | with_reducible rfl)
        try simp only [Act.put, List.setIfInBounds_toArray, List.set_cons_zero, List.set_cons_succ]
        refine wpAnyH_ready (rs := [21]) (by kernel_rfl) (by simp) ?_
        refine AllReadyH.cons (o := { dst := none, op := Op.store 40 (Operand.tmp 67) (Operand.tmp 66), type := 0, pos := "ref.go:228", after := #[{ on := 20, ground := Ground.data }, { on := 19, ground := Ground.data }, { on := 19, ground := Ground.chain }, { on := 0, ground := Ground.phase }, { on := 1, ground := Ground.phase }, { on := 2, ground := Ground.phase }, { on := 3, ground := Ground.phase }, { on := 4, ground := Ground.phase }, { on := 5, ground := Ground.phase }, { on := 6, ground := Ground.phase }, { on := 7, ground := Ground.phase }, { on := 8, ground := Ground.phase }, { on := 9, ground := Ground.phase }, { on := 10, ground := Ground.phase }, { on := 11, ground := Ground.phase }, { on := 12, ground := Ground.phase }, { on := 13, ground := Ground.phase }, { on := 14, ground := Ground.phase }, { on := 15, ground := Ground.phase }, { on := 16, ground := Ground.phase }, { on := 17, ground := Ground.phase }, { on := 18, ground := Ground.phase }, { on := 19, ground := Ground.phase }], guard := none }) rfl (fun Kw hKw => ?_) AllReadyH.nil
        go_simp
        refine hKw.out _ _ (CSH.out _ (fun p v hp hc => (World.cell?_setCell_other _ _ _ _ (by intro e; rw [← e] at hp; simp at hp; omega)).trans (hgrow.cell (KQ.out.cellv hc) (HNO.out _ (by omega))))) (fun hHeld10 => ?_)
        clear hKw Kw hHeld9
        try simp only [Act.put, List.setIfInBounds_toArray, List.set_cons_zero, List.set_cons_succ]
        refine wpAnyH_done (by kernel_rfl) ?_ _
        go_wp2_with fail
        go_roundw
        case rel => exact ⟨n + 1, _, put K' n h', by omega, by go_num, heap_setCell_same w3 _ 3 _ _ _ ((hgrow.block _ (by have := KQ.out.sz; simp at this ⊢; omega) (HNO.out _ (by omega))).trans ((KQ.out.blk hws).trans HBK.out)), KidsIn.turn (KidsIn.next (w := wr.drew) (show w.heap.size + 1 + 1 + 1 ≤ wr.heap.size from hws) (HI.out.keep ((Kp.refl wr).drew)) HX.out hk1 hli ((Kp.refl w1).alloc _) (by have e := hown3; rw [← HSN.out] at e; exact e) hgrow (hat.imp (fun e => e.symm) (fun e => by rw [e]; simp [Value.ownBlock]))) (Fr.set _ _ _) (by simp) (fun b hb => by rw [hb]; simp), (((HKR.out.drew.trans hk1).alloc _).grown hgrow (fun k hk => by have := (HI.out.1.lt k hk).1; simp; omega)).setCell (by simp) _, by have := hgrow.size; have := hk1.sz; simp at *; omega⟩
        case measure => simp [intOf]; omega
      refine AllReadyH.cons (o := { dst := some 65, op := Op.buildSlice 40 1 #[(0, Operand.tmp 64)], type := 40, pos := "ref.go:228", after := #[{ on := 17, ground := Ground.data }], guard := none }) rfl (fun Kw hKw => ?_) AllReadyH.nil
      go_simp
      refine hKw.out _ _ (CSH.out _ (fun p v hp hc => (KQ1.out.alloc _).cellv hc)) (fun hHeld11 => ?_)
      clear hKw Kw hHeld6
      try simp only [Act.put, List.setIfInBounds_toArray, List.set_cons_zero, List.set_cons_succ]
      refine wpAnyH_ready (rs := [1]) (by kernel_rfl) (by simp) ?_
      refine AllReadyH.cons (o := { dst := some 48, op := Op.load 40 (Operand.tmp 47), type := 40, pos := "ref.go:228", after := #[{ on := 0, ground := Ground.data }], guard := none }) rfl (fun Kw hKw => ?_) AllReadyH.nil
      go_simp
      refine hKw.out _ _ (CSH.out _ (fun p v hp hc => (KQ1.out.alloc _).cellv hc)) (fun hHeld12 => ?_)
      clear hKw Kw hHeld11
      try simp only [Act.put, List.setIfInBounds_toArray, List.set_cons_zero, List.set_cons_succ]
      refine wpAnyH_ready (rs := [19]) (by kernel_rfl) (by simp) ?_
      refine AllReadyH.cons (o := { dst := some 66, op := Op.call { callee := Callee.builtin Builtin.append, args := #[Operand.tmp 48, Operand.tmp 65], argTypes := #[40, 40] }, type := 40, pos := "ref.go:228", after := #[{ on := 1, ground := Ground.data }, { on := 18, ground := Ground.data }, { on := 16, ground := Ground.chain }], guard := none }) rfl (fun Kw hKw => ?_) AllReadyH.nil
      refine step_append_lies _ (by rfl) _ _ _ (by rfl) (w.heap.size + 1 + 1 + 1) 52 i1 _ 7 120 Try.underlying40 hj hy0 hy1 hy2 rfl (by omega) v n _ (by rfl) ((HI.out.keep (KQ1.out.alloc _)).1) ⟨w1.heap.size, 0, none⟩ 1 1 (.string sn :: h'.cells) (by rfl) (by rfl) (World.news_of_block (cs := (.string sn :: h'.cells).toArray) (t := 52) (fr := (0, 0)) (heap_alloc_new w1 _)) (by intro u hu; simp at hu; rcases hu with rfl | rfl | rfl | rfl | rfl | rfl | rfl <;> rfl) (by omega) (by unfold maxLen; omega) (by omega) (by have := hk1.sz; simp at this ⊢; omega) (w1.heap.size + 1) (by simp) ?_
      intro gg cap w3 hown3 hgrow hat hlt3
      have KQ := Lib.hid (KQ1.out.alloc (.cells (.string sn :: h'.cells).toArray 52))
      have k3 := hgrow.cell (KQ.out.cellv g3) (HNO.out _ (by simp))
      have kf := (grown_frz (b := w.heap.size + 1 + 1) (j := 3) hgrow (by have := KQ.out.sz; simp at this ⊢; omega) (HNO.out _ (by omega))).trans ((KQ.out.frz (p := ⟨w.heap.size + 1 + 1, 3, none⟩) hws).trans (gf 3))
      refine hKw.out _ _ (CSH.out _ (fun p v hp hc => hgrow.cell (KQ.out.cellv hc) (HNO.out _ (by omega)))) (fun hHeld13 => ?_)
      clear hKw Kw hHeld12
      try simp only [Act.put, List.setIfInBounds_toArray, List.set_cons_zero, List.set_cons_succ]
      refine wpAnyH_take (i := 20) (oi := { dst := some 67, op := Op.fieldAddr 42 (Operand.tmp 8) 3, type := 0, pos := "ref.go:228", after := #[{ on := 0, ground := Ground.phase }, { on := 1, ground := Ground.phase }, { on := 2, ground := Ground.phase }, { on := 3, ground := Ground.phase }, { on := 4, ground := Ground.phase }, { on := 5, ground := Ground.phase }, { on := 6, ground := Ground.phase }, { on := 7, ground := Ground.phase }, { on := 8, ground := Ground.phase }, { on := 9, ground := Ground.phase }, { on := 10, ground := Ground.phase }, { on := 11, ground := Ground.phase }, { on := 12, ground := Ground.phase }, { on := 13, ground := Ground.phase }, { on := 14, ground := Ground.phase }, { on := 15, ground := Ground.phase }, { on := 16, ground := Ground.phase }, { on := 17, ground := Ground.phase }, { on := 18, ground := Ground.phase }, { on := 19, ground := Ground.phase }], guard := none }) (v := ?_) rfl (by kernel_rfl) (by kernel_rfl) (by kernel_rfl) (fun _ _ _ h => h) (Or.inl ⟨by rfl, ?_⟩) (by assumption) ?_
      rotate_left
      · (intro wz hSw; (try dsimp only at hSw); go_simp; first | done | with_reducible rfl)
      try simp only [Act.put, List.setIfInBounds_toArray, List.set_cons_zero, List.set_cons_succ]
      refine wpAnyH_ready (rs := [21]) (by kernel_rfl) (by simp) ?_
      refine AllReadyH.cons (o := { dst := none, op := Op.store 40 (Operand.tmp 67) (Operand.tmp 66), type := 0, pos := "ref.go:228", after := #[{ on := 20, ground := Ground.data }, { on := 19, ground := Ground.data }, { on := 19, ground := Ground.chain }, { on := 0, ground := Ground.phase }, { on := 1, ground := Ground.phase }, { on := 2, ground := Ground.phase }, { on := 3, ground := Ground.phase }, { on := 4, ground := Ground.phase }, { on := 5, ground := Ground.phase }, { on := 6, ground := Ground.phase }, { on := 7, ground := Ground.phase }, { on := 8, ground := Ground.phase }, { on := 9, ground := Ground.phase }, { on := 10, ground := Ground.phase }, { on := 11, ground := Ground.phase }, { on := 12, ground := Ground.phase }, { on := 13, ground := Ground.phase }, { on := 14, ground := Ground.phase }, { on := 15, ground := Ground.phase }, { on := 16, ground := Ground.phase }, { on := 17, ground := Ground.phase }, { on := 18, ground := Ground.phase }, { on := 19, ground := Ground.phase }], guard := none }) rfl (fun Kw hKw => ?_) AllReadyH.nil
      go_simp
      refine hKw.out _ _ (CSH.out _ (fun p v hp hc => (World.cell?_setCell_other _ _ _ _ (by intro e; rw [← e] at hp; simp at hp; omega)).trans (hgrow.cell (KQ.out.cellv hc) (HNO.out _ (by omega))))) (fun hHeld14 => ?_)
      clear hKw Kw hHeld13
      try simp only [Act.put, List.setIfInBounds_toArray, List.set_cons_zero, List.set_cons_succ]
      refine wpAnyH_done (by kernel_rfl) ?_ _
      go_wp2_with fail
      go_roundw
      case rel => exact ⟨n + 1, _, put K' n h', by omega, by go_num, heap_setCell_same w3 _ 3 _ _ _ ((hgrow.block _ (by have := KQ.out.sz; simp at this ⊢; omega) (HNO.out _ (by omega))).trans ((KQ.out.blk hws).trans HBK.out)), KidsIn.turn (KidsIn.next (w := wr.drew) (show w.heap.size + 1 + 1 + 1 ≤ wr.heap.size from hws) (HI.out.keep ((Kp.refl wr).drew)) HX.out hk1 hli ((Kp.refl w1).alloc _) (by have e := hown3; rw [← HSN.out] at e; exact e) hgrow (hat.imp (fun e => e.symm) (fun e => by rw [e]; simp [Value.ownBlock]))) (Fr.set _ _ _) (by simp) (fun b hb => by rw [hb]; simp), (((HKR.out.drew.trans hk1).alloc _).grown hgrow (fun k hk => by have := (HI.out.1.lt k hk).1; simp; omega)).setCell (by simp) _, by have := hgrow.size; have := hk1.sz; simp at *; omega⟩
      case measure => simp [intOf]; omega
    · obtain rfl : fl = n := by omega
      have hI0 := HI.out
      obtain ⟨fa', fc', rfl, _, htf, hob⟩ := tab_of_owns hI0.1 (fun _ => rfl)
      have HTF := Lib.hid htf
      have HKF := Lib.hid hI0.2
      clear htf hI0 hob
      have hT := HT.out
      have kl := Lib.hid (kids_part HH.out hT.tl (by rw [← hT.es]; exact Nat.le_add_right _ _))
      have kr := Lib.hid (kids_part HH.out hT.tr (by rw [← hT.es]; exact Nat.le_refl _))
      have hbl := hT.bl
      have hbr := hT.br
      simp only at hbl hbr
      have HTT := Lib.hid hT
      clear hT
      have HBL := Lib.hid hbl
      have HBR := Lib.hid hbr
      clear hbl hbr
      go_wp2_with (first | (go_at_call 16; (with_reducible refine (c_FillAllN r CF.out _ ll kl.out.1 la lc _ _ (kl.out.2.keep HKW.out) HBL.out).mono ?_); rintro e w4 ⟨la', lc', KL, rfl, hll, hk4⟩; have K4 := Lib.hid hk4; have hb4 := (hk4.blk hws).trans HBK.out; have r3 : w4.cell? ⟨w.heap.size + 1 + 1, 4, none⟩ = some (.slice none 0 0) := (by rw [cell_of_row _ _ _ _ _ _ hb4]; rfl); have rf : ∀ j, w4.frozen? ⟨w.heap.size + 1 + 1, j, none⟩ = false := (fun j => frozen_of_row _ _ _ _ _ hb4); have H4 := Lib.hid hb4; clear hb4; obtain ⟨_, _, _, _, _, r5, rs⟩ := boxed (h := ⟨k, nm, con, some ⟨b, o, none⟩, fl, fc, la, ll, lc, ra, rl, rc⟩) (Kp.trans ((Kp.refl _).alloc _) (HKR.out.trans hk4)); simp only at r5; have rz : w.heap.size + 1 + 1 < w4.heap.size := (by have := hk4.sz; omega); clear hk4) | (go_at_call 16; (with_reducible refine (c_FillAllN r CF.out _ rl kr.out.1 ra rc _ _ (kr.out.2.keep ((HKW.out.trans K4.out).setCell (by simp; omega) _)) HBR.out).mono ?_); rintro e w5 ⟨ra', rc', KR, rfl, hlr, hk5⟩; have K5 := Lib.hid hk5; have hb5 := (hk5.blk (b := w.heap.size + 1 + 1) (by simp; omega)).trans (heap_setCell_same w4 _ 4 _ _ (.slice la' ll lc') H4.out); have t0 : w5.cell? ⟨w.heap.size + 1 + 1, 0, none⟩ = some (.int .i64 k) := (by rw [cell_of_row _ _ _ _ _ _ hb5]; rfl); have t1 : w5.cell? ⟨w.heap.size + 1 + 1, 1, none⟩ = some (.string nm) := (by rw [cell_of_row _ _ _ _ _ _ hb5]; rfl); have t2 : w5.cell? ⟨w.heap.size + 1 + 1, 2, none⟩ = some (.int .i64 con) := (by rw [cell_of_row _ _ _ _ _ _ hb5]; rfl); have t3 : w5.cell? ⟨w.heap.size + 1 + 1, 3, none⟩ = some (.slice fa' fl fc') := (by rw [cell_of_row _ _ _ _ _ _ hb5]; rfl); have t4 : w5.cell? ⟨w.heap.size + 1 + 1, 4, none⟩ = some (.slice la' ll lc') := (by rw [cell_of_row _ _ _ _ _ _ hb5]; rfl); have t5 : w5.cell? ⟨w.heap.size + 1 + 1, 5, none⟩ = some (.slice none 0 0) := (by rw [cell_of_row _ _ _ _ _ _ hb5]; rfl); have tf : ∀ j, w5.frozen? ⟨w.heap.size + 1 + 1, j, none⟩ = false := (fun j => frozen_of_row _ _ _ _ _ hb5); clear hb5; have tz : w.heap.size + 1 + 1 < w5.heap.size := (by have := hk5.sz; simp at this; omega); have tz1 : w.heap.size + 1 < w5.heap.size := (by omega); clear hk5; have KB := Lib.hid (((HKR.out.trans K4.out).setCell (p := ⟨w.heap.size + 1 + 1, 4, none⟩) (by simp) (.slice la' ll lc')).trans K5.out); have hb6 := (KB.out.blk (b := w.heap.size + 1) (by simp)).trans (heap_at (by simp)); have u0 := row_cell hb6 0; have u1 := row_cell hb6 1; have u2 := row_cell hb6 2; have u3 := row_cell hb6 3; have u4 := row_cell hb6 4; have u5 := row_cell hb6 5; simp at u0 u1 u2 u3 u4 u5; have uf : ∀ j, w5.frozen? ⟨w.heap.size + 1, j, none⟩ = false := (fun j => frozen_of_row _ _ _ _ _ hb6); clear hb6))
      have s4 := K4.out.sz
      have s5 : w4.heap.size ≤ w5.heap.size := by have := K5.out.sz; simpa using this
      have FB : ∀ b, (From (w.heap.size + 1 + 1 + 1)).S b → ¬ b < w.heap.size + 1 + 1 + 1 := fun b (hb : w.heap.size + 1 + 1 + 1 ≤ b) h => by omega
      have F4 : Fr (fun k => k < w.heap.size + 1 + 1 + 1) w4 w5 := ((Fr.refl _ w4).setCell (Nat.le_refl _) (a := ⟨w.heap.size + 1 + 1, 4, none⟩) (by simp) (.slice la' ll lc')).keep (by simp) K5.out
      have FR : Fr (fun k => k < w.heap.size + 1 + 1 + 1) wr w5 := ((Fr.refl _ wr).keep (Nat.le_refl _) K4.out).trans s4 F4
      have ht := HTT.out
      have K6 : Lies w5 (From (w.heap.size + 1 + 1 + 1)) (r + 1) T ⟨k, nm, con, fa', fl, fc', la', ll, lc', ra', rl, rc'⟩ := by
        refine built (h := ⟨k, nm, con, some ⟨b, o, none⟩, fl, fc, la, ll, lc, ra, rl, rc⟩) (KF := K') (KL := KL) (KR := KR) ht (SameHead.refl T) ?_ ?_ ?_ ?_ ?_ ?_
        · exact HTF.out.turn FR (by omega) (fun b _ hb => FB b hb)
        · intro i X hi hX
          exact ((HKF.out i X hi hX).turn FR (by omega) (fun b _ (hb : w.heap.size + 1 + 1 + 1 ≤ b ∧ some b ≠ (Value.slice fa' fl fc').ownBlock) => FB b hb.1)).weak (show Sel.le (From (w.heap.size + 1 + 1 + 1)) ⟨True, fun b => w.heap.size + 1 + 1 + 1 ≤ b ∧ some b ≠ (Value.slice fa' fl fc').ownBlock⟩ from ⟨fun h => h, fun b hb => hb.1⟩)
        · have h1 := hll.1
          rw [kl.out.1] at h1
          exact (h1.weak (From_le (by omega))).turn F4 s5 (fun b _ hb => FB b hb)
        · intro i X hi hX
          exact ((hll.2 i X (part_get hi hX)).weak (From_le (by omega))).turn F4 s5 (fun b _ hb => FB b hb)
        · have h1 := hlr.1
          rw [kr.out.1] at h1
          exact h1.weak (From_le (by simp; omega))
        · intro i X hi hX
          exact (hlr.2 i X (part_get hi hX)).weak (From_le (by simp; omega))
      refine bodyPost_ret (v := .agg #[.int .i64 k, .string nm, .int .i64 con, .slice fa' fl fc', .slice la' ll lc', .slice ra' rl rc']) (by simp [results, Try.results18, go_sem, u0, u1, u2, u3, u4, u5, tz1]) rfl ⟨⟨k, nm, con, fa', fl, fc', la', ll, lc', ra', rl, rc'⟩, rfl, ?_, ?_⟩
      · refine (K6.turn (N := fun k => k < w.heap.size + 1 + 1 + 1) ?_ (by simp) (fun b _ hb => FB b hb)).weak (From_le (by omega))
        iterate 7 refine Fr.setCell ?_ (by simp) (by simp <;> omega) _
        exact Fr.refl _ _
      · have KWW := ((HKW.out.trans K4.out).setCell (p := ⟨w.heap.size + 1 + 1, 4, none⟩) (by simp; omega) (.slice la' ll lc')).trans K5.out
        iterate 7 refine Kp.setCell ?_ (by simp <;> omega) _
        exact KWW
set_option maxHeartbeats 3200000 in
set_option maxRecDepth 100000 in
theorem fill0a (r : Nat) (T : Ty) (h : Hd) (K : Nat → Hd) (w : World) (t : Top w A0 T h K) (hh : ∀ i X, T.kids[i]? = some X → Lies w A0 r X (K i)) (h0 : ¬ 0 < h.fl)
    (cf : ∀ (T : Ty) (h : Hd) (w : World), Lies w A0 r T h → Calls Try.prog 18 #[h.val, .slice none 0 0, .slice none 0 0] w (FillP r T w)) :
    Calls Try.prog 18 #[h.val, .slice none 0 0, .slice none 0 0] w (FillP (r + 1) T w) := by
  obtain ⟨i0, hi, hz0, hz1, hz2⟩ := info_parts infoT
  obtain ⟨i1, hj, hy0, hy1, hy2⟩ := info_parts infoF
  have hes := t.es
  have hbf := t.bf
  have HT := Lib.hid t
  have HH := Lib.hid hh
  have CF := Lib.hid cf
  clear t hh cf
  obtain ⟨k, nm, con, fa, fl, fc, la, ll, lc, ra, rl, rc⟩ := h
  simp only at h0 hes hbf
  have HE := Lib.hid hes
  have hkl : fl + ll + rl ≤ T.kids.length := by omega
  clear hes
  go_enter Try.func18, Try.ntmps18
  go_wp2_with fail
  refine wp_loop_rounds 1 ?_
  rw [rounds_succ]
  go_wp2_with fail
  go_loopw [9] (fun i wr => ∃ n v K', n ≤ fl ∧ i = .int .i64 (n : Nat) ∧ wr.heap[w.heap.size + 1 + 1]? = some (.cells #[.int .i64 k, .string nm, .int .i64 con, v, .slice none 0 0, .slice none 0 0] 42 (0, 0)) ∧ KidsIn wr (w.heap.size + 1 + 1 + 1) 52 7 r T.kids n v (fun i => [.string (T.fn.getD i ByteArray.empty)]) K' ∧
      Kp ((w.alloc (.cells #[.int .i64 k, .string nm, .int .i64 con, .slice fa fl fc, .slice la ll lc, .slice ra rl rc] 42)).alloc (.cells #[.int .i64 0, .string ⟨#[]⟩, .int .i64 0, .slice none 0 0, .slice none 0 0, .slice none 0 0] 42)) wr ∧ w.heap.size + 1 + 1 < wr.heap.size) (fun i _ => fl - (intOf i).toNat)
  case atStart => exact ⟨0, _, K, by omega, rfl, heap_at (by simp), kidsIn_nil _ _ _ _ _ _ _ _, (Kp.refl _).alloc _, by simp⟩
  case round =>
    obtain ⟨n, v, K', hn, rfl, hbk, hI, hkr, hws⟩ := hrel
    have g3 : wr.cell? ⟨w.heap.size + 1 + 1, 3, none⟩ = some v := by rw [cell_of_row _ _ _ _ _ _ hbk]; rfl
    have gf : ∀ j, wr.frozen? ⟨w.heap.size + 1 + 1, j, none⟩ = false := fun j => frozen_of_row _ _ _ _ _ hbk
    obtain ⟨p0, p1, p2, p3, p4, p5, ps⟩ := boxed (h := ⟨k, nm, con, fa, fl, fc, la, ll, lc, ra, rl, rc⟩) (Kp.trans ((Kp.refl _).alloc _) hkr)
    simp only at p0 p1 p2 p3 p4 p5
    have HBK := Lib.hid hbk
    have HI := Lib.hid hI
    have HKR := Lib.hid hkr
    have HKW := Lib.hid (((Kp.refl w).alloc _).alloc _ |>.trans hkr)
    clear hbk hI hkr
    by_cases hlt : n < fl
    · omega
    · obtain rfl : fl = n := by omega
      have hI0 := HI.out
      obtain ⟨fa', fc', rfl, _, htf, hob⟩ := tab_of_owns hI0.1 (fun _ => rfl)
      have HTF := Lib.hid htf
      have HKF := Lib.hid hI0.2
      clear htf hI0 hob
      have hT := HT.out
      have kl := Lib.hid (kids_part HH.out hT.tl (by rw [← hT.es]; exact Nat.le_add_right _ _))
      have kr := Lib.hid (kids_part HH.out hT.tr (by rw [← hT.es]; exact Nat.le_refl _))
      have hbl := hT.bl
      have hbr := hT.br
      simp only at hbl hbr
      have HTT := Lib.hid hT
      clear hT
      have HBL := Lib.hid hbl
      have HBR := Lib.hid hbr
      clear hbl hbr
      go_wp2_with (first | (go_at_call 16; (with_reducible refine (c_FillAllN r CF.out _ ll kl.out.1 la lc _ _ (kl.out.2.keep HKW.out) HBL.out).mono ?_); rintro e w4 ⟨la', lc', KL, rfl, hll, hk4⟩; have K4 := Lib.hid hk4; have hb4 := (hk4.blk hws).trans HBK.out; have r3 : w4.cell? ⟨w.heap.size + 1 + 1, 4, none⟩ = some (.slice none 0 0) := (by rw [cell_of_row _ _ _ _ _ _ hb4]; rfl); have rf : ∀ j, w4.frozen? ⟨w.heap.size + 1 + 1, j, none⟩ = false := (fun j => frozen_of_row _ _ _ _ _ hb4); have H4 := Lib.hid hb4; clear hb4; obtain ⟨_, _, _, _, _, r5, rs⟩ := boxed (h := ⟨k, nm, con, fa, fl, fc, la, ll, lc, ra, rl, rc⟩) (Kp.trans ((Kp.refl _).alloc _) (HKR.out.trans hk4)); simp only at r5; have rz : w.heap.size + 1 + 1 < w4.heap.size := (by have := hk4.sz; omega); clear hk4) | (go_at_call 16; (with_reducible refine (c_FillAllN r CF.out _ rl kr.out.1 ra rc _ _ (kr.out.2.keep ((HKW.out.trans K4.out).setCell (by simp; omega) _)) HBR.out).mono ?_); rintro e w5 ⟨ra', rc', KR, rfl, hlr, hk5⟩; have K5 := Lib.hid hk5; have hb5 := (hk5.blk (b := w.heap.size + 1 + 1) (by simp; omega)).trans (heap_setCell_same w4 _ 4 _ _ (.slice la' ll lc') H4.out); have t0 : w5.cell? ⟨w.heap.size + 1 + 1, 0, none⟩ = some (.int .i64 k) := (by rw [cell_of_row _ _ _ _ _ _ hb5]; rfl); have t1 : w5.cell? ⟨w.heap.size + 1 + 1, 1, none⟩ = some (.string nm) := (by rw [cell_of_row _ _ _ _ _ _ hb5]; rfl); have t2 : w5.cell? ⟨w.heap.size + 1 + 1, 2, none⟩ = some (.int .i64 con) := (by rw [cell_of_row _ _ _ _ _ _ hb5]; rfl); have t3 : w5.cell? ⟨w.heap.size + 1 + 1, 3, none⟩ = some (.slice fa' fl fc') := (by rw [cell_of_row _ _ _ _ _ _ hb5]; rfl); have t4 : w5.cell? ⟨w.heap.size + 1 + 1, 4, none⟩ = some (.slice la' ll lc') := (by rw [cell_of_row _ _ _ _ _ _ hb5]; rfl); have t5 : w5.cell? ⟨w.heap.size + 1 + 1, 5, none⟩ = some (.slice none 0 0) := (by rw [cell_of_row _ _ _ _ _ _ hb5]; rfl); have tf : ∀ j, w5.frozen? ⟨w.heap.size + 1 + 1, j, none⟩ = false := (fun j => frozen_of_row _ _ _ _ _ hb5); clear hb5; have tz : w.heap.size + 1 + 1 < w5.heap.size := (by have := hk5.sz; simp at this; omega); have tz1 : w.heap.size + 1 < w5.heap.size := (by omega); clear hk5; have KB := Lib.hid (((HKR.out.trans K4.out).setCell (p := ⟨w.heap.size + 1 + 1, 4, none⟩) (by simp) (.slice la' ll lc')).trans K5.out); have hb6 := (KB.out.blk (b := w.heap.size + 1) (by simp)).trans (heap_at (by simp)); have u0 := row_cell hb6 0; have u1 := row_cell hb6 1; have u2 := row_cell hb6 2; have u3 := row_cell hb6 3; have u4 := row_cell hb6 4; have u5 := row_cell hb6 5; simp at u0 u1 u2 u3 u4 u5; have uf : ∀ j, w5.frozen? ⟨w.heap.size + 1, j, none⟩ = false := (fun j => frozen_of_row _ _ _ _ _ hb6); clear hb6))
      have s4 := K4.out.sz
      have s5 : w4.heap.size ≤ w5.heap.size := by have := K5.out.sz; simpa using this
      have FB : ∀ b, (From (w.heap.size + 1 + 1 + 1)).S b → ¬ b < w.heap.size + 1 + 1 + 1 := fun b (hb : w.heap.size + 1 + 1 + 1 ≤ b) h => by omega
      have F4 : Fr (fun k => k < w.heap.size + 1 + 1 + 1) w4 w5 := ((Fr.refl _ w4).setCell (Nat.le_refl _) (a := ⟨w.heap.size + 1 + 1, 4, none⟩) (by simp) (.slice la' ll lc')).keep (by simp) K5.out
      have FR : Fr (fun k => k < w.heap.size + 1 + 1 + 1) wr w5 := ((Fr.refl _ wr).keep (Nat.le_refl _) K4.out).trans s4 F4
      have ht := HTT.out
      have K6 : Lies w5 (From (w.heap.size + 1 + 1 + 1)) (r + 1) T ⟨k, nm, con, fa', fl, fc', la', ll, lc', ra', rl, rc'⟩ := by
        refine built (h := ⟨k, nm, con, fa, fl, fc, la, ll, lc, ra, rl, rc⟩) (KF := K') (KL := KL) (KR := KR) ht (SameHead.refl T) ?_ ?_ ?_ ?_ ?_ ?_
        · exact HTF.out.turn FR (by omega) (fun b _ hb => FB b hb)
        · intro i X hi hX
          exact ((HKF.out i X hi hX).turn FR (by omega) (fun b _ (hb : w.heap.size + 1 + 1 + 1 ≤ b ∧ some b ≠ (Value.slice fa' fl fc').ownBlock) => FB b hb.1)).weak (show Sel.le (From (w.heap.size + 1 + 1 + 1)) ⟨True, fun b => w.heap.size + 1 + 1 + 1 ≤ b ∧ some b ≠ (Value.slice fa' fl fc').ownBlock⟩ from ⟨fun h => h, fun b hb => hb.1⟩)
        · have h1 := hll.1
          rw [kl.out.1] at h1
          exact (h1.weak (From_le (by omega))).turn F4 s5 (fun b _ hb => FB b hb)
        · intro i X hi hX
          exact ((hll.2 i X (part_get hi hX)).weak (From_le (by omega))).turn F4 s5 (fun b _ hb => FB b hb)
        · have h1 := hlr.1
          rw [kr.out.1] at h1
          exact h1.weak (From_le (by simp; omega))
        · intro i X hi hX
          exact (hlr.2 i X (part_get hi hX)).weak (From_le (by simp; omega))
      refine bodyPost_ret (v := .agg #[.int .i64 k, .string nm, .int .i64 con, .slice fa' fl fc', .slice la' ll lc', .slice ra' rl rc']) (by simp [results, Try.results18, go_sem, u0, u1, u2, u3, u4, u5, tz1]) rfl ⟨⟨k, nm, con, fa', fl, fc', la', ll, lc', ra', rl, rc'⟩, rfl, ?_, ?_⟩
      · refine (K6.turn (N := fun k => k < w.heap.size + 1 + 1 + 1) ?_ (by simp) (fun b _ hb => FB b hb)).weak (From_le (by omega))
        iterate 7 refine Fr.setCell ?_ (by simp) (by simp <;> omega) _
        exact Fr.refl _ _
      · have KWW := ((HKW.out.trans K4.out).setCell (p := ⟨w.heap.size + 1 + 1, 4, none⟩) (by simp; omega) (.slice la' ll lc')).trans K5.out
        iterate 7 refine Kp.setCell ?_ (by simp <;> omega) _
        exact KWW
theorem c_Fill0 : ∀ (r : Nat) (T : Ty) (h : Hd) (w : World), Lies w A0 r T h → Calls Try.prog 18 #[h.val, .slice none 0 0, .slice none 0 0] w (FillP r T w)
  | 0, _, _, _, hl => hl.elim
  | r + 1, T, h, w, hl => by
    obtain ⟨K, t, hh⟩ := hl
    by_cases h0 : 0 < h.fl
    · exact fill0b r T h K w t hh h0 (fun T h w hl => c_Fill0 r T h w hl)
    · exact fill0a r T h K w t hh h0 (fun T h w hl => c_Fill0 r T h w hl)
end Go.Proofs.Ytfjflfokmihcpaa
