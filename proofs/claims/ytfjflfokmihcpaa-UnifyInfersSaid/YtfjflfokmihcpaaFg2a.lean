/- Fill of the reference, with names, where no name fits: a type of its own. Condition: the type and the names lie in memory. -/
import Derived.Test.YtfjflfokmihcpaaFg1
import Derived.Deep.RegionHeld3
import Derived.Outline
namespace Go.Proofs.Ytfjflfokmihcpaa
open Go.RowKit
set_option linter.unusedVariables false
set_option linter.unusedSimpArgs false
theorem run_index_tabG {P : Program} {t e : TypeId} {m : Nat} (ht : P.underlying t = some (.slice e)) (hm : (P.info? e).map (·.size) = some m) {b o n c j : Nat} (hj : j < n) {w : World} :
    (Instr.indexAt t (.slice (some ⟨b, o, none⟩) n c) (.int .i64 (j : Int))).run P w = .ok (.pointer (some ⟨b, o + j * m, none⟩)) w := by
  obtain ⟨ii, hii, hs⟩ := Option.map_eq_some_iff.1 hm
  have he : P.elem t = e := by simp [Program.elem, ht]
  rw [run_indexAt_slice w t _ n c .i64 j (by rw [he]; exact ht), if_pos ⟨by omega, by omega⟩, he]
  simp [sizeOf, typeInfo, hii, hs, Result.andThen, Addr.add_mid]
theorem part_getmG {φ : Ty → Ty} {l : List Ty} {o n i : Nat} {X : Ty} (hi : i < n) (hX : (l.map φ)[o + i]? = some X) : (((l.drop o).take n).map φ)[i]? = some X := by
  have h : (l.map φ)[o + i]? = some X := hX
  rw [List.getElem?_map] at h ⊢
  rw [List.getElem?_take, if_pos hi, List.getElem?_drop]
  exact h
set_option maxHeartbeats 3200000 in
set_option maxRecDepth 100000 in
theorem fillGa (L : List ByteArray) (na : Option Addr) (nc : Nat) (S : Sel) (asv : Value) (φ : Ty → Ty) (rr : Nat) (r : Nat) (T : Ty) (h : Hd) (K : Nat → Hd) (w : World) (t : Top w A0 T h K) (hh : ∀ i X, T.kids[i]? = some X → Lies w A0 r X (K i)) (h0 : ¬ 0 < h.fl)
    (cf : ∀ (X : Ty) (hx : Hd) (W : World), Kp w W → Lies W A0 r X hx → Calls Try.prog 18 #[hx.val, .slice na L.length nc, asv] W (FillP rr (φ X) W))
    (ht : tab w S 9 na L.length nc 1 (fun i => [.string (L.getD i ByteArray.empty)])) (hlL : L.length * 16 ≤ 140737488351232) (hmiss : h.k = 12 → h.nm ∉ L) :
    Calls Try.prog 18 #[h.val, .slice na L.length nc, asv] w (FillP (rr + 1) (.mk T.k T.nm T.con T.fn T.nl (T.kids.map φ)) w) := by
  obtain ⟨i0, hi, hz0, hz1, hz2⟩ := info_parts infoT
  obtain ⟨i1, hj, hy0, hy1, hy2⟩ := info_parts infoF
  have hes := t.es
  have hbf := t.bf
  have HT := Lib.hid t
  have HNT := Lib.hid ht
  have HM := Lib.hid hmiss
  have HH := Lib.hid hh
  have CF := Lib.hid cf
  clear t hh cf ht hmiss
  obtain ⟨k, nm, con, fa, fl, fc, la, ll, lc, ra, rl, rc⟩ := h
  simp only at h0 hes hbf
  have HE := Lib.hid hes
  have hkl : fl + ll + rl ≤ T.kids.length := by omega
  clear hes
  go_enter Try.func18, Try.ntmps18
  go_wp2_with fail
  go_loopw [7] (fun i wr => ∃ n q : Nat, n ≤ L.length ∧ i = .int .i64 n ∧ wr = World.drewN ((w.alloc (.cells #[.int .i64 k, .string nm, .int .i64 con, .slice fa fl fc, .slice la ll lc, .slice ra rl rc] 42)).alloc (.cells #[.int .i64 0, .string ⟨#[]⟩, .int .i64 0, .slice none 0 0, .slice none 0 0, .slice none 0 0] 42)) q) (fun i _ => L.length - (intOf i).toNat)
  case atStart => exact ⟨0, 0, Nat.zero_le _, rfl, rfl⟩
  case round =>
    obtain ⟨n, q, hn, rfl, rfl⟩ := hrel
    by_cases hlt : n < L.length
    · go_wp2_with fail
      obtain ⟨nb, no, hna, hnr⟩ := HNT.out.at (by omega)
      obtain ⟨sn, hsn⟩ : ∃ sn, L.getD n ByteArray.empty = sn := ⟨_, rfl⟩
      have KB : Kp w (World.drewN ((w.alloc (.cells #[.int .i64 k, .string nm, .int .i64 con, .slice fa fl fc, .slice la ll lc, .slice ra rl rc] 42)).alloc (.cells #[.int .i64 0, .string ⟨#[]⟩, .int .i64 0, .slice none 0 0, .slice none 0 0, .slice none 0 0] 42)) q) := (((Kp.refl w).alloc _).alloc _).drewN q
      have hcs : (World.drewN ((w.alloc (.cells #[.int .i64 k, .string nm, .int .i64 con, .slice fa fl fc, .slice la ll lc, .slice ra rl rc] 42)).alloc (.cells #[.int .i64 0, .string ⟨#[]⟩, .int .i64 0, .slice none 0 0, .slice none 0 0, .slice none 0 0] 42)) q).cell? ⟨nb, no + n, none⟩ = some (.string sn) := by
        have := (KB.range (hnr n hlt)) 0 (.string sn) (by rw [hsn]; rfl)
        simpa using this
      have hbx : (World.drewN ((w.alloc (.cells #[.int .i64 k, .string nm, .int .i64 con, .slice fa fl fc, .slice la ll lc, .slice ra rl rc] 42)).alloc (.cells #[.int .i64 0, .string ⟨#[]⟩, .int .i64 0, .slice none 0 0, .slice none 0 0, .slice none 0 0] 42)) q).heap[w.heap.size]? = some (.cells #[.int .i64 k, .string nm, .int .i64 con, .slice fa fl fc, .slice la ll lc, .slice ra rl rc] 42 (0, 0)) := (((Kp.refl _).alloc _).drewN q |>.blk (b := w.heap.size) (by simp)).trans (heap_alloc_new _ _)
      have hc0 := row_cell hbx 0
      have hc1 := row_cell hbx 1
      simp only [List.getElem?_toArray, List.getElem?_cons_zero, List.getElem?_cons_succ] at hc0 hc1
      have HSN := Lib.hid hsn
      subst hna
      have hi1 : ∀ W, (Instr.indexAt 22 (.slice (some ⟨nb, no, none⟩) L.length nc) (.int .i64 (n : Nat))).run Try.prog W = .ok (.pointer (some ⟨nb, no + n, none⟩)) W := fun W => by have := run_index_tabG (w := W) (b := nb) (o := no) (c := nc) Try.underlying22 (m := 1) (by kernel_rfl) hlt; rwa [Nat.mul_one] at this
      clear hsn hnr hbx KB
      by_cases h12 : k = 12
      · have hq : (nm.toList == sn.toList) = false := (same_or nm sn).elim (fun x => absurd x.1 (fun e => HM.out h12 (by rw [e, ← HSN.out, List.getD_eq_getElem?_getD, List.getElem?_eq_getElem hlt]; exact List.getElem_mem _))) (fun x => x.2)
        subst h12
        refine wp_region_held_drew (S := (fun w' : World => w'.cell? ⟨w.heap.size, 0, none⟩ = some (.int .i64 12) ∧ w'.cell? ⟨w.heap.size, 1, none⟩ = some (.string nm) ∧ w'.cell? ⟨nb, no + n, none⟩ = some (.string sn))) (by kernel_rfl) (⟨hc0, hc1, hcs⟩) (fun hHeld0 => ?_)
        refine wpAnyH_take (i := 0) (oi := { dst := some 16, op := Op.fieldAddr 42 (Operand.tmp 3) 0, type := 0, pos := "ref.go:222", after := #[], guard := none }) (v := ?_) rfl (by kernel_rfl) (by kernel_rfl) (by kernel_rfl) (fun _ _ _ h => h) (Or.inl ⟨by rfl, ?_⟩) (by assumption) ?_
        rotate_left
        · (intro wz hSw; (try dsimp only at hSw); go_simp; first | done | with_reducible rfl)
        try simp only [Act.put, List.setIfInBounds_toArray, List.set_cons_zero, List.set_cons_succ]
        refine wpAnyH_take (i := 1) (oi := { dst := some 17, op := Op.load 3 (Operand.tmp 16), type := 3, pos := "ref.go:222", after := #[{ on := 0, ground := Ground.data }], guard := none }) (v := ?_) rfl (by kernel_rfl) (by kernel_rfl) (by kernel_rfl) (fun _ _ _ h => h) (Or.inl ⟨by rfl, ?_⟩) (by assumption) ?_
        rotate_left
        · (intro wz hSw; (try dsimp only at hSw); go_simp; first | done | with_reducible rfl)
        try simp only [Act.put, List.setIfInBounds_toArray, List.set_cons_zero, List.set_cons_succ]
        refine wpAnyH_take (i := 2) (oi := { dst := some 18, op := Op.binOp BinOp.eql 3 (Operand.tmp 17) (Operand.const (Value.int IntKind.i64 12)) 3, type := 4, pos := "ref.go:222", after := #[{ on := 1, ground := Ground.data }], guard := none }) (v := ?_) rfl (by kernel_rfl) (by kernel_rfl) (by kernel_rfl) (fun _ _ _ h => h) (Or.inl ⟨by rfl, ?_⟩) (by assumption) ?_
        rotate_left
        · (intro wz hSw; (try dsimp only at hSw); go_simp; first | done | with_reducible rfl)
        try simp only [Act.put, List.setIfInBounds_toArray, List.set_cons_zero, List.set_cons_succ]
        refine wpAnyH_take (i := 3) (oi := { dst := some 19, op := Op.move (Operand.tmp 18), type := 4, pos := "ref.go:222", after := #[{ on := 2, ground := Ground.data }], guard := none }) (v := ?_) rfl (by kernel_rfl) (by kernel_rfl) (by kernel_rfl) (fun _ _ _ h => h) (Or.inl ⟨by rfl, ?_⟩) (by assumption) ?_
        rotate_left
        · (intro wz hSw; (try dsimp only at hSw); go_simp; first | done | with_reducible rfl)
        try simp only [Act.put, List.setIfInBounds_toArray, List.set_cons_zero, List.set_cons_succ]
        refine wpAnyH_take (i := 4) (oi := { dst := some 20, op := Op.fieldAddr 42 (Operand.tmp 3) 1, type := 0, pos := "ref.go:222", after := #[{ on := 3, ground := Ground.guard }], guard := some (3, true) }) (v := ?_) rfl (by kernel_rfl) (by kernel_rfl) (by kernel_rfl) (fun _ _ _ h => h) (Or.inl ⟨by rfl, ?_⟩) (by assumption) ?_
        rotate_left
        · (intro wz hSw; (try dsimp only at hSw); go_simp; first | done | with_reducible rfl)
        try simp only [Act.put, List.setIfInBounds_toArray, List.set_cons_zero, List.set_cons_succ]
        refine wpAnyH_take (i := 5) (oi := { dst := some 21, op := Op.load 9 (Operand.tmp 20), type := 9, pos := "ref.go:222", after := #[{ on := 4, ground := Ground.data }, { on := 3, ground := Ground.guard }], guard := some (3, true) }) (v := ?_) rfl (by kernel_rfl) (by kernel_rfl) (by kernel_rfl) (fun _ _ _ h => h) (Or.inl ⟨by rfl, ?_⟩) (by assumption) ?_
        rotate_left
        · (intro wz hSw; (try dsimp only at hSw); go_simp; first | done | with_reducible rfl)
        try simp only [Act.put, List.setIfInBounds_toArray, List.set_cons_zero, List.set_cons_succ]
        refine wpAnyH_take (i := 6) (oi := { dst := some 22, op := Op.move (Operand.tmp 1), type := 22, pos := "ref.go:222", after := #[{ on := 3, ground := Ground.guard }], guard := some (3, true) }) (v := ?_) rfl (by kernel_rfl) (by kernel_rfl) (by kernel_rfl) (fun _ _ _ h => h) (Or.inl ⟨by rfl, ?_⟩) (by assumption) ?_
        rotate_left
        · (intro wz hSw; (try dsimp only at hSw); go_simp; first | done | with_reducible rfl)
        try simp only [Act.put, List.setIfInBounds_toArray, List.set_cons_zero, List.set_cons_succ]
        refine wpAnyH_take (i := 7) (oi := { dst := some 23, op := Op.move (Operand.tmp 7), type := 3, pos := "ref.go:222", after := #[{ on := 3, ground := Ground.guard }], guard := some (3, true) }) (v := ?_) rfl (by kernel_rfl) (by kernel_rfl) (by kernel_rfl) (fun _ _ _ h => h) (Or.inl ⟨by rfl, ?_⟩) (by assumption) ?_
        rotate_left
        · (intro wz hSw; (try dsimp only at hSw); go_simp; first | done | with_reducible rfl)
        try simp only [Act.put, List.setIfInBounds_toArray, List.set_cons_zero, List.set_cons_succ]
        refine wpAnyH_take (i := 8) (oi := { dst := some 24, op := Op.indexAddr 22 (Operand.tmp 22) (Operand.tmp 23), type := 0, pos := "ref.go:222", after := #[{ on := 6, ground := Ground.data }, { on := 7, ground := Ground.data }, { on := 3, ground := Ground.guard }], guard := some (3, true) }) (v := ?_) rfl (by kernel_rfl) (by kernel_rfl) (by kernel_rfl) (fun _ _ _ h => h) (Or.inl ⟨by rfl, ?_⟩) (by assumption) ?_
        rotate_left
        · (intro wz hSw; (try dsimp only at hSw); go_simp; first | done | with_reducible rfl)
        try simp only [Act.put, List.setIfInBounds_toArray, List.set_cons_zero, List.set_cons_succ]
        refine wpAnyH_take (i := 9) (oi := { dst := some 25, op := Op.load 9 (Operand.tmp 24), type := 9, pos := "ref.go:222", after := #[{ on := 8, ground := Ground.data }, { on := 3, ground := Ground.guard }], guard := some (3, true) }) (v := ?_) rfl (by kernel_rfl) (by kernel_rfl) (by kernel_rfl) (fun _ _ _ h => h) (Or.inl ⟨by rfl, ?_⟩) (by assumption) ?_
        rotate_left
        · (intro wz hSw; (try dsimp only at hSw); go_simp; first | done | with_reducible rfl)
        try simp only [Act.put, List.setIfInBounds_toArray, List.set_cons_zero, List.set_cons_succ]
        refine wpAnyH_take (i := 10) (oi := { dst := some 26, op := Op.binOp BinOp.eql 9 (Operand.tmp 21) (Operand.tmp 25) 9, type := 4, pos := "ref.go:222", after := #[{ on := 5, ground := Ground.data }, { on := 9, ground := Ground.data }, { on := 3, ground := Ground.guard }], guard := some (3, true) }) (v := ?_) rfl (by kernel_rfl) (by kernel_rfl) (by kernel_rfl) (fun _ _ _ h => h) (Or.inl ⟨by rfl, ?_⟩) (by assumption) ?_
        rotate_left
        · (intro wz hSw; (try dsimp only at hSw); go_simp; first | done | with_reducible rfl)
        try simp only [Act.put, List.setIfInBounds_toArray, List.set_cons_zero, List.set_cons_succ]
        refine wpAnyH_take (i := 11) (oi := { dst := some 27, op := Op.pick (Operand.tmp 19) (Operand.tmp 26) (Operand.const (Value.bool false)), type := 4, pos := "ref.go:222", after := #[{ on := 3, ground := Ground.data }, { on := 10, ground := Ground.data }], guard := none }) (v := ?_) rfl (by kernel_rfl) (by kernel_rfl) (by kernel_rfl) (fun _ _ _ h => h) (Or.inl ⟨by rfl, ?_⟩) (by assumption) ?_
        rotate_left
        · (intro wz hSw; (try dsimp only at hSw); go_simp; first | done | with_reducible rfl)
        try simp only [Act.put, List.setIfInBounds_toArray, List.set_cons_zero, List.set_cons_succ]
        refine wpAnyH_done (by kernel_rfl) ?_ _
        go_wp2_with fail
        go_roundw
        case rel => exact ⟨n + 1, q + 1, by omega, by go_num, rfl⟩
        case measure => simp [intOf]; omega
      · have b12 : (k == 12) = false := by rw [beq_eq_false_iff_ne]; exact h12
        refine wp_region_held_drew (S := (fun w' : World => w'.cell? ⟨w.heap.size, 0, none⟩ = some (.int .i64 k) ∧ w'.cell? ⟨w.heap.size, 1, none⟩ = some (.string nm) ∧ w'.cell? ⟨nb, no + n, none⟩ = some (.string sn))) (by kernel_rfl) (⟨hc0, hc1, hcs⟩) (fun hHeld0 => ?_)
        refine wpAnyH_take (i := 0) (oi := { dst := some 16, op := Op.fieldAddr 42 (Operand.tmp 3) 0, type := 0, pos := "ref.go:222", after := #[], guard := none }) (v := ?_) rfl (by kernel_rfl) (by kernel_rfl) (by kernel_rfl) (fun _ _ _ h => h) (Or.inl ⟨by rfl, ?_⟩) (by assumption) ?_
        rotate_left
        · (intro wz hSw; (try dsimp only at hSw); go_simp; first | done | with_reducible rfl)
        try simp only [Act.put, List.setIfInBounds_toArray, List.set_cons_zero, List.set_cons_succ]
        refine wpAnyH_take (i := 1) (oi := { dst := some 17, op := Op.load 3 (Operand.tmp 16), type := 3, pos := "ref.go:222", after := #[{ on := 0, ground := Ground.data }], guard := none }) (v := ?_) rfl (by kernel_rfl) (by kernel_rfl) (by kernel_rfl) (fun _ _ _ h => h) (Or.inl ⟨by rfl, ?_⟩) (by assumption) ?_
        rotate_left
        · (intro wz hSw; (try dsimp only at hSw); go_simp; first | done | with_reducible rfl)
        try simp only [Act.put, List.setIfInBounds_toArray, List.set_cons_zero, List.set_cons_succ]
        refine wpAnyH_take (i := 2) (oi := { dst := some 18, op := Op.binOp BinOp.eql 3 (Operand.tmp 17) (Operand.const (Value.int IntKind.i64 12)) 3, type := 4, pos := "ref.go:222", after := #[{ on := 1, ground := Ground.data }], guard := none }) (v := ?_) rfl (by kernel_rfl) (by kernel_rfl) (by kernel_rfl) (fun _ _ _ h => h) (Or.inl ⟨by rfl, ?_⟩) (by assumption) ?_
        rotate_left
        · (intro wz hSw; (try dsimp only at hSw); go_simp; first | done | with_reducible rfl)
        try simp only [Act.put, List.setIfInBounds_toArray, List.set_cons_zero, List.set_cons_succ]
        refine wpAnyH_take (i := 3) (oi := { dst := some 19, op := Op.move (Operand.tmp 18), type := 4, pos := "ref.go:222", after := #[{ on := 2, ground := Ground.data }], guard := none }) (v := ?_) rfl (by kernel_rfl) (by kernel_rfl) (by kernel_rfl) (fun _ _ _ h => h) (Or.inl ⟨by rfl, ?_⟩) (by assumption) ?_
        rotate_left
        · (intro wz hSw; (try dsimp only at hSw); go_simp; first | done | with_reducible rfl)
        try simp only [Act.put, List.setIfInBounds_toArray, List.set_cons_zero, List.set_cons_succ]
        refine wpAnyH_take (i := 4) (oi := { dst := some 20, op := Op.fieldAddr 42 (Operand.tmp 3) 1, type := 0, pos := "ref.go:222", after := #[{ on := 3, ground := Ground.guard }], guard := some (3, true) }) (v := undef) rfl (by kernel_rfl) (by kernel_rfl) (by kernel_rfl) (fun _ _ _ h => h) (Or.inr ⟨by rfl, rfl⟩) (by assumption) ?_
        try simp only [Act.put, List.setIfInBounds_toArray, List.set_cons_zero, List.set_cons_succ]
        refine wpAnyH_take (i := 5) (oi := { dst := some 21, op := Op.load 9 (Operand.tmp 20), type := 9, pos := "ref.go:222", after := #[{ on := 4, ground := Ground.data }, { on := 3, ground := Ground.guard }], guard := some (3, true) }) (v := undef) rfl (by kernel_rfl) (by kernel_rfl) (by kernel_rfl) (fun _ _ _ h => h) (Or.inr ⟨by rfl, rfl⟩) (by assumption) ?_
        try simp only [Act.put, List.setIfInBounds_toArray, List.set_cons_zero, List.set_cons_succ]
        refine wpAnyH_take (i := 6) (oi := { dst := some 22, op := Op.move (Operand.tmp 1), type := 22, pos := "ref.go:222", after := #[{ on := 3, ground := Ground.guard }], guard := some (3, true) }) (v := undef) rfl (by kernel_rfl) (by kernel_rfl) (by kernel_rfl) (fun _ _ _ h => h) (Or.inr ⟨by rfl, rfl⟩) (by assumption) ?_
        try simp only [Act.put, List.setIfInBounds_toArray, List.set_cons_zero, List.set_cons_succ]
        refine wpAnyH_take (i := 7) (oi := { dst := some 23, op := Op.move (Operand.tmp 7), type := 3, pos := "ref.go:222", after := #[{ on := 3, ground := Ground.guard }], guard := some (3, true) }) (v := undef) rfl (by kernel_rfl) (by kernel_rfl) (by kernel_rfl) (fun _ _ _ h => h) (Or.inr ⟨by rfl, rfl⟩) (by assumption) ?_
        try simp only [Act.put, List.setIfInBounds_toArray, List.set_cons_zero, List.set_cons_succ]
        refine wpAnyH_take (i := 8) (oi := { dst := some 24, op := Op.indexAddr 22 (Operand.tmp 22) (Operand.tmp 23), type := 0, pos := "ref.go:222", after := #[{ on := 6, ground := Ground.data }, { on := 7, ground := Ground.data }, { on := 3, ground := Ground.guard }], guard := some (3, true) }) (v := undef) rfl (by kernel_rfl) (by kernel_rfl) (by kernel_rfl) (fun _ _ _ h => h) (Or.inr ⟨by rfl, rfl⟩) (by assumption) ?_
        try simp only [Act.put, List.setIfInBounds_toArray, List.set_cons_zero, List.set_cons_succ]
        refine wpAnyH_take (i := 9) (oi := { dst := some 25, op := Op.load 9 (Operand.tmp 24), type := 9, pos := "ref.go:222", after := #[{ on := 8, ground := Ground.data }, { on := 3, ground := Ground.guard }], guard := some (3, true) }) (v := undef) rfl (by kernel_rfl) (by kernel_rfl) (by kernel_rfl) (fun _ _ _ h => h) (Or.inr ⟨by rfl, rfl⟩) (by assumption) ?_
        try simp only [Act.put, List.setIfInBounds_toArray, List.set_cons_zero, List.set_cons_succ]
        refine wpAnyH_take (i := 10) (oi := { dst := some 26, op := Op.binOp BinOp.eql 9 (Operand.tmp 21) (Operand.tmp 25) 9, type := 4, pos := "ref.go:222", after := #[{ on := 5, ground := Ground.data }, { on := 9, ground := Ground.data }, { on := 3, ground := Ground.guard }], guard := some (3, true) }) (v := undef) rfl (by kernel_rfl) (by kernel_rfl) (by kernel_rfl) (fun _ _ _ h => h) (Or.inr ⟨by rfl, rfl⟩) (by assumption) ?_
        try simp only [Act.put, List.setIfInBounds_toArray, List.set_cons_zero, List.set_cons_succ]
        refine wpAnyH_take (i := 11) (oi := { dst := some 27, op := Op.pick (Operand.tmp 19) (Operand.tmp 26) (Operand.const (Value.bool false)), type := 4, pos := "ref.go:222", after := #[{ on := 3, ground := Ground.data }, { on := 10, ground := Ground.data }], guard := none }) (v := ?_) rfl (by kernel_rfl) (by kernel_rfl) (by kernel_rfl) (fun _ _ _ h => h) (Or.inl ⟨by rfl, ?_⟩) (by assumption) ?_
        rotate_left
        · (intro wz hSw; (try dsimp only at hSw); go_simp; first | done | with_reducible rfl)
        try simp only [Act.put, List.setIfInBounds_toArray, List.set_cons_zero, List.set_cons_succ]
        refine wpAnyH_done (by kernel_rfl) ?_ _
        go_wp2_with fail
        go_roundw
        case rel => exact ⟨n + 1, q + 1, by omega, by go_num, rfl⟩
        case measure => simp [intOf]; omega
    · obtain rfl : L.length = n := by omega
      obtain ⟨W1, hW1⟩ : ∃ W1, World.drewN ((w.alloc (.cells #[.int .i64 k, .string nm, .int .i64 con, .slice fa fl fc, .slice la ll lc, .slice ra rl rc] 42)).alloc (.cells #[.int .i64 0, .string ⟨#[]⟩, .int .i64 0, .slice none 0 0, .slice none 0 0, .slice none 0 0] 42)) q = W1 := ⟨_, rfl⟩
      have kx : Kp (w.alloc (.cells #[.int .i64 k, .string nm, .int .i64 con, .slice fa fl fc, .slice la ll lc, .slice ra rl rc] 42)) W1 := by rw [← hW1]; exact ((Kp.refl _).alloc _).drewN q
      have hres : W1.heap[w.heap.size + 1]? = some (.cells #[.int .i64 0, .string ⟨#[]⟩, .int .i64 0, .slice none 0 0, .slice none 0 0, .slice none 0 0] 42 (0, 0)) := by
        rw [← hW1]
        exact (((Kp.refl _).drewN q).blk (b := w.heap.size + 1) (by simp)).trans (heap_at (by simp))
      have hz1 : w.heap.size + 1 < W1.heap.size := (Array.getElem?_eq_some_iff.1 hres).1
      rw [hW1]
      have KX := Lib.hid kx
      have KW1 := Lib.hid (((Kp.refl w).alloc _).trans kx)
      have HRES := Lib.hid hres
      obtain ⟨p0, p1, p2, p3, p4, p5, ps⟩ := boxed (h := ⟨k, nm, con, fa, fl, fc, la, ll, lc, ra, rl, rc⟩) kx
      simp only at p0 p1 p2 p3 p4 p5
      clear hW1 kx hres
      go_wp2_with fail
      clear p0 p1 p2 p3 p4 p5 ps
      go_loopw [9] (fun i wr => ∃ n v K', n ≤ fl ∧ i = .int .i64 (n : Nat) ∧ wr.heap[W1.heap.size]? = some (.cells #[.int .i64 k, .string nm, .int .i64 con, v, .slice none 0 0, .slice none 0 0] 42 (0, 0)) ∧ KidsIn wr (W1.heap.size + 1) 52 7 rr (T.kids.map φ) n v (fun i => [.string (T.fn.getD i ByteArray.empty)]) K' ∧
          Kp W1 wr ∧ W1.heap.size < wr.heap.size) (fun i _ => fl - (intOf i).toNat)
      case atStart => exact ⟨0, _, K, by omega, rfl, heap_at (by simp), kidsIn_nil _ _ _ _ _ _ _ _, (Kp.refl _).alloc _, by simp⟩
      case round =>
        obtain ⟨n, v, K', hn, rfl, hbk, hI, hkr, hws⟩ := hrel
        have g3 : wr.cell? ⟨W1.heap.size, 3, none⟩ = some v := by rw [cell_of_row _ _ _ _ _ _ hbk]; rfl
        have gf : ∀ j, wr.frozen? ⟨W1.heap.size, j, none⟩ = false := fun j => frozen_of_row _ _ _ _ _ hbk
        obtain ⟨p0, p1, p2, p3, p4, p5, ps⟩ := boxed (h := ⟨k, nm, con, fa, fl, fc, la, ll, lc, ra, rl, rc⟩) (KX.out.trans hkr)
        simp only at p0 p1 p2 p3 p4 p5
        have HBK := Lib.hid hbk
        have HI := Lib.hid hI
        have HKR := Lib.hid hkr
        have HKW := Lib.hid (KW1.out.trans hkr)
        clear hbk hI hkr
        by_cases hlt : n < fl
        · omega
        · obtain rfl : fl = n := by omega
          have hI0 := HI.out
          obtain ⟨fa', fc', rfl, _, htf, hob⟩ := tab_of_owns hI0.1 (fun _ => rfl)
          have HTF := Lib.hid htf
          have HKF := Lib.hid hI0.2
          clear htf hI0 hob
          have hT := HT.out
          have kl := Lib.hid (kids_part HH.out hT.tl (by rw [← hT.es]; exact Nat.le_add_right _ _))
          have kr := Lib.hid (kids_part HH.out hT.tr (by rw [← hT.es]; exact Nat.le_refl _))
          have hbl := hT.bl
          have hbr := hT.br
          simp only at hbl hbr
          have HTT := Lib.hid hT
          clear hT
          have HBL := Lib.hid hbl
          have HBR := Lib.hid hbr
          clear hbl hbr
          go_wp2_with (first | (go_at_call 16; (with_reducible refine (c_FillAllG _ asv w φ r rr CF.out _ ll kl.out.1 la lc _ _ HKW.out (kl.out.2.keep HKW.out) HBL.out).mono ?_); rintro e w4 ⟨la', lc', KL, rfl, hll, hk4⟩; have K4 := Lib.hid hk4; have hb4 := (hk4.blk hws).trans HBK.out; have r3 : w4.cell? ⟨W1.heap.size, 4, none⟩ = some (.slice none 0 0) := (by rw [cell_of_row _ _ _ _ _ _ hb4]; rfl); have rf : ∀ j, w4.frozen? ⟨W1.heap.size, j, none⟩ = false := (fun j => frozen_of_row _ _ _ _ _ hb4); have H4 := Lib.hid hb4; clear hb4; obtain ⟨_, _, _, _, _, r5, rs⟩ := boxed (h := ⟨k, nm, con, fa, fl, fc, la, ll, lc, ra, rl, rc⟩) (KX.out.trans (HKR.out.trans hk4)); simp only at r5; have rz : W1.heap.size < w4.heap.size := (by have := hk4.sz; omega); clear hk4) | (go_at_call 16; (with_reducible refine (c_FillAllG _ asv w φ r rr CF.out _ rl kr.out.1 ra rc _ _ ((HKW.out.trans K4.out).setCell (by show w.heap.size ≤ W1.heap.size; omega) _) (kr.out.2.keep ((HKW.out.trans K4.out).setCell (by simp; omega) _)) HBR.out).mono ?_); rintro e w5 ⟨ra', rc', KR, rfl, hlr, hk5⟩; have K5 := Lib.hid hk5; have hb5 := (hk5.blk (b := W1.heap.size) (by simp; omega)).trans (heap_setCell_same w4 _ 4 _ _ (.slice la' ll lc') H4.out); have t0 : w5.cell? ⟨W1.heap.size, 0, none⟩ = some (.int .i64 k) := (by rw [cell_of_row _ _ _ _ _ _ hb5]; rfl); have t1 : w5.cell? ⟨W1.heap.size, 1, none⟩ = some (.string nm) := (by rw [cell_of_row _ _ _ _ _ _ hb5]; rfl); have t2 : w5.cell? ⟨W1.heap.size, 2, none⟩ = some (.int .i64 con) := (by rw [cell_of_row _ _ _ _ _ _ hb5]; rfl); have t3 : w5.cell? ⟨W1.heap.size, 3, none⟩ = some (.slice fa' fl fc') := (by rw [cell_of_row _ _ _ _ _ _ hb5]; rfl); have t4 : w5.cell? ⟨W1.heap.size, 4, none⟩ = some (.slice la' ll lc') := (by rw [cell_of_row _ _ _ _ _ _ hb5]; rfl); have t5 : w5.cell? ⟨W1.heap.size, 5, none⟩ = some (.slice none 0 0) := (by rw [cell_of_row _ _ _ _ _ _ hb5]; rfl); have tf : ∀ j, w5.frozen? ⟨W1.heap.size, j, none⟩ = false := (fun j => frozen_of_row _ _ _ _ _ hb5); clear hb5; have tz : W1.heap.size < w5.heap.size := (by have := hk5.sz; simp at this; omega); have tz1 : w.heap.size + 1 < w5.heap.size := (by omega); clear hk5; have KB := Lib.hid (((HKR.out.trans K4.out).setCell (p := ⟨W1.heap.size, 4, none⟩) (by simp) (.slice la' ll lc')).trans K5.out); have hb6 := (KB.out.blk (b := w.heap.size + 1) (by omega)).trans HRES.out; have u0 := row_cell hb6 0; have u1 := row_cell hb6 1; have u2 := row_cell hb6 2; have u3 := row_cell hb6 3; have u4 := row_cell hb6 4; have u5 := row_cell hb6 5; simp at u0 u1 u2 u3 u4 u5; have uf : ∀ j, w5.frozen? ⟨w.heap.size + 1, j, none⟩ = false := (fun j => frozen_of_row _ _ _ _ _ hb6); clear hb6))
          have s4 := K4.out.sz
          have s5 : w4.heap.size ≤ w5.heap.size := by have := K5.out.sz; simpa using this
          have FB : ∀ b, (From (W1.heap.size + 1)).S b → ¬ b < W1.heap.size + 1 := fun b (hb : W1.heap.size + 1 ≤ b) h => by omega
          have F4 : Fr (fun k => k < W1.heap.size + 1) w4 w5 := ((Fr.refl _ w4).setCell (Nat.le_refl _) (a := ⟨W1.heap.size, 4, none⟩) (by simp) (.slice la' ll lc')).keep (by simp) K5.out
          have FR : Fr (fun k => k < W1.heap.size + 1) wr w5 := ((Fr.refl _ wr).keep (Nat.le_refl _) K4.out).trans s4 F4
          have ht := HTT.out
          have K6 : Lies w5 (From (W1.heap.size + 1)) (rr + 1) (.mk T.k T.nm T.con T.fn T.nl (T.kids.map φ)) ⟨k, nm, con, fa', fl, fc', la', ll, lc', ra', rl, rc'⟩ := by
            refine built (h := ⟨k, nm, con, fa, fl, fc, la, ll, lc, ra, rl, rc⟩) (KF := K') (KL := KL) (KR := KR) ht (T' := .mk T.k T.nm T.con T.fn T.nl (T.kids.map φ)) ⟨rfl, rfl, rfl, rfl, rfl, List.length_map _⟩ ?_ ?_ ?_ ?_ ?_ ?_
            · exact HTF.out.turn FR (by omega) (fun b _ hb => FB b hb)
            · intro i X hi hX
              exact ((HKF.out i X hi hX).turn FR (by omega) (fun b _ (hb : W1.heap.size + 1 ≤ b ∧ some b ≠ (Value.slice fa' fl fc').ownBlock) => FB b hb.1)).weak (show Sel.le (From (W1.heap.size + 1)) ⟨True, fun b => W1.heap.size + 1 ≤ b ∧ some b ≠ (Value.slice fa' fl fc').ownBlock⟩ from ⟨fun h => h, fun b hb => hb.1⟩)
            · have h1 := hll.1
              rw [List.length_map, kl.out.1] at h1
              exact (h1.weak (From_le (by omega))).turn F4 s5 (fun b _ hb => FB b hb)
            · intro i X hi hX
              exact ((hll.2 i X (part_getmG hi hX)).weak (From_le (by omega))).turn F4 s5 (fun b _ hb => FB b hb)
            · have h1 := hlr.1
              rw [List.length_map, kr.out.1] at h1
              exact h1.weak (From_le (by simp; omega))
            · intro i X hi hX
              exact (hlr.2 i X (part_getmG hi hX)).weak (From_le (by simp; omega))
          refine bodyPost_ret (v := .agg #[.int .i64 k, .string nm, .int .i64 con, .slice fa' fl fc', .slice la' ll lc', .slice ra' rl rc']) (by simp [results, Try.results18, go_sem, u0, u1, u2, u3, u4, u5, tz1]) rfl ⟨⟨k, nm, con, fa', fl, fc', la', ll, lc', ra', rl, rc'⟩, rfl, ?_, ?_⟩
          · refine (K6.turn (N := fun k => k < W1.heap.size + 1) ?_ (by simp) (fun b _ hb => FB b hb)).weak (From_le (by omega))
            iterate 7 refine Fr.setCell ?_ (by simp) (by simp <;> omega) _
            exact Fr.refl _ _
          · have KWW := ((HKW.out.trans K4.out).setCell (p := ⟨W1.heap.size, 4, none⟩) (by simp; omega) (.slice la' ll lc')).trans K5.out
            iterate 7 refine Kp.setCell ?_ (by simp <;> omega) _
            exact KWW
end Go.Proofs.Ytfjflfokmihcpaa
