/- Fill of the reference, with names: where one fits; the law by induction; FillAll. Condition: the type, the names and what stands for them lie in memory. -/
import Derived.Test.YtfjflfokmihcpaaFg2
import Derived.Test.YtfjflfokmihcpaaFg2a
import Derived.Test.YtfjflfokmihcpaaRc
namespace Go.Proofs.Ytfjflfokmihcpaa
open Go.RowKit
set_option linter.unusedVariables false
set_option linter.unusedSimpArgs false
theorem idx_at : ∀ {L : List ByteArray} {s : ByteArray} {i : Nat}, idx L s = some i → L.getD i ByteArray.empty = s ∧ ∀ j, j < i → L.getD j ByteArray.empty ≠ s
  | [], _, _, h => by cases h
  | n :: L, s, i, h => by
    rw [idx] at h
    by_cases e : s = n
    · rw [if_pos e] at h
      cases h
      exact ⟨e.symm, fun j hj => absurd hj (by omega)⟩
    · rw [if_neg e] at h
      cases hx : idx L s with
      | none => rw [hx] at h; cases h
      | some j =>
        rw [hx] at h
        cases h
        obtain ⟨h1, h2⟩ := idx_at hx
        refine ⟨h1, fun q hq => ?_⟩
        cases q with
        | zero => exact fun e2 => e e2.symm
        | succ q =>
          have hq' : q + 1 < j + 1 := hq
          exact h2 q (by omega)
theorem idx_not {L : List ByteArray} {s : ByteArray} (h : idx L s = none) : s ∉ L := fun hm => by
  obtain ⟨j, h1, _⟩ := idx_mem hm
  rw [h] at h1
  cases h1
set_option maxHeartbeats 6400000 in
set_option maxRecDepth 100000 in
theorem fillGh (L : List ByteArray) (na : Option Addr) (nc : Nat) (S : Sel) (As : List Ty) (aa : Option Addr) (ac : Nat) (KA : Nat → Hd) (Ra : Nat) (ii : Nat) (A : Ty) (h : Hd) (w : World)
    (ht : tab w S 9 na L.length nc 1 (fun i => [.string (L.getD i ByteArray.empty)])) (hlL : L.length * 16 ≤ 140737488351232) (ha : LiesAll w A0 Ra As aa ac KA) (hi : idx L h.nm = some ii) (hA : As[ii]? = some A) (h12 : h.k = 12) :
    Calls Try.prog 18 #[h.val, .slice na L.length nc, .slice aa As.length ac] w (FillP Ra A w) := by
  have HNT := Lib.hid ht
  have HA := Lib.hid ha
  have hiL := idx_lt hi
  have HI := Lib.hid (idx_at hi)
  have HAX := Lib.hid hA
  have hiA : ii < As.length := (List.getElem?_eq_some_iff.1 hA).1
  clear ht ha hi hA
  obtain ⟨k, nm, con, fa, fl, fc, la, ll, lc, ra, rl, rc⟩ := h
  simp only at h12 HI
  subst h12
  go_enter Try.func18, Try.ntmps18
  go_wp2_with fail
  go_loopw [7] (fun i wr => ∃ n q : Nat, n ≤ ii ∧ i = .int .i64 n ∧ wr = World.drewN ((w.alloc (.cells #[.int .i64 12, .string nm, .int .i64 con, .slice fa fl fc, .slice la ll lc, .slice ra rl rc] 42)).alloc (.cells #[.int .i64 0, .string ⟨#[]⟩, .int .i64 0, .slice none 0 0, .slice none 0 0, .slice none 0 0] 42)) q) (fun i _ => L.length - (intOf i).toNat)
  case atStart => exact ⟨0, 0, Nat.zero_le _, rfl, rfl⟩
  case round =>
    obtain ⟨n, q, hn, rfl, rfl⟩ := hrel
    have hlt : n < L.length := by omega
    go_wp2_with fail
    obtain ⟨nb, no, hna, hnr⟩ := HNT.out.at (by omega)
    obtain ⟨sn, hsn⟩ : ∃ sn, L.getD n ByteArray.empty = sn := ⟨_, rfl⟩
    have KB : Kp w (World.drewN ((w.alloc (.cells #[.int .i64 12, .string nm, .int .i64 con, .slice fa fl fc, .slice la ll lc, .slice ra rl rc] 42)).alloc (.cells #[.int .i64 0, .string ⟨#[]⟩, .int .i64 0, .slice none 0 0, .slice none 0 0, .slice none 0 0] 42)) q) := (((Kp.refl w).alloc _).alloc _).drewN q
    have hcs : (World.drewN ((w.alloc (.cells #[.int .i64 12, .string nm, .int .i64 con, .slice fa fl fc, .slice la ll lc, .slice ra rl rc] 42)).alloc (.cells #[.int .i64 0, .string ⟨#[]⟩, .int .i64 0, .slice none 0 0, .slice none 0 0, .slice none 0 0] 42)) q).cell? ⟨nb, no + n, none⟩ = some (.string sn) := by
      have := (KB.range (hnr n hlt)) 0 (.string sn) (by rw [hsn]; rfl)
      simpa using this
    have hbx : (World.drewN ((w.alloc (.cells #[.int .i64 12, .string nm, .int .i64 con, .slice fa fl fc, .slice la ll lc, .slice ra rl rc] 42)).alloc (.cells #[.int .i64 0, .string ⟨#[]⟩, .int .i64 0, .slice none 0 0, .slice none 0 0, .slice none 0 0] 42)) q).heap[w.heap.size]? = some (.cells #[.int .i64 12, .string nm, .int .i64 con, .slice fa fl fc, .slice la ll lc, .slice ra rl rc] 42 (0, 0)) := (((Kp.refl _).alloc _).drewN q |>.blk (b := w.heap.size) (by simp)).trans (heap_alloc_new _ _)
    have hc0 := row_cell hbx 0
    have hc1 := row_cell hbx 1
    simp only [List.getElem?_toArray, List.getElem?_cons_zero, List.getElem?_cons_succ] at hc0 hc1
    have HSN := Lib.hid hsn
    subst hna
    have hi1 : ∀ W, (Instr.indexAt 22 (.slice (some ⟨nb, no, none⟩) L.length nc) (.int .i64 (n : Nat))).run Try.prog W = .ok (.pointer (some ⟨nb, no + n, none⟩)) W := fun W => by have := run_index_tabF (w := W) (b := nb) (o := no) (c := nc) Try.underlying22 (m := 1) (by kernel_rfl) hlt; rwa [Nat.mul_one] at this
    clear hsn hnr hbx KB
    by_cases hni : n < ii
    · have hq : (nm.toList == sn.toList) = false := (same_or nm sn).elim (fun x => absurd x.1 (fun e => HI.out.2 n hni (by rw [HSN.out, e]))) (fun x => x.2)
      refine wp_region_held_drew (S := (fun w' : World => w'.cell? ⟨w.heap.size, 0, none⟩ = some (.int .i64 12) ∧ w'.cell? ⟨w.heap.size, 1, none⟩ = some (.string nm) ∧ w'.cell? ⟨nb, no + n, none⟩ = some (.string sn))) (by kernel_rfl) (⟨hc0, hc1, hcs⟩) (fun hHeld0 => ?_)
      refine wpAnyH_take (i := 0) (oi := { dst := some 16, op := Op.fieldAddr 42 (Operand.tmp 3) 0, type := 0, pos := "ref.go:222", after := #[], guard := none }) (v := ?_) rfl (by kernel_rfl) (by kernel_rfl) (by kernel_rfl) (fun _ _ _ h => h) (Or.inl ⟨by rfl, ?_⟩) (by assumption) ?_
      rotate_left
      · (intro wz hSw; (try dsimp only at hSw); go_simp; first | done | with_reducible rfl)
      try simp only [Act.put, List.setIfInBounds_toArray, List.set_cons_zero, List.set_cons_succ]
      refine wpAnyH_take (i := 1) (oi := { dst := some 17, op := Op.load 3 (Operand.tmp 16), type := 3, pos := "ref.go:222", after := #[{ on := 0, ground := Ground.data }], guard := none }) (v := ?_) rfl (by kernel_rfl) (by kernel_rfl) (by kernel_rfl) (fun _ _ _ h => h) (Or.inl ⟨by rfl, ?_⟩) (by assumption) ?_
      rotate_left
      · (intro wz hSw; (try dsimp only at hSw); go_simp; first | done | with_reducible rfl)
      try simp only [Act.put, List.setIfInBounds_toArray, List.set_cons_zero, List.set_cons_succ]
      refine wpAnyH_take (i := 2) (oi := { dst := some 18, op := Op.binOp BinOp.eql 3 (Operand.tmp 17) (Operand.const (Value.int IntKind.i64 12)) 3, type := 4, pos := "ref.go:222", after := #[{ on := 1, ground := Ground.data }], guard := none }) (v := ?_) rfl (by kernel_rfl) (by kernel_rfl) (by kernel_rfl) (fun _ _ _ h => h) (Or.inl ⟨by rfl, ?_⟩) (by assumption) ?_
      rotate_left
      · (intro wz hSw; (try dsimp only at hSw); go_simp; first | done | with_reducible rfl)
      try simp only [Act.put, List.setIfInBounds_toArray, List.set_cons_zero, List.set_cons_succ]
      refine wpAnyH_take (i := 3) (oi := { dst := some 19, op := Op.move (Operand.tmp 18), type := 4, pos := "ref.go:222", after := #[{ on := 2, ground := Ground.data }], guard := none }) (v := ?_) rfl (by kernel_rfl) (by kernel_rfl) (by kernel_rfl) (fun _ _ _ h => h) (Or.inl ⟨by rfl, ?_⟩) (by assumption) ?_
      rotate_left
      · (intro wz hSw; (try dsimp only at hSw); go_simp; first | done | with_reducible rfl)
      try simp only [Act.put, List.setIfInBounds_toArray, List.set_cons_zero, List.set_cons_succ]
      refine wpAnyH_take (i := 4) (oi := { dst := some 20, op := Op.fieldAddr 42 (Operand.tmp 3) 1, type := 0, pos := "ref.go:222", after := #[{ on := 3, ground := Ground.guard }], guard := some (3, true) }) (v := ?_) rfl (by kernel_rfl) (by kernel_rfl) (by kernel_rfl) (fun _ _ _ h => h) (Or.inl ⟨by rfl, ?_⟩) (by assumption) ?_
      rotate_left
      · (intro wz hSw; (try dsimp only at hSw); go_simp; first | done | with_reducible rfl)
      try simp only [Act.put, List.setIfInBounds_toArray, List.set_cons_zero, List.set_cons_succ]
      refine wpAnyH_take (i := 5) (oi := { dst := some 21, op := Op.load 9 (Operand.tmp 20), type := 9, pos := "ref.go:222", after := #[{ on := 4, ground := Ground.data }, { on := 3, ground := Ground.guard }], guard := some (3, true) }) (v := ?_) rfl (by kernel_rfl) (by kernel_rfl) (by kernel_rfl) (fun _ _ _ h => h) (Or.inl ⟨by rfl, ?_⟩) (by assumption) ?_
      rotate_left
      · (intro wz hSw; (try dsimp only at hSw); go_simp; first | done | with_reducible rfl)
      try simp only [Act.put, List.setIfInBounds_toArray, List.set_cons_zero, List.set_cons_succ]
      refine wpAnyH_take (i := 6) (oi := { dst := some 22, op := Op.move (Operand.tmp 1), type := 22, pos := "ref.go:222", after := #[{ on := 3, ground := Ground.guard }], guard := some (3, true) }) (v := ?_) rfl (by kernel_rfl) (by kernel_rfl) (by kernel_rfl) (fun _ _ _ h => h) (Or.inl ⟨by rfl, ?_⟩) (by assumption) ?_
      rotate_left
      · (intro wz hSw; (try dsimp only at hSw); go_simp; first | done | with_reducible rfl)
      try simp only [Act.put, List.setIfInBounds_toArray, List.set_cons_zero, List.set_cons_succ]
      refine wpAnyH_take (i := 7) (oi := { dst := some 23, op := Op.move (Operand.tmp 7), type := 3, pos := "ref.go:222", after := #[{ on := 3, ground := Ground.guard }], guard := some (3, true) }) (v := ?_) rfl (by kernel_rfl) (by kernel_rfl) (by kernel_rfl) (fun _ _ _ h => h) (Or.inl ⟨by rfl, ?_⟩) (by assumption) ?_
      rotate_left
      · (intro wz hSw; (try dsimp only at hSw); go_simp; first | done | with_reducible rfl)
      try simp only [Act.put, List.setIfInBounds_toArray, List.set_cons_zero, List.set_cons_succ]
      refine wpAnyH_take (i := 8) (oi := { dst := some 24, op := Op.indexAddr 22 (Operand.tmp 22) (Operand.tmp 23), type := 0, pos := "ref.go:222", after := #[{ on := 6, ground := Ground.data }, { on := 7, ground := Ground.data }, { on := 3, ground := Ground.guard }], guard := some (3, true) }) (v := ?_) rfl (by kernel_rfl) (by kernel_rfl) (by kernel_rfl) (fun _ _ _ h => h) (Or.inl ⟨by rfl, ?_⟩) (by assumption) ?_
      rotate_left
      · (intro wz hSw; (try dsimp only at hSw); go_simp; first | done | with_reducible rfl)
      try simp only [Act.put, List.setIfInBounds_toArray, List.set_cons_zero, List.set_cons_succ]
      refine wpAnyH_take (i := 9) (oi := { dst := some 25, op := Op.load 9 (Operand.tmp 24), type := 9, pos := "ref.go:222", after := #[{ on := 8, ground := Ground.data }, { on := 3, ground := Ground.guard }], guard := some (3, true) }) (v := ?_) rfl (by kernel_rfl) (by kernel_rfl) (by kernel_rfl) (fun _ _ _ h => h) (Or.inl ⟨by rfl, ?_⟩) (by assumption) ?_
      rotate_left
      · (intro wz hSw; (try dsimp only at hSw); go_simp; first | done | with_reducible rfl)
      try simp only [Act.put, List.setIfInBounds_toArray, List.set_cons_zero, List.set_cons_succ]
      refine wpAnyH_take (i := 10) (oi := { dst := some 26, op := Op.binOp BinOp.eql 9 (Operand.tmp 21) (Operand.tmp 25) 9, type := 4, pos := "ref.go:222", after := #[{ on := 5, ground := Ground.data }, { on := 9, ground := Ground.data }, { on := 3, ground := Ground.guard }], guard := some (3, true) }) (v := ?_) rfl (by kernel_rfl) (by kernel_rfl) (by kernel_rfl) (fun _ _ _ h => h) (Or.inl ⟨by rfl, ?_⟩) (by assumption) ?_
      rotate_left
      · (intro wz hSw; (try dsimp only at hSw); go_simp; first | done | with_reducible rfl)
      try simp only [Act.put, List.setIfInBounds_toArray, List.set_cons_zero, List.set_cons_succ]
      refine wpAnyH_take (i := 11) (oi := { dst := some 27, op := Op.pick (Operand.tmp 19) (Operand.tmp 26) (Operand.const (Value.bool false)), type := 4, pos := "ref.go:222", after := #[{ on := 3, ground := Ground.data }, { on := 10, ground := Ground.data }], guard := none }) (v := ?_) rfl (by kernel_rfl) (by kernel_rfl) (by kernel_rfl) (fun _ _ _ h => h) (Or.inl ⟨by rfl, ?_⟩) (by assumption) ?_
      rotate_left
      · (intro wz hSw; (try dsimp only at hSw); go_simp; first | done | with_reducible rfl)
      try simp only [Act.put, List.setIfInBounds_toArray, List.set_cons_zero, List.set_cons_succ]
      refine wpAnyH_done (by kernel_rfl) ?_ _
      go_wp2_with fail
      go_roundw
      case rel => exact ⟨n + 1, q + 1, by omega, by go_num, rfl⟩
      case measure => simp [intOf]; omega
    · obtain rfl : n = ii := by omega
      have hq : (nm.toList == sn.toList) = true := by
        have e : nm = sn := HI.out.1.symm.trans HSN.out
        rw [e]; simp
      obtain ⟨ab, ao, haa, har⟩ := HA.out.1.at (by omega)
      have HAA := Lib.hid haa
      have HAR := Lib.hid (har n hiA)
      have HLA := Lib.hid (HA.out.2 n A HAX.out)
      clear haa har
      refine wp_region_held_drew (S := (fun w' : World => w'.cell? ⟨w.heap.size, 0, none⟩ = some (.int .i64 12) ∧ w'.cell? ⟨w.heap.size, 1, none⟩ = some (.string nm) ∧ w'.cell? ⟨nb, no + n, none⟩ = some (.string sn))) (by kernel_rfl) (⟨hc0, hc1, hcs⟩) (fun hHeld0 => ?_)
      refine wpAnyH_take (i := 0) (oi := { dst := some 16, op := Op.fieldAddr 42 (Operand.tmp 3) 0, type := 0, pos := "ref.go:222", after := #[], guard := none }) (v := ?_) rfl (by kernel_rfl) (by kernel_rfl) (by kernel_rfl) (fun _ _ _ h => h) (Or.inl ⟨by rfl, ?_⟩) (by assumption) ?_
      rotate_left
      · (intro wz hSw; (try dsimp only at hSw); go_simp; first | done | with_reducible rfl)
      try simp only [Act.put, List.setIfInBounds_toArray, List.set_cons_zero, List.set_cons_succ]
      refine wpAnyH_take (i := 1) (oi := { dst := some 17, op := Op.load 3 (Operand.tmp 16), type := 3, pos := "ref.go:222", after := #[{ on := 0, ground := Ground.data }], guard := none }) (v := ?_) rfl (by kernel_rfl) (by kernel_rfl) (by kernel_rfl) (fun _ _ _ h => h) (Or.inl ⟨by rfl, ?_⟩) (by assumption) ?_
      rotate_left
      · (intro wz hSw; (try dsimp only at hSw); go_simp; first | done | with_reducible rfl)
      try simp only [Act.put, List.setIfInBounds_toArray, List.set_cons_zero, List.set_cons_succ]
      refine wpAnyH_take (i := 2) (oi := { dst := some 18, op := Op.binOp BinOp.eql 3 (Operand.tmp 17) (Operand.const (Value.int IntKind.i64 12)) 3, type := 4, pos := "ref.go:222", after := #[{ on := 1, ground := Ground.data }], guard := none }) (v := ?_) rfl (by kernel_rfl) (by kernel_rfl) (by kernel_rfl) (fun _ _ _ h => h) (Or.inl ⟨by rfl, ?_⟩) (by assumption) ?_
      rotate_left
      · (intro wz hSw; (try dsimp only at hSw); go_simp; first | done | with_reducible rfl)
      try simp only [Act.put, List.setIfInBounds_toArray, List.set_cons_zero, List.set_cons_succ]
      refine wpAnyH_take (i := 3) (oi := { dst := some 19, op := Op.move (Operand.tmp 18), type := 4, pos := "ref.go:222", after := #[{ on := 2, ground := Ground.data }], guard := none }) (v := ?_) rfl (by kernel_rfl) (by kernel_rfl) (by kernel_rfl) (fun _ _ _ h => h) (Or.inl ⟨by rfl, ?_⟩) (by assumption) ?_
      rotate_left
      · (intro wz hSw; (try dsimp only at hSw); go_simp; first | done | with_reducible rfl)
      try simp only [Act.put, List.setIfInBounds_toArray, List.set_cons_zero, List.set_cons_succ]
      refine wpAnyH_take (i := 4) (oi := { dst := some 20, op := Op.fieldAddr 42 (Operand.tmp 3) 1, type := 0, pos := "ref.go:222", after := #[{ on := 3, ground := Ground.guard }], guard := some (3, true) }) (v := ?_) rfl (by kernel_rfl) (by kernel_rfl) (by kernel_rfl) (fun _ _ _ h => h) (Or.inl ⟨by rfl, ?_⟩) (by assumption) ?_
      rotate_left
      · (intro wz hSw; (try dsimp only at hSw); go_simp; first | done | with_reducible rfl)
      try simp only [Act.put, List.setIfInBounds_toArray, List.set_cons_zero, List.set_cons_succ]
      refine wpAnyH_take (i := 5) (oi := { dst := some 21, op := Op.load 9 (Operand.tmp 20), type := 9, pos := "ref.go:222", after := #[{ on := 4, ground := Ground.data }, { on := 3, ground := Ground.guard }], guard := some (3, true) }) (v := ?_) rfl (by kernel_rfl) (by kernel_rfl) (by kernel_rfl) (fun _ _ _ h => h) (Or.inl ⟨by rfl, ?_⟩) (by assumption) ?_
      rotate_left
      · (intro wz hSw; (try dsimp only at hSw); go_simp; first | done | with_reducible rfl)
      try simp only [Act.put, List.setIfInBounds_toArray, List.set_cons_zero, List.set_cons_succ]
      refine wpAnyH_take (i := 6) (oi := { dst := some 22, op := Op.move (Operand.tmp 1), type := 22, pos := "ref.go:222", after := #[{ on := 3, ground := Ground.guard }], guard := some (3, true) }) (v := ?_) rfl (by kernel_rfl) (by kernel_rfl) (by kernel_rfl) (fun _ _ _ h => h) (Or.inl ⟨by rfl, ?_⟩) (by assumption) ?_
      rotate_left
      · (intro wz hSw; (try dsimp only at hSw); go_simp; first | done | with_reducible rfl)
      try simp only [Act.put, List.setIfInBounds_toArray, List.set_cons_zero, List.set_cons_succ]
      refine wpAnyH_take (i := 7) (oi := { dst := some 23, op := Op.move (Operand.tmp 7), type := 3, pos := "ref.go:222", after := #[{ on := 3, ground := Ground.guard }], guard := some (3, true) }) (v := ?_) rfl (by kernel_rfl) (by kernel_rfl) (by kernel_rfl) (fun _ _ _ h => h) (Or.inl ⟨by rfl, ?_⟩) (by assumption) ?_
      rotate_left
      · (intro wz hSw; (try dsimp only at hSw); go_simp; first | done | with_reducible rfl)
      try simp only [Act.put, List.setIfInBounds_toArray, List.set_cons_zero, List.set_cons_succ]
      refine wpAnyH_take (i := 8) (oi := { dst := some 24, op := Op.indexAddr 22 (Operand.tmp 22) (Operand.tmp 23), type := 0, pos := "ref.go:222", after := #[{ on := 6, ground := Ground.data }, { on := 7, ground := Ground.data }, { on := 3, ground := Ground.guard }], guard := some (3, true) }) (v := ?_) rfl (by kernel_rfl) (by kernel_rfl) (by kernel_rfl) (fun _ _ _ h => h) (Or.inl ⟨by rfl, ?_⟩) (by assumption) ?_
      rotate_left
      · (intro wz hSw; (try dsimp only at hSw); go_simp; first | done | with_reducible rfl)
      try simp only [Act.put, List.setIfInBounds_toArray, List.set_cons_zero, List.set_cons_succ]
      refine wpAnyH_take (i := 9) (oi := { dst := some 25, op := Op.load 9 (Operand.tmp 24), type := 9, pos := "ref.go:222", after := #[{ on := 8, ground := Ground.data }, { on := 3, ground := Ground.guard }], guard := some (3, true) }) (v := ?_) rfl (by kernel_rfl) (by kernel_rfl) (by kernel_rfl) (fun _ _ _ h => h) (Or.inl ⟨by rfl, ?_⟩) (by assumption) ?_
      rotate_left
      · (intro wz hSw; (try dsimp only at hSw); go_simp; first | done | with_reducible rfl)
      try simp only [Act.put, List.setIfInBounds_toArray, List.set_cons_zero, List.set_cons_succ]
      refine wpAnyH_take (i := 10) (oi := { dst := some 26, op := Op.binOp BinOp.eql 9 (Operand.tmp 21) (Operand.tmp 25) 9, type := 4, pos := "ref.go:222", after := #[{ on := 5, ground := Ground.data }, { on := 9, ground := Ground.data }, { on := 3, ground := Ground.guard }], guard := some (3, true) }) (v := ?_) rfl (by kernel_rfl) (by kernel_rfl) (by kernel_rfl) (fun _ _ _ h => h) (Or.inl ⟨by rfl, ?_⟩) (by assumption) ?_
      rotate_left
      · (intro wz hSw; (try dsimp only at hSw); go_simp; first | done | with_reducible rfl)
      try simp only [Act.put, List.setIfInBounds_toArray, List.set_cons_zero, List.set_cons_succ]
      refine wpAnyH_take (i := 11) (oi := { dst := some 27, op := Op.pick (Operand.tmp 19) (Operand.tmp 26) (Operand.const (Value.bool false)), type := 4, pos := "ref.go:222", after := #[{ on := 3, ground := Ground.data }, { on := 10, ground := Ground.data }], guard := none }) (v := ?_) rfl (by kernel_rfl) (by kernel_rfl) (by kernel_rfl) (fun _ _ _ h => h) (Or.inl ⟨by rfl, ?_⟩) (by assumption) ?_
      rotate_left
      · (intro wz hSw; (try dsimp only at hSw); go_simp; first | done | with_reducible rfl)
      try simp only [Act.put, List.setIfInBounds_toArray, List.set_cons_zero, List.set_cons_succ]
      refine wpAnyH_done (by kernel_rfl) ?_ _
      obtain ⟨W1, hW1⟩ : ∃ W1, (World.drewN ((w.alloc (.cells #[.int .i64 12, .string nm, .int .i64 con, .slice fa fl fc, .slice la ll lc, .slice ra rl rc] 42)).alloc (.cells #[.int .i64 0, .string ⟨#[]⟩, .int .i64 0, .slice none 0 0, .slice none 0 0, .slice none 0 0] 42)) q).drew = W1 := ⟨_, rfl⟩
      have kx : Kp ((w.alloc (.cells #[.int .i64 12, .string nm, .int .i64 con, .slice fa fl fc, .slice la ll lc, .slice ra rl rc] 42)).alloc (.cells #[.int .i64 0, .string ⟨#[]⟩, .int .i64 0, .slice none 0 0, .slice none 0 0, .slice none 0 0] 42)) W1 := by rw [← hW1]; exact ((Kp.refl _).drewN q).drew
      have KX := Lib.hid kx
      rw [hW1]
      clear hW1 kx hHeld0
      have KW := Lib.hid (show Kp w W1 from (((Kp.refl w).alloc _).alloc _).trans KX.out)
      go_wp2_with (first | ((with_reducible show wpList _ _ _ (⟨some 30, _, _, _, _, _⟩ :: _) _ _); refine wpList_index_tab (d := 30) _ _ _ rfl 42 Try.underlying23 6 rfl _ _ _ _ ao (by rfl) HAA.out n (by rfl) hiA ?_) | ((with_reducible show wpList _ _ _ (⟨some 31, _, _, _, _, _⟩ :: _) _ _); refine wpList_load_ty (d := 31) _ _ rfl _ Try.underlying42 w _ _ ab (ao + n * 6) (by rfl) rfl (by first | rfl | omega) (KA n) HAR.out KW.out rfl ?_) | (go_at_call 18; (with_reducible refine (c_Fill0 Ra A (KA n) _ (HLA.out.keep KW.out)).mono ?_); rintro e w6 ⟨⟨k', nm', con', fa', fl', fc', la', ll', lc', ra', rl', rc'⟩, rfl, hli, hk6⟩; have hb6 := ((KX.out.trans hk6).blk (b := w.heap.size + 1) (by simp)).trans (heap_at (by simp)); have HB6 := Lib.hid hb6; have HLI := Lib.hid hli; have HK6 := Lib.hid hk6; clear hli hk6 hb6) | ((with_reducible show wpList _ _ _ (⟨none, .store _ (.tmp 6) (.tmp 32), _, _, _, _⟩ :: _) _ _); refine wpList_store_rowK (by rfl) 42 _ _ (by rfl) (w.heap.size + 1) #[.int .i64 k', .string nm', .int .i64 con', .slice fa' fl' fc', .slice la' ll' lc', .slice ra' rl' rc'] (by rfl) (by rfl) 42 _ HB6.out (by exact sizeT) (by rfl) (by simp [Value.oneCell']) ?_; intro w7 hb7 hke; obtain ⟨u0, u1, u2, u3, u4, u5, us⟩ := row6 hb7; have HKE := Lib.hid hke; clear hke hb7))
      refine bodyPost_ret (v := .agg #[.int .i64 k', .string nm', .int .i64 con', .slice fa' fl' fc', .slice la' ll' lc', .slice ra' rl' rc']) (by simp [results, Try.results18, go_sem, u0, u1, u2, u3, u4, u5]) rfl ⟨⟨k', nm', con', fa', fl', fc', la', ll', lc', ra', rl', rc'⟩, rfl, ?_, ?_⟩
      · have hs := HKE.out.2.2.2.1
        have hz := KX.out.sz
        simp only [World.size_alloc] at hz
        exact (HLI.out.turn HKE.out.fr hs (fun b _ (hb : W1.heap.size ≤ b) (he : b = w.heap.size + 1) => by omega)).weak (From_le (by omega))
      · exact HKE.out.old (KW.out.trans HK6.out) (by omega)
/-- Fill, whatever the names are. -/
theorem c_Fill (w0 : World) (L : List ByteArray) (na : Option Addr) (nc : Nat) (S : Sel) (As : List Ty) (aa : Option Addr) (ac : Nat) (KA : Nat → Hd) (Ra : Nat) (hLA : L.length ≤ As.length)
    (ht : tab w0 S 9 na L.length nc 1 (fun i => [.string (L.getD i ByteArray.empty)])) (hlL : L.length * 16 ≤ 140737488351232) (ha : LiesAll w0 A0 Ra As aa ac KA) :
    ∀ (r : Nat) (T : Ty) (h : Hd) (W : World), Kp w0 W → Lies W A0 r T h → Calls Try.prog 18 #[h.val, .slice na L.length nc, .slice aa As.length ac] W (FillP (r + Ra) (fill (stand L As) r T) W)
  | 0, _, _, _, _, hl => hl.elim
  | r + 1, T, h, W, hk, hl => by
    obtain ⟨K, t, hh⟩ := hl
    have ek := t.ek
    have en := t.en
    have miss : (if T.k = 12 then stand L As T.nm else none) = none → (h.k = 12 → h.nm ∉ L) → Calls Try.prog 18 #[h.val, .slice na L.length nc, .slice aa As.length ac] W (FillP (r + 1 + Ra) (fill (stand L As) (r + 1) T) W) := by
      intro hm hx
      rw [fill_miss hm, show r + 1 + Ra = r + Ra + 1 by omega]
      have cf : ∀ (X : Ty) (hx : Hd) (W' : World), Kp W W' → Lies W' A0 r X hx → Calls Try.prog 18 #[hx.val, .slice na L.length nc, .slice aa As.length ac] W' (FillP (r + Ra) (fill (stand L As) r X) W') :=
        fun X hx W' hk' hl' => c_Fill w0 L na nc S As aa ac KA Ra hLA ht hlL ha r X hx W' (hk.trans hk') hl'
      by_cases h0 : 0 < h.fl
      · exact fillGb L na nc S _ (fill (stand L As) r) (r + Ra) r T h K W t hh h0 cf (ht.keep hk) hlL hx
      · exact fillGa L na nc S _ (fill (stand L As) r) (r + Ra) r T h K W t hh h0 cf (ht.keep hk) hlL hx
    by_cases h12 : T.k = 12
    · cases hi : idx L h.nm with
      | none =>
        refine miss ?_ (fun _ => idx_not hi)
        rw [if_pos h12, en]
        unfold stand
        rw [hi]
        rfl
      | some i =>
        have hlt := idx_lt hi
        have hA : As[i]? = some As[i] := List.getElem?_eq_getElem (by omega)
        rw [fill_hit h12 (A := As[i]) (by rw [en]; unfold stand; rw [hi]; exact hA)]
        refine (fillGh L na nc S As aa ac KA Ra i As[i] h W (ht.keep hk) hlL (ha.keep hk) hi hA (ek.symm.trans h12)).mono ?_
        rintro e w' ⟨h', e1, e2, e3⟩
        exact ⟨h', e1, e2.mono (by omega), e3⟩
    · exact miss (by rw [if_neg h12]) (fun e => absurd (ek.trans e) h12)
/-- FillAll, whatever the names are. -/
theorem c_FillAll (w0 : World) (L : List ByteArray) (na : Option Addr) (nc : Nat) (S : Sel) (As : List Ty) (aa : Option Addr) (ac : Nat) (KA : Nat → Hd) (Ra : Nat) (hLA : L.length ≤ As.length)
    (ht : tab w0 S 9 na L.length nc 1 (fun i => [.string (L.getD i ByteArray.empty)])) (hlL : L.length * 16 ≤ 140737488351232) (ha : LiesAll w0 A0 Ra As aa ac KA)
    (r : Nat) (l : List Ty) (ad : Option Addr) (c : Nat) (K : Nat → Hd) (W : World) (hk : Kp w0 W) (hl : LiesAll W A0 r l ad c K) (hb : l.length * 104 ≤ 140737488351232) :
    Calls Try.prog 16 #[.slice ad l.length c, .slice na L.length nc, .slice aa As.length ac] W fun e w' => ∃ ad c K', e = .returned (.slice ad l.length c) ∧ LiesAll w' (From W.heap.size) (r + Ra) (l.map (fill (stand L As) r)) ad c K' ∧ Kp W w' :=
  c_FillAllG _ _ w0 (fill (stand L As) r) r (r + Ra) (fun X hx W' hk' hl' => c_Fill w0 L na nc S As aa ac KA Ra hLA ht hlL ha r X hx W' hk' hl') l _ rfl ad c K W hk hl hb
end Go.Proofs.Ytfjflfokmihcpaa
