/- What the program's read answers of bytes. Condition: there are not too many of them. -/
import Derived.Test.YtlhiaompcgdmfaaD9
import Derived.Deep.RegionHeld3
import Derived.OrdersHeld
namespace Go.Proofs.Ytlhiaompcgdmfaa
open Go.RowKit
set_option linter.unusedVariables false
set_option linter.unusedSimpArgs false
theorem bl_und {w : World} {l : List UInt8} {v : Value} (h : BL w A0 l v) : BL w (Und w.heap.size) l v :=
  (h.below goodB (Nat.le_refl _)).weak goodB (show (Und w.heap.size).le ⟨A0.fresh, fun b => A0.S b ∧ b < w.heap.size⟩ from ⟨fun h => h.elim, fun b hb => hb.2⟩)
/-- The boxes of read. -/
theorem rd_start {w : World} {l : List UInt8} {v : Value} (h : BL w A0 l v) (hb : l.length ≤ 1048576) :
    RD ((((w.alloc (.cells #[v] 37)).alloc (.cells #[.slice none 0 0, .slice none 0 0] 25)).alloc (.cells #[.int .i64 0] 3)).alloc (.cells #[.bool false] 4)) w.heap.size w.heap.size (w.heap.size + 1 + 1) (w.heap.size + 1 + 1 + 1) l (.ok 0) := by
  have k1 := (Kp.refl w).alloc (.cells #[v] 37)
  have k2 := k1.alloc (.cells #[.slice none 0 0, .slice none 0 0] 25)
  have k3 := k2.alloc (.cells #[.int .i64 0] 3)
  have k4 := k3.alloc (.cells #[.bool false] 4)
  have a1 := heap_alloc_new w (.cells #[v] 37)
  have a3 := heap_alloc_new ((w.alloc (.cells #[v] 37)).alloc (.cells #[.slice none 0 0, .slice none 0 0] 25)) (.cells #[.int .i64 0] 3)
  have a4 := heap_alloc_new (((w.alloc (.cells #[v] 37)).alloc (.cells #[.slice none 0 0, .slice none 0 0] 25)).alloc (.cells #[.int .i64 0] 3)) (.cells #[.bool false] 4)
  simp only [World.size_alloc] at a3 a4
  exact ⟨⟨v, row_keep ((((Kp.refl _).alloc _).alloc _).alloc _) a1, (bl_und h).keep goodB k4⟩, row_keep ((Kp.refl _).alloc _) a3, a4, ⟨by omega, by omega, by omega, by omega, by omega⟩, ⟨Nat.zero_le _, hb⟩⟩
theorem rd_rows (w : World) (v : Value) :
    ((((w.alloc (.cells #[v] 37)).alloc (.cells #[.slice none 0 0, .slice none 0 0] 25)).alloc (.cells #[.int .i64 0] 3)).alloc (.cells #[.bool false] 4)).heap[w.heap.size]? = some (.cells #[v] 37 (0, 0)) ∧
    ((((w.alloc (.cells #[v] 37)).alloc (.cells #[.slice none 0 0, .slice none 0 0] 25)).alloc (.cells #[.int .i64 0] 3)).alloc (.cells #[.bool false] 4)).heap[w.heap.size + 1]? = some (.cells #[.slice none 0 0, .slice none 0 0] 25 (0, 0)) := by
  have a1 := heap_alloc_new w (.cells #[v] 37)
  have a2 := heap_alloc_new (w.alloc (.cells #[v] 37)) (.cells #[.slice none 0 0, .slice none 0 0] 25)
  simp only [World.size_alloc] at a2
  exact ⟨row_keep ((((Kp.refl _).alloc _).alloc _).alloc _) a1, row_keep (((Kp.refl _).alloc _).alloc _) a2⟩
theorem wp_store_one {P : Program} {o : Oper} {a : Act} {w : World} {K : Act → World → Prop} {Q : Exit → Act → World → Prop} (ty : TypeId) (x y : Operand) (ho : o.op = .store ty x y)
    (g : Nat) (v : Value) (hx : a.eval x = .pointer (some ⟨g, 0, none⟩)) (hy : a.eval y = v) (hv : v.cells = #[v])
    (t : TypeId) (old : Array Value) (hg : w.heap[g]? = some (.cells old t (0, 0))) (hi : (P.info? ty).map (·.size) = some 1)
    (hold : old.size = 1) (h1 : v.oneCell' = true) (h : K (a.put o.dst undef) (w.setRow g #[v])) : o.wp P a w K Q := by
  have hrun : (storeVar ty ⟨g, 0, none⟩ v).run P w = .ok () (w.setRow g #[v]) := by
    have := run_storeCells_from (P := P) g t [v] 0 old w hg (by simp; omega) (fun u hu => by simp at hu; rw [hu]; exact h1)
    cases hq : P.info? ty with
    | none => simp [hq] at hi
    | some i =>
      have hs : 1 = i.size := by simp [hq] at hi; omega
      simp [storeVar, sizeOf, typeInfo, hq, hv, ← hs, this]
  unfold Oper.wp execOp
  simp only [ho, hx, hy, Instr.storeAt, Instr.sureAddr, Sem.run_bind, Sem.run_pure, Result.andThen_ok, hrun]
  exact h
/-- The boxes of read, when all is read. -/
structure RB (N : Nat) (v s1 s2 : Value) (q : Int) (b : Bool) (W : World) : Prop where
  r0 : W.heap[N]? = some (.cells #[v] 37 (0, 0))
  r1 : W.heap[N + 1]? = some (.cells #[s1, s2] 25 (0, 0))
  r2 : W.heap[N + 1 + 1]? = some (.cells #[.int .i64 q] 3 (0, 0))
  r3 : W.heap[N + 1 + 1 + 1]? = some (.cells #[.bool b] 4 (0, 0))
theorem RB.drew {N : Nat} {v s1 s2 : Value} {q : Int} {b : Bool} {W : World} (h : RB N v s1 s2 q b W) : RB N v s1 s2 q b W.drew := ⟨h.r0, h.r1, h.r2, h.r3⟩
theorem RB.set1 {N : Nat} {v s1 s2 : Value} {q : Int} {b : Bool} {W : World} (h : RB N v s1 s2 q b W) : RB N v s1 s2 q b (W.setRow (N + 1) #[s1, s2]) :=
  ⟨(setRow_other _ _ _ _ (by omega)).trans h.r0, setRow_heap _ _ _ _ _ _ h.r1, (setRow_other _ _ _ _ (by omega)).trans h.r2, (setRow_other _ _ _ _ (by omega)).trans h.r3⟩
theorem RB.set2 {N : Nat} {v s1 s2 : Value} {q : Int} {b : Bool} {W : World} (h : RB N v s1 s2 q b W) : RB N v s1 s2 q b (W.setRow (N + 1 + 1) #[.int .i64 q]) :=
  ⟨(setRow_other _ _ _ _ (by omega)).trans h.r0, (setRow_other _ _ _ _ (by omega)).trans h.r1, setRow_heap _ _ _ _ _ _ h.r2, (setRow_other _ _ _ _ (by omega)).trans h.r3⟩
theorem RB.cells {N : Nat} {v s1 s2 : Value} {q : Int} {b : Bool} {W : World} (h : RB N v s1 s2 q b W) : W.cell? ⟨N, 0, none⟩ = some v ∧ W.cell? ⟨N + 1, 0, none⟩ = some s1 ∧ W.cell? ⟨N + 1, 1, none⟩ = some s2 ∧ W.cell? ⟨N + 1 + 1, 0, none⟩ = some (.int .i64 q) ∧ W.cell? ⟨N + 1 + 1 + 1, 0, none⟩ = some (.bool b) :=
  ⟨row_cell h.r0 0, row_cell h.r1 0, row_cell h.r1 1, row_cell h.r2 0, row_cell h.r3 0⟩
theorem RB.start {w1 : World} {N n : Nat} {a : Option Addr} {c : Nat} {q : Int} {b : Bool} {t1 t2 : Value} (h0 : w1.heap[N]? = some (.cells #[.slice a n c] 37 (0, 0))) (h1 : w1.heap[N + 1]? = some (.cells #[t1, t2] 25 (0, 0))) (h2 : w1.heap[N + 1 + 1]? = some (.cells #[.int .i64 q] 3 (0, 0))) (h3 : w1.heap[N + 1 + 1 + 1]? = some (.cells #[.bool b] 4 (0, 0))) (s1 s2 : Value) :
    RB N (.slice a n c) s1 s2 q b ((w1.setCell ⟨N + 1, 0, none⟩ s1).setCell ⟨N + 1, 1, none⟩ s2) := by
  have e : ∀ k, k ≠ N + 1 → ((w1.setCell ⟨N + 1, 0, none⟩ s1).setCell ⟨N + 1, 1, none⟩ s2).heap[k]? = w1.heap[k]? := fun k hk => (Below.heap_setCell _ _ _ _ hk).trans (Below.heap_setCell _ _ _ _ hk)
  exact ⟨(e _ (by omega)).trans h0, heap_setCell_same _ (N + 1) 1 _ _ s2 (heap_setCell_same w1 (N + 1) 0 _ _ s1 h1), (e _ (by omega)).trans h2, (e _ (by omega)).trans h3⟩
theorem read_kp {w W w1 : World} (hk : Kp w W) (hw : WS (w.heap.size + 1 + 1) (w.heap.size + 1 + 1 + 1) W w1) : Kp w w1 := hw.old hk (by omega) (by omega)
/-- What read answers: the module and that all is well, or where the fault is. -/
def ReadP (l : List UInt8) (w : World) (e : Ending) (w' : World) : Prop :=
  ∃ (x : Mo) (a1 : Option Addr) (c1 : Nat) (a2 : Option Addr) (c2 : Nat) (at' : Int) (ok : Bool), e = .returned (.tuple #[.agg #[.slice a1 x.ty.length c1, .slice a2 x.fu.length c2], .int .i64 at', .bool ok]) ∧ Kp w w' ∧
    SL w' (From w.heap.size) x.ty (.slice a1 x.ty.length c1) ∧ FL w' (From w.heap.size) x.fu (.slice a2 x.fu.length c2) ∧
    (match decP l with | .error q => at' = (q : Int) ∧ ok = false | .ok m => ok = true ∧ x = m)
/-- Behind the two last stores. -/
theorem read_end {w w1 : World} (s1 s2 u : Value) (hk : Kp w w1) : Kp w ((((w1.setCell ⟨w.heap.size + 1, 0, none⟩ s1).setCell ⟨w.heap.size + 1, 1, none⟩ s2).drew.setRow (w.heap.size + 1) #[s1, s2]).setRow (w.heap.size + 1 + 1) #[u]) ∧
    Fr (fun k => k = w.heap.size + 1 ∨ k = w.heap.size + 1 + 1) w1 ((((w1.setCell ⟨w.heap.size + 1, 0, none⟩ s1).setCell ⟨w.heap.size + 1, 1, none⟩ s2).drew.setRow (w.heap.size + 1) #[s1, s2]).setRow (w.heap.size + 1 + 1) #[u]) ∧
    w1.heap.size ≤ ((((w1.setCell ⟨w.heap.size + 1, 0, none⟩ s1).setCell ⟨w.heap.size + 1, 1, none⟩ s2).drew.setRow (w.heap.size + 1) #[s1, s2]).setRow (w.heap.size + 1 + 1) #[u]).heap.size := by
  have e : ∀ k, k ≠ w.heap.size + 1 → k ≠ w.heap.size + 1 + 1 → ((((w1.setCell ⟨w.heap.size + 1, 0, none⟩ s1).setCell ⟨w.heap.size + 1, 1, none⟩ s2).drew.setRow (w.heap.size + 1) #[s1, s2]).setRow (w.heap.size + 1 + 1) #[u]).heap[k]? = w1.heap[k]? := fun k h1 h2 =>
    (setRow_other _ _ _ _ h2).trans ((setRow_other _ _ _ _ h1).trans ((Below.heap_setCell _ _ _ _ h1).trans (Below.heap_setCell _ _ _ _ h1)))
  have hs : ((((w1.setCell ⟨w.heap.size + 1, 0, none⟩ s1).setCell ⟨w.heap.size + 1, 1, none⟩ s2).drew.setRow (w.heap.size + 1) #[s1, s2]).setRow (w.heap.size + 1 + 1) #[u]).heap.size = w1.heap.size := by simp
  exact ⟨⟨hk.os, hk.tape, hk.output, by rw [hs]; exact hk.sz, fun k hk1 => (e k (by omega) (by omega)).trans (hk.blk hk1)⟩, fun k _ hn => e k (fun x => hn (.inl x)) (fun x => hn (.inr x)), by rw [hs]; exact Nat.le_refl _⟩
theorem ret_read {fn : Func} {R : Ending → World → Prop} {a : Act} {w : World} {g h n1 n2 k1 k2 : Nat} {b1 b2 : Option Addr} {q : Int} {u : Value} (hfn : fn.results = #[ResultVar.cell 2 25, ResultVar.cell 3 3, ResultVar.tmp 4]) (h2 : a.tmps[2]? = some (.pointer (some ⟨g, 0, none⟩))) (h3 : a.tmps[3]? = some (.pointer (some ⟨h, 0, none⟩))) (h4 : a.tmps[4]? = some u)
    (c0 : w.cell? ⟨g, 0, none⟩ = some (.slice b1 n1 k1)) (c1 : w.cell? ⟨g, 1, none⟩ = some (.slice b2 n2 k2)) (c2 : w.cell? ⟨h, 0, none⟩ = some (.int .i64 q)) (hd : a.defers = [])
    (hR : R (.returned (.tuple #[.agg #[.slice b1 n1 k1, .slice b2 n2 k2], .int .i64 q, u])) w) : bodyPost Try.prog fn R .ret a w := by
  refine bodyPost_ret (by simp [results, hfn, go_sem, h2, h3, h4, c0, c1, c2]; try rfl) hd hR
set_option maxHeartbeats 3200000 in
set_option maxRecDepth 100000 in
theorem c_read (l : List UInt8) (a : Option Addr) (c : Nat) (w : World) (hl : BL w A0 l (.slice a l.length c)) (hb : l.length ≤ 1048576) :
    Calls Try.prog 30 #[.slice a l.length c] w (ReadP l w) := by
  have HRD := Lib.hid (rd_start hl hb)
  have HB := Lib.hid hb
  have HRW := Lib.hid (rd_rows w (.slice a l.length c))
  clear hl
  have HIM := Lib.hid (show (Try.prog.info? 25).map (·.size) = some 2 by kernel_rfl)
  have HII := Lib.hid (show (Try.prog.info? 3).map (·.size) = some 1 by kernel_rfl)
  have HRK := Lib.hid (((((Kp.refl w).alloc (.cells #[.slice a l.length c] 37)).alloc (.cells #[.slice none 0 0, .slice none 0 0] 25)).alloc (.cells #[.int .i64 0] 3)).alloc (.cells #[.bool false] 4))
  cases hst : pMo l 0 with
  | error q =>
    have HST : Hid (stepS pMo l (.ok 0) = .error q) := Lib.hid (by simp only [stepS, hst])
    have HD : Hid (decP l = .error q) := Lib.hid (by simp only [decP, hst])
    clear hst
    go_enter Try.func30, Try.ntmps30
    go_wp2_with (go_at_call 49; (with_reducible refine (c_mo w.heap.size w.heap.size (w.heap.size + 1 + 1) (w.heap.size + 1 + 1 + 1) l _ _ HRD.out).mono ?_); rintro e w1 ⟨x, _, rfl, ⟨a1, c1, a2, c2, rfl, hs, hf⟩, hg, hr, hw⟩; rw [HST.out] at hr; have HG := Lib.hid hg; have HR := Lib.hid hr; have HW := Lib.hid hw; have HSL := Lib.hid hs; have HFL := Lib.hid hf; have HV0 := Lib.hid (hw.heap HRW.out.1 (by omega) (by omega)); have HV1 := Lib.hid (hw.heap HRW.out.2 (by omega) (by omega)); have b0 := row_cell HV0.out 0; obtain ⟨q0, q1⟩ := row2 HV1.out; have f0 := frozen_of_row _ _ 0 _ _ HV1.out; have f1 := frozen_of_row _ _ 1 _ _ HV1.out; have p0 := row_cell hr.ha 0; have p1 := row_cell hr.ho 0; have f2 := frozen_of_row _ _ 0 _ _ hr.ha; simp only [stAt, stOff] at p0 p1 f2; clear hg hr hw hs hf)
    have HB0 := Lib.hid (RB.start (a := a) (c := c) (q := (q : Int)) (b := true) HV0.out HV1.out HR.out.ha HR.out.ho (.slice a1 x.ty.length c1) (.slice a2 x.fu.length c2)).drew
    have HB1 := Lib.hid HB0.out.set1
    have HB2 := Lib.hid HB1.out.set2
    have HKW := Lib.hid (read_kp HRK.out HW.out)
    clear b0 q0 q1 f0 f1 p0 p1 f2
    refine wp_region_held_drew (S := fun w' => w'.cell? ⟨w.heap.size, 0, none⟩ = some (.slice a l.length c) ∧ w'.cell? ⟨w.heap.size + 1, 0, none⟩ = some (.slice a1 x.ty.length c1) ∧ w'.cell? ⟨w.heap.size + 1, 1, none⟩ = some (.slice a2 x.fu.length c2) ∧ w'.cell? ⟨w.heap.size + 1 + 1, 0, none⟩ = some (.int .i64 (q : Int)) ∧ w'.cell? ⟨w.heap.size + 1 + 1 + 1, 0, none⟩ = some (.bool true)) (by kernel_rfl) (HB0.out.cells) (fun hHeld0 => ?_)
    refine wpAnyH_take (i := 0) (oi := { dst := some 12, op := Op.load 25 (Operand.tmp 2), type := 25, pos := "read.go:24", after := #[], guard := none }) (v := ?_) rfl (by kernel_rfl) (by kernel_rfl) (by kernel_rfl) (fun _ _ _ h => h) (Or.inl ⟨by rfl, ?_⟩) (by assumption) ?_
    rotate_left
    · (intro wz hSw; (try dsimp only at hSw); go_simp; first | done | with_reducible rfl)
    try simp only [Act.put, List.setIfInBounds_toArray, List.set_cons_zero, List.set_cons_succ]
    refine wpAnyH_take (i := 1) (oi := { dst := some 13, op := Op.load 3 (Operand.tmp 3), type := 3, pos := "read.go:24", after := #[{ on := 10, ground := Ground.gcOnly Departure.lateStores }], guard := none }) (v := ?_) rfl (by kernel_rfl) (by kernel_rfl) (by kernel_rfl) (fun _ _ _ h => h) (Or.inl ⟨by rfl, ?_⟩) (by assumption) ?_
    rotate_left
    · (intro wz hSw; (try dsimp only at hSw); go_simp; first | done | with_reducible rfl)
    try simp only [Act.put, List.setIfInBounds_toArray, List.set_cons_zero, List.set_cons_succ]
    refine wpAnyH_take (i := 2) (oi := { dst := some 14, op := Op.load 4 (Operand.tmp 5), type := 4, pos := "read.go:24", after := #[], guard := none }) (v := ?_) rfl (by kernel_rfl) (by kernel_rfl) (by kernel_rfl) (fun _ _ _ h => h) (Or.inl ⟨by rfl, ?_⟩) (by assumption) ?_
    rotate_left
    · (intro wz hSw; (try dsimp only at hSw); go_simp; first | done | with_reducible rfl)
    try simp only [Act.put, List.setIfInBounds_toArray, List.set_cons_zero, List.set_cons_succ]
    refine wpAnyH_take (i := 3) (oi := { dst := some 15, op := Op.unOp UnOp.not 4 (Operand.tmp 14), type := 4, pos := "read.go:24", after := #[{ on := 2, ground := Ground.data }], guard := none }) (v := ?_) rfl (by kernel_rfl) (by kernel_rfl) (by kernel_rfl) (fun _ _ _ h => h) (Or.inl ⟨by rfl, ?_⟩) (by assumption) ?_
    rotate_left
    · (intro wz hSw; (try dsimp only at hSw); go_simp; first | done | with_reducible rfl)
    try simp only [Act.put, List.setIfInBounds_toArray, List.set_cons_zero, List.set_cons_succ]
    refine wpAnyH_take (i := 4) (oi := { dst := some 16, op := Op.move (Operand.tmp 15), type := 4, pos := "read.go:24", after := #[{ on := 3, ground := Ground.data }], guard := none }) (v := ?_) rfl (by kernel_rfl) (by kernel_rfl) (by kernel_rfl) (fun _ _ _ h => h) (Or.inl ⟨by rfl, ?_⟩) (by assumption) ?_
    rotate_left
    · (intro wz hSw; (try dsimp only at hSw); go_simp; first | done | with_reducible rfl)
    try simp only [Act.put, List.setIfInBounds_toArray, List.set_cons_zero, List.set_cons_succ]
    refine wpAnyH_take (i := 5) (oi := { dst := some 17, op := Op.load 3 (Operand.tmp 3), type := 3, pos := "read.go:24", after := #[{ on := 4, ground := Ground.guard }], guard := some (4, true) }) (v := undef) rfl (by kernel_rfl) (by kernel_rfl) (by kernel_rfl) (fun _ _ _ h => h) (Or.inr ⟨by rfl, rfl⟩) (by assumption) ?_
    try simp only [Act.put, List.setIfInBounds_toArray, List.set_cons_zero, List.set_cons_succ]
    refine wpAnyH_take (i := 6) (oi := { dst := some 18, op := Op.load 37 (Operand.tmp 1), type := 37, pos := "read.go:24", after := #[{ on := 4, ground := Ground.guard }], guard := some (4, true) }) (v := undef) rfl (by kernel_rfl) (by kernel_rfl) (by kernel_rfl) (fun _ _ _ h => h) (Or.inr ⟨by rfl, rfl⟩) (by assumption) ?_
    try simp only [Act.put, List.setIfInBounds_toArray, List.set_cons_zero, List.set_cons_succ]
    refine wpAnyH_take (i := 7) (oi := { dst := some 19, op := Op.call { callee := Callee.builtin Builtin.len, args := #[Operand.tmp 18], argTypes := #[37] }, type := 3, pos := "read.go:24", after := #[{ on := 6, ground := Ground.data }, { on := 4, ground := Ground.guard }], guard := some (4, true) }) (v := undef) rfl (by kernel_rfl) (by kernel_rfl) (by kernel_rfl) (fun _ _ _ h => h) (Or.inr ⟨by rfl, rfl⟩) (by assumption) ?_
    try simp only [Act.put, List.setIfInBounds_toArray, List.set_cons_zero, List.set_cons_succ]
    refine wpAnyH_take (i := 8) (oi := { dst := some 20, op := Op.binOp BinOp.eql 3 (Operand.tmp 17) (Operand.tmp 19) 3, type := 4, pos := "read.go:24", after := #[{ on := 5, ground := Ground.data }, { on := 7, ground := Ground.data }, { on := 4, ground := Ground.guard }], guard := some (4, true) }) (v := undef) rfl (by kernel_rfl) (by kernel_rfl) (by kernel_rfl) (fun _ _ _ h => h) (Or.inr ⟨by rfl, rfl⟩) (by assumption) ?_
    try simp only [Act.put, List.setIfInBounds_toArray, List.set_cons_zero, List.set_cons_succ]
    refine wpAnyH_take (i := 9) (oi := { dst := some 21, op := Op.pick (Operand.tmp 16) (Operand.tmp 20) (Operand.const (Value.bool false)), type := 4, pos := "read.go:24", after := #[{ on := 4, ground := Ground.data }, { on := 8, ground := Ground.data }], guard := none }) (v := ?_) rfl (by kernel_rfl) (by kernel_rfl) (by kernel_rfl) (fun _ _ _ h => h) (Or.inl ⟨by rfl, ?_⟩) (by assumption) ?_
    rotate_left
    · (intro wz hSw; (try dsimp only at hSw); go_simp; first | done | with_reducible rfl)
    try simp only [Act.put, List.setIfInBounds_toArray, List.set_cons_zero, List.set_cons_succ]
    refine wpAnyH_ready (rs := [10]) (by kernel_rfl) (by simp) ?_
    refine AllReadyH.cons (o := { dst := none, op := Op.store 25 (Operand.tmp 2) (Operand.tmp 12), type := 0, pos := "read.go:24", after := #[{ on := 0, ground := Ground.data }, { on := 4, ground := Ground.chain }, { on := 0, ground := Ground.phase }, { on := 1, ground := Ground.textOnly Departure.lateStores }, { on := 2, ground := Ground.textOnly Departure.inlinedCapture }, { on := 3, ground := Ground.textOnly Departure.inlinedCapture }, { on := 4, ground := Ground.textOnly Departure.inlinedCapture }, { on := 5, ground := Ground.phase }, { on := 6, ground := Ground.textOnly Departure.lateStores }, { on := 7, ground := Ground.textOnly Departure.lateStoresUnsure }, { on := 8, ground := Ground.textOnly Departure.inlinedCapture }, { on := 9, ground := Ground.textOnly Departure.inlinedCapture }], guard := none }) rfl (fun Kw hKw => ?_) AllReadyH.nil
    refine step_go (by rfl) (wp_store_row 25 _ _ (by rfl) (w.heap.size + 1) #[.slice a1 x.ty.length c1, .slice a2 x.fu.length c2] (by rfl) (by rfl) 25 _ HB0.out.r1 HIM.out (by rfl) (by simp [Value.oneCell']) ?_)
    refine hKw.out _ _ (HB1.out.cells) (fun hHeld1 => ?_)
    clear hKw Kw hHeld0
    try simp only [Act.put, List.setIfInBounds_toArray, List.set_cons_zero, List.set_cons_succ]
    refine wpAnyH_ready (rs := [11]) (by kernel_rfl) (by simp) ?_
    refine AllReadyH.cons (o := { dst := none, op := Op.store 3 (Operand.tmp 3) (Operand.tmp 13), type := 0, pos := "read.go:24", after := #[{ on := 1, ground := Ground.data }, { on := 10, ground := Ground.chain }, { on := 0, ground := Ground.phase }, { on := 1, ground := Ground.phase }, { on := 2, ground := Ground.textOnly Departure.inlinedCapture }, { on := 3, ground := Ground.textOnly Departure.inlinedCapture }, { on := 4, ground := Ground.textOnly Departure.inlinedCapture }, { on := 5, ground := Ground.phase }, { on := 6, ground := Ground.textOnly Departure.lateStores }, { on := 7, ground := Ground.textOnly Departure.lateStoresUnsure }, { on := 8, ground := Ground.textOnly Departure.inlinedCapture }, { on := 9, ground := Ground.textOnly Departure.inlinedCapture }, { on := 10, ground := Ground.phase }], guard := none }) rfl (fun Kw hKw => ?_) AllReadyH.nil
    refine step_go (by rfl) ?_
    refine wp_store_one 3 _ _ (by rfl) (w.heap.size + 1 + 1) (.int .i64 (q : Int)) (by rfl) (by rfl) (by rfl) 3 _ HB1.out.r2 HII.out (by rfl) (by rfl) ?_
    refine hKw.out _ _ (HB2.out.cells) (fun hHeld2 => ?_)
    clear hKw Kw hHeld1
    try simp only [Act.put, List.setIfInBounds_toArray, List.set_cons_zero, List.set_cons_succ]
    refine wpAnyH_take (i := 12) (oi := { dst := some 4, op := Op.assign (Operand.tmp 21), type := 4, pos := "read.go:24", after := #[{ on := 9, ground := Ground.data }, { on := 11, ground := Ground.chain }, { on := 0, ground := Ground.phase }, { on := 1, ground := Ground.phase }, { on := 2, ground := Ground.phase }, { on := 3, ground := Ground.phase }, { on := 4, ground := Ground.phase }, { on := 5, ground := Ground.phase }, { on := 6, ground := Ground.phase }, { on := 7, ground := Ground.phase }, { on := 8, ground := Ground.phase }, { on := 9, ground := Ground.phase }, { on := 10, ground := Ground.phase }, { on := 11, ground := Ground.phase }], guard := none }) (v := ?_) rfl (by kernel_rfl) (by kernel_rfl) (by kernel_rfl) (fun _ _ _ h => h) (Or.inl ⟨by rfl, ?_⟩) (by assumption) ?_
    rotate_left
    · (intro wz hSw; (try dsimp only at hSw); go_simp; first | done | with_reducible rfl)
    try simp only [Act.put, List.setIfInBounds_toArray, List.set_cons_zero, List.set_cons_succ]
    refine wpAnyH_done (by kernel_rfl) ?_ _
    go_wp2_with fail
    obtain ⟨e1, e2, e3⟩ := read_end (.slice a1 x.ty.length c1) (.slice a2 x.fu.length c2) (.int .i64 (q : Int)) HKW.out
    obtain ⟨_, z1, z2, z3, _⟩ := HB2.out.cells
    have hw := HW.out.sz
    refine ret_read (by rfl) (by rfl) (by rfl) (by rfl) z1 z2 z3 (by rfl) ⟨x, a1, c1, a2, c2, (q : Int), _, rfl, e1, (HSL.out.turn goodS e2 e3 (fun b _ hb e => by simp [From] at hb; omega)).weak goodS (From_le (by simp; omega)), (HFL.out.turn goodF e2 e3 (fun b _ hb e => by simp [From] at hb; omega)).weak goodF (From_le (by simp; omega)), ?_⟩
    rw [HD.out]
    exact ⟨rfl, rfl⟩
  | ok u =>
    obtain ⟨m, q⟩ := u
    have HST : Hid (stepS pMo l (.ok 0) = .ok q) := Lib.hid (by simp only [stepS, hst])
    have HP := Lib.hid hst
    clear hst
    go_enter Try.func30, Try.ntmps30
    go_wp2_with (go_at_call 49; (with_reducible refine (c_mo w.heap.size w.heap.size (w.heap.size + 1 + 1) (w.heap.size + 1 + 1 + 1) l _ _ HRD.out).mono ?_); rintro e w1 ⟨x, _, rfl, ⟨a1, c1, a2, c2, rfl, hs, hf⟩, hg, hr, hw⟩; rw [HST.out] at hr; have HG := Lib.hid hg; have HR := Lib.hid hr; have HW := Lib.hid hw; have HSL := Lib.hid hs; have HFL := Lib.hid hf; have HV0 := Lib.hid (hw.heap HRW.out.1 (by omega) (by omega)); have HV1 := Lib.hid (hw.heap HRW.out.2 (by omega) (by omega)); have b0 := row_cell HV0.out 0; obtain ⟨q0, q1⟩ := row2 HV1.out; have f0 := frozen_of_row _ _ 0 _ _ HV1.out; have f1 := frozen_of_row _ _ 1 _ _ HV1.out; have p0 := row_cell hr.ha 0; have p1 := row_cell hr.ho 0; have f2 := frozen_of_row _ _ 0 _ _ hr.ha; simp only [stAt, stOff] at p0 p1 f2; clear hg hr hw hs hf)
    have HB0 := Lib.hid (RB.start (a := a) (c := c) (q := (q : Int)) (b := false) HV0.out HV1.out HR.out.ha HR.out.ho (.slice a1 x.ty.length c1) (.slice a2 x.fu.length c2)).drew
    have HB1 := Lib.hid HB0.out.set1
    have HB2 := Lib.hid HB1.out.set2
    have HKW := Lib.hid (read_kp HRK.out HW.out)
    clear b0 q0 q1 f0 f1 p0 p1 f2
    refine wp_region_held_drew (S := fun w' => w'.cell? ⟨w.heap.size, 0, none⟩ = some (.slice a l.length c) ∧ w'.cell? ⟨w.heap.size + 1, 0, none⟩ = some (.slice a1 x.ty.length c1) ∧ w'.cell? ⟨w.heap.size + 1, 1, none⟩ = some (.slice a2 x.fu.length c2) ∧ w'.cell? ⟨w.heap.size + 1 + 1, 0, none⟩ = some (.int .i64 (q : Int)) ∧ w'.cell? ⟨w.heap.size + 1 + 1 + 1, 0, none⟩ = some (.bool false)) (by kernel_rfl) (HB0.out.cells) (fun hHeld0 => ?_)
    refine wpAnyH_take (i := 0) (oi := { dst := some 12, op := Op.load 25 (Operand.tmp 2), type := 25, pos := "read.go:24", after := #[], guard := none }) (v := ?_) rfl (by kernel_rfl) (by kernel_rfl) (by kernel_rfl) (fun _ _ _ h => h) (Or.inl ⟨by rfl, ?_⟩) (by assumption) ?_
    rotate_left
    · (intro wz hSw; (try dsimp only at hSw); go_simp; first | done | with_reducible rfl)
    try simp only [Act.put, List.setIfInBounds_toArray, List.set_cons_zero, List.set_cons_succ]
    refine wpAnyH_take (i := 1) (oi := { dst := some 13, op := Op.load 3 (Operand.tmp 3), type := 3, pos := "read.go:24", after := #[{ on := 10, ground := Ground.gcOnly Departure.lateStores }], guard := none }) (v := ?_) rfl (by kernel_rfl) (by kernel_rfl) (by kernel_rfl) (fun _ _ _ h => h) (Or.inl ⟨by rfl, ?_⟩) (by assumption) ?_
    rotate_left
    · (intro wz hSw; (try dsimp only at hSw); go_simp; first | done | with_reducible rfl)
    try simp only [Act.put, List.setIfInBounds_toArray, List.set_cons_zero, List.set_cons_succ]
    refine wpAnyH_take (i := 2) (oi := { dst := some 14, op := Op.load 4 (Operand.tmp 5), type := 4, pos := "read.go:24", after := #[], guard := none }) (v := ?_) rfl (by kernel_rfl) (by kernel_rfl) (by kernel_rfl) (fun _ _ _ h => h) (Or.inl ⟨by rfl, ?_⟩) (by assumption) ?_
    rotate_left
    · (intro wz hSw; (try dsimp only at hSw); go_simp; first | done | with_reducible rfl)
    try simp only [Act.put, List.setIfInBounds_toArray, List.set_cons_zero, List.set_cons_succ]
    refine wpAnyH_take (i := 3) (oi := { dst := some 15, op := Op.unOp UnOp.not 4 (Operand.tmp 14), type := 4, pos := "read.go:24", after := #[{ on := 2, ground := Ground.data }], guard := none }) (v := ?_) rfl (by kernel_rfl) (by kernel_rfl) (by kernel_rfl) (fun _ _ _ h => h) (Or.inl ⟨by rfl, ?_⟩) (by assumption) ?_
    rotate_left
    · (intro wz hSw; (try dsimp only at hSw); go_simp; first | done | with_reducible rfl)
    try simp only [Act.put, List.setIfInBounds_toArray, List.set_cons_zero, List.set_cons_succ]
    refine wpAnyH_take (i := 4) (oi := { dst := some 16, op := Op.move (Operand.tmp 15), type := 4, pos := "read.go:24", after := #[{ on := 3, ground := Ground.data }], guard := none }) (v := ?_) rfl (by kernel_rfl) (by kernel_rfl) (by kernel_rfl) (fun _ _ _ h => h) (Or.inl ⟨by rfl, ?_⟩) (by assumption) ?_
    rotate_left
    · (intro wz hSw; (try dsimp only at hSw); go_simp; first | done | with_reducible rfl)
    try simp only [Act.put, List.setIfInBounds_toArray, List.set_cons_zero, List.set_cons_succ]
    refine wpAnyH_take (i := 5) (oi := { dst := some 17, op := Op.load 3 (Operand.tmp 3), type := 3, pos := "read.go:24", after := #[{ on := 4, ground := Ground.guard }], guard := some (4, true) }) (v := ?_) rfl (by kernel_rfl) (by kernel_rfl) (by kernel_rfl) (fun _ _ _ h => h) (Or.inl ⟨by rfl, ?_⟩) (by assumption) ?_
    rotate_left
    · (intro wz hSw; (try dsimp only at hSw); go_simp; first | done | with_reducible rfl)
    try simp only [Act.put, List.setIfInBounds_toArray, List.set_cons_zero, List.set_cons_succ]
    refine wpAnyH_take (i := 6) (oi := { dst := some 18, op := Op.load 37 (Operand.tmp 1), type := 37, pos := "read.go:24", after := #[{ on := 4, ground := Ground.guard }], guard := some (4, true) }) (v := ?_) rfl (by kernel_rfl) (by kernel_rfl) (by kernel_rfl) (fun _ _ _ h => h) (Or.inl ⟨by rfl, ?_⟩) (by assumption) ?_
    rotate_left
    · (intro wz hSw; (try dsimp only at hSw); go_simp; first | done | with_reducible rfl)
    try simp only [Act.put, List.setIfInBounds_toArray, List.set_cons_zero, List.set_cons_succ]
    refine wpAnyH_take (i := 7) (oi := { dst := some 19, op := Op.call { callee := Callee.builtin Builtin.len, args := #[Operand.tmp 18], argTypes := #[37] }, type := 3, pos := "read.go:24", after := #[{ on := 6, ground := Ground.data }, { on := 4, ground := Ground.guard }], guard := some (4, true) }) (v := ?_) rfl (by kernel_rfl) (by kernel_rfl) (by kernel_rfl) (fun _ _ _ h => h) (Or.inl ⟨by rfl, ?_⟩) (by assumption) ?_
    rotate_left
    · (intro wz hSw; (try dsimp only at hSw); go_simp; first | done | with_reducible rfl)
    try simp only [Act.put, List.setIfInBounds_toArray, List.set_cons_zero, List.set_cons_succ]
    refine wpAnyH_take (i := 8) (oi := { dst := some 20, op := Op.binOp BinOp.eql 3 (Operand.tmp 17) (Operand.tmp 19) 3, type := 4, pos := "read.go:24", after := #[{ on := 5, ground := Ground.data }, { on := 7, ground := Ground.data }, { on := 4, ground := Ground.guard }], guard := some (4, true) }) (v := ?_) rfl (by kernel_rfl) (by kernel_rfl) (by kernel_rfl) (fun _ _ _ h => h) (Or.inl ⟨by rfl, ?_⟩) (by assumption) ?_
    rotate_left
    · (intro wz hSw; (try dsimp only at hSw); go_simp; first | done | with_reducible rfl)
    try simp only [Act.put, List.setIfInBounds_toArray, List.set_cons_zero, List.set_cons_succ]
    refine wpAnyH_take (i := 9) (oi := { dst := some 21, op := Op.pick (Operand.tmp 16) (Operand.tmp 20) (Operand.const (Value.bool false)), type := 4, pos := "read.go:24", after := #[{ on := 4, ground := Ground.data }, { on := 8, ground := Ground.data }], guard := none }) (v := ?_) rfl (by kernel_rfl) (by kernel_rfl) (by kernel_rfl) (fun _ _ _ h => h) (Or.inl ⟨by rfl, ?_⟩) (by assumption) ?_
    rotate_left
    · (intro wz hSw; (try dsimp only at hSw); go_simp; first | done | with_reducible rfl)
    try simp only [Act.put, List.setIfInBounds_toArray, List.set_cons_zero, List.set_cons_succ]
    refine wpAnyH_ready (rs := [10]) (by kernel_rfl) (by simp) ?_
    refine AllReadyH.cons (o := { dst := none, op := Op.store 25 (Operand.tmp 2) (Operand.tmp 12), type := 0, pos := "read.go:24", after := #[{ on := 0, ground := Ground.data }, { on := 4, ground := Ground.chain }, { on := 0, ground := Ground.phase }, { on := 1, ground := Ground.textOnly Departure.lateStores }, { on := 2, ground := Ground.textOnly Departure.inlinedCapture }, { on := 3, ground := Ground.textOnly Departure.inlinedCapture }, { on := 4, ground := Ground.textOnly Departure.inlinedCapture }, { on := 5, ground := Ground.phase }, { on := 6, ground := Ground.textOnly Departure.lateStores }, { on := 7, ground := Ground.textOnly Departure.lateStoresUnsure }, { on := 8, ground := Ground.textOnly Departure.inlinedCapture }, { on := 9, ground := Ground.textOnly Departure.inlinedCapture }], guard := none }) rfl (fun Kw hKw => ?_) AllReadyH.nil
    refine step_go (by rfl) (wp_store_row 25 _ _ (by rfl) (w.heap.size + 1) #[.slice a1 x.ty.length c1, .slice a2 x.fu.length c2] (by rfl) (by rfl) 25 _ HB0.out.r1 HIM.out (by rfl) (by simp [Value.oneCell']) ?_)
    refine hKw.out _ _ (HB1.out.cells) (fun hHeld1 => ?_)
    clear hKw Kw hHeld0
    try simp only [Act.put, List.setIfInBounds_toArray, List.set_cons_zero, List.set_cons_succ]
    refine wpAnyH_ready (rs := [11]) (by kernel_rfl) (by simp) ?_
    refine AllReadyH.cons (o := { dst := none, op := Op.store 3 (Operand.tmp 3) (Operand.tmp 13), type := 0, pos := "read.go:24", after := #[{ on := 1, ground := Ground.data }, { on := 10, ground := Ground.chain }, { on := 0, ground := Ground.phase }, { on := 1, ground := Ground.phase }, { on := 2, ground := Ground.textOnly Departure.inlinedCapture }, { on := 3, ground := Ground.textOnly Departure.inlinedCapture }, { on := 4, ground := Ground.textOnly Departure.inlinedCapture }, { on := 5, ground := Ground.phase }, { on := 6, ground := Ground.textOnly Departure.lateStores }, { on := 7, ground := Ground.textOnly Departure.lateStoresUnsure }, { on := 8, ground := Ground.textOnly Departure.inlinedCapture }, { on := 9, ground := Ground.textOnly Departure.inlinedCapture }, { on := 10, ground := Ground.phase }], guard := none }) rfl (fun Kw hKw => ?_) AllReadyH.nil
    refine step_go (by rfl) ?_
    refine wp_store_one 3 _ _ (by rfl) (w.heap.size + 1 + 1) (.int .i64 (q : Int)) (by rfl) (by rfl) (by rfl) 3 _ HB1.out.r2 HII.out (by rfl) (by rfl) ?_
    refine hKw.out _ _ (HB2.out.cells) (fun hHeld2 => ?_)
    clear hKw Kw hHeld1
    try simp only [Act.put, List.setIfInBounds_toArray, List.set_cons_zero, List.set_cons_succ]
    refine wpAnyH_take (i := 12) (oi := { dst := some 4, op := Op.assign (Operand.tmp 21), type := 4, pos := "read.go:24", after := #[{ on := 9, ground := Ground.data }, { on := 11, ground := Ground.chain }, { on := 0, ground := Ground.phase }, { on := 1, ground := Ground.phase }, { on := 2, ground := Ground.phase }, { on := 3, ground := Ground.phase }, { on := 4, ground := Ground.phase }, { on := 5, ground := Ground.phase }, { on := 6, ground := Ground.phase }, { on := 7, ground := Ground.phase }, { on := 8, ground := Ground.phase }, { on := 9, ground := Ground.phase }, { on := 10, ground := Ground.phase }, { on := 11, ground := Ground.phase }], guard := none }) (v := ?_) rfl (by kernel_rfl) (by kernel_rfl) (by kernel_rfl) (fun _ _ _ h => h) (Or.inl ⟨by rfl, ?_⟩) (by assumption) ?_
    rotate_left
    · (intro wz hSw; (try dsimp only at hSw); go_simp; first | done | with_reducible rfl)
    try simp only [Act.put, List.setIfInBounds_toArray, List.set_cons_zero, List.set_cons_succ]
    refine wpAnyH_done (by kernel_rfl) ?_ _
    go_wp2_with fail
    obtain ⟨e1, e2, e3⟩ := read_end (.slice a1 x.ty.length c1) (.slice a2 x.fu.length c2) (.int .i64 (q : Int)) HKW.out
    obtain ⟨_, z1, z2, z3, _⟩ := HB2.out.cells
    have hw := HW.out.sz
    have hx : x = m := HG.out 0 m q rfl HP.out
    have hle : q ≤ l.length := HR.out.le.1
    refine ret_read (by rfl) (by rfl) (by rfl) (by rfl) z1 z2 z3 (by rfl) ⟨x, a1, c1, a2, c2, (q : Int), _, rfl, e1, (HSL.out.turn goodS e2 e3 (fun b _ hb e => by simp [From] at hb; omega)).weak goodS (From_le (by simp; omega)), (HFL.out.turn goodF e2 e3 (fun b _ hb e => by simp [From] at hb; omega)).weak goodF (From_le (by simp; omega)), ?_⟩
    have hd : decP l = if q < l.length then .error q else .ok m := by simp only [decP, HP.out]
    rw [hd]
    by_cases hq : q < l.length
    · rw [if_pos hq]; exact ⟨rfl, by rw [beq_eq_false_iff_ne]; omega⟩
    · rw [if_neg hq]; exact ⟨by rw [beq_iff_eq]; omega, hx⟩
end Go.Proofs.Ytlhiaompcgdmfaa
