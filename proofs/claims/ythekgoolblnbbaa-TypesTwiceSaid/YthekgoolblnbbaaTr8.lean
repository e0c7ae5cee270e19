/- A region of TypesTwice: one statement that puts two types into another. Condition: the types lie in memory. -/
import Derived.Test.YthekgoolblnbbaaTw0
import Derived.Test.YthekgoolblnbbaaInv
namespace Go.Proofs.Ythekgoolblnbbaa
open Go.RowKit
set_option linter.unusedVariables false
set_option linter.unusedSimpArgs false
def o8_0 : Oper := { dst := some 67, op := Op.load 25 (Operand.tmp 5), type := 25, pos := "law.go:121", after := #[], guard := none }
def o8_1 : Oper := { dst := some 68, op := Op.call { callee := Callee.value (Operand.func 13), args := #[Operand.tmp 67], argTypes := #[25] }, type := 25, pos := "law.go:121", after := #[{ on := 0, ground := Ground.data }], guard := none }
def o8_2 : Oper := { dst := some 69, op := Op.move (Operand.tmp 3), type := 9, pos := "law.go:121", after := #[], guard := none }
def o8_3 : Oper := { dst := some 70, op := Op.move (Operand.tmp 4), type := 9, pos := "law.go:121", after := #[], guard := none }
def o8_4 : Oper := { dst := some 71, op := Op.buildSlice 41 2 #[(0, Operand.tmp 69), (1, Operand.tmp 70)], type := 41, pos := "law.go:121", after := #[{ on := 2, ground := Ground.data }, { on := 3, ground := Ground.data }], guard := none }
def o8_5 : Oper := { dst := some 72, op := Op.load 25 (Operand.tmp 15), type := 25, pos := "law.go:121", after := #[], guard := none }
def o8_6 : Oper := { dst := some 73, op := Op.call { callee := Callee.value (Operand.func 13), args := #[Operand.tmp 72], argTypes := #[25] }, type := 25, pos := "law.go:121", after := #[{ on := 5, ground := Ground.data }, { on := 1, ground := Ground.chain }], guard := none }
def o8_7 : Oper := { dst := some 74, op := Op.load 25 (Operand.tmp 7), type := 25, pos := "law.go:121", after := #[], guard := none }
def o8_8 : Oper := { dst := some 75, op := Op.call { callee := Callee.value (Operand.func 13), args := #[Operand.tmp 74], argTypes := #[25] }, type := 25, pos := "law.go:121", after := #[{ on := 7, ground := Ground.data }, { on := 6, ground := Ground.chain }], guard := none }
def o8_9 : Oper := { dst := some 76, op := Op.buildSlice 23 2 #[(0, Operand.tmp 73), (1, Operand.tmp 75)], type := 23, pos := "law.go:121", after := #[{ on := 6, ground := Ground.data }, { on := 8, ground := Ground.data }], guard := none }
def o8_10 : Oper := { dst := some 77, op := Op.call { callee := Callee.value (Operand.func 29), args := #[Operand.tmp 68, Operand.tmp 71, Operand.tmp 76], argTypes := #[25, 41, 23] }, type := 49, pos := "law.go:121", after := #[{ on := 1, ground := Ground.data }, { on := 4, ground := Ground.data }, { on := 9, ground := Ground.data }, { on := 8, ground := Ground.chain }], guard := none }
def o8_11 : Oper := { dst := some 66, op := Op.move (Operand.tmp 77), type := 49, pos := "law.go:121", after := #[{ on := 10, ground := Ground.data }], guard := none }
def o8_12 : Oper := { dst := some 78, op := Op.extract (Operand.tmp 66) 0, type := 25, pos := "law.go:121", after := #[{ on := 11, ground := Ground.data }], guard := none }
def o8_13 : Oper := { dst := some 79, op := Op.extract (Operand.tmp 66) 1, type := 28, pos := "law.go:121", after := #[{ on := 11, ground := Ground.data }, { on := 15, ground := Ground.gcOnly Departure.lateStores }], guard := none }
def o8_14 : Oper := { dst := some 17, op := Op.alloc 25, type := 0, pos := "law.go:121", after := #[], guard := none }
def o8_15 : Oper := { dst := none, op := Op.store 25 (Operand.tmp 17) (Operand.tmp 78), type := 0, pos := "law.go:121", after := #[{ on := 14, ground := Ground.data }, { on := 12, ground := Ground.data }, { on := 10, ground := Ground.chain }, { on := 0, ground := Ground.phase }, { on := 1, ground := Ground.phase }, { on := 2, ground := Ground.phase }, { on := 3, ground := Ground.phase }, { on := 4, ground := Ground.phase }, { on := 5, ground := Ground.phase }, { on := 6, ground := Ground.phase }, { on := 7, ground := Ground.phase }, { on := 8, ground := Ground.phase }, { on := 9, ground := Ground.phase }, { on := 10, ground := Ground.phase }, { on := 11, ground := Ground.phase }, { on := 12, ground := Ground.phase }, { on := 13, ground := Ground.textOnly Departure.lateStores }, { on := 14, ground := Ground.phase }], guard := none }
def o8_16 : Oper := { dst := some 18, op := Op.assign (Operand.tmp 79), type := 28, pos := "law.go:121", after := #[{ on := 13, ground := Ground.data }, { on := 15, ground := Ground.chain }, { on := 0, ground := Ground.phase }, { on := 1, ground := Ground.phase }, { on := 2, ground := Ground.phase }, { on := 3, ground := Ground.phase }, { on := 4, ground := Ground.phase }, { on := 5, ground := Ground.phase }, { on := 6, ground := Ground.phase }, { on := 7, ground := Ground.phase }, { on := 8, ground := Ground.phase }, { on := 9, ground := Ground.phase }, { on := 10, ground := Ground.phase }, { on := 11, ground := Ground.phase }, { on := 12, ground := Ground.phase }, { on := 13, ground := Ground.phase }, { on := 14, ground := Ground.phase }, { on := 15, ground := Ground.phase }], guard := none }
def rg8 : Array Oper := #[o8_0, o8_1, o8_2, o8_3, o8_4, o8_5, o8_6, o8_7, o8_8, o8_9, o8_10, o8_11, o8_12, o8_13, o8_14, o8_15, o8_16]
def W8 : List Nat := [67, 68, 69, 70, 71, 72, 73, 74, 75, 76, 77, 66, 78, 79, 17, 18]
structure G8 (wB : World) (R1 R2 R' : Nat) (T A B X : Ty) (q : Int) (h g gk : Hd) (m n : ByteArray) (l : Nat → Bool) (v : Nat → Value) (w : World) : Prop where
  kp : Kp wB w
  fc : l 15 = true → l 14 = true
  f0 : l 0 = true → v 67 = h.val
  f1 : l 1 = true → ∃ h1 : Hd, v 68 = h1.val ∧ (l 15 = false → Lies w A0 R1 T h1)
  f2 : l 2 = true → v 69 = .string m
  f3 : l 3 = true → v 70 = .string n
  f4 : l 4 = true → ∃ g1 : Nat, v 71 = .slice (some ⟨g1, 0, none⟩) 2 2 ∧ (l 15 = false → w.heap[g1]? = some (.cells #[.string m, .string n] 9 (0, 0)))
  f5 : l 5 = true → v 72 = g.val
  f6 : l 6 = true → ∃ h2 : Hd, v 73 = h2.val ∧ (l 15 = false → Lies w A0 R2 A h2)
  f7 : l 7 = true → v 74 = gk.val
  f8 : l 8 = true → ∃ h2 : Hd, v 75 = h2.val ∧ (l 15 = false → Lies w A0 R2 B h2)
  f9 : l 9 = true → ∃ (h2 h3 : Hd) (g2 : Nat), v 76 = .slice (some ⟨g2, 0, none⟩) 2 2 ∧ (l 15 = false → Lies w A0 R2 A h2 ∧ Lies w A0 R2 B h3 ∧ w.heap[g2]? = some (.cells #[.int .i64 h2.k, .string h2.nm, .int .i64 h2.con, .slice h2.fa h2.fl h2.fc, .slice h2.la h2.ll h2.lc, .slice h2.ra h2.rl h2.rc, .int .i64 h3.k, .string h3.nm, .int .i64 h3.con, .slice h3.fa h3.fl h3.fc, .slice h3.la h3.ll h3.lc, .slice h3.ra h3.rl h3.rc] 25 (0, 0)))
  f10 : l 10 = true → ∃ h' : Hd, v 77 = .tuple #[h'.val, .int .i64 q] ∧ (l 14 = false → Lies w A0 R' X h') ∧ (l 14 = true → ∀ ga, v 17 = .pointer (some ⟨ga, 0, none⟩) → Lies w ⟨False, fun b => b ≠ ga⟩ R' X h')
  f11 : l 11 = true → l 10 = true ∧ v 66 = v 77
  f12 : l 12 = true → l 10 = true ∧ ∃ hv, v 77 = .tuple #[hv, .int .i64 q] ∧ v 78 = hv
  f13 : l 13 = true → v 79 = .int .i64 q
  f14 : l 14 = true → ∃ ga, v 17 = .pointer (some ⟨ga, 0, none⟩) ∧ wB.heap.size ≤ ga ∧ ga < w.heap.size ∧ (l 15 = false → w.heap[ga]? = some (.cells #[.int .i64 0, .string ⟨#[]⟩, .int .i64 0, .slice none 0 0, .slice none 0 0, .slice none 0 0] 25 (0, 0)))
  f15 : l 15 = true → l 10 = true ∧ ∃ (h' : Hd) (ga : Nat), v 17 = .pointer (some ⟨ga, 0, none⟩) ∧ wB.heap.size ≤ ga ∧ w.heap[ga]? = some (.cells #[.int .i64 h'.k, .string h'.nm, .int .i64 h'.con, .slice h'.fa h'.fl h'.fc, .slice h'.la h'.ll h'.lc, .slice h'.ra h'.rl h'.rc] 25 (0, 0)) ∧ Lies w A0 R' X h'
  f16 : l 16 = true → v 18 = .int .i64 q
theorem G8.keep {wB : World} {R1 R2 R' : Nat} {T A B X : Ty} {q : Int} {h g gk : Hd} {m n : ByteArray} {l : Nat → Bool} {v : Nat → Value} {w w' : World} (G : G8 wB R1 R2 R' T A B X q h g gk m n l v w) (k : Kp w w') : G8 wB R1 R2 R' T A B X q h g gk m n l v w' where
  kp := G.kp.trans k
  fc := G.fc
  f0 := G.f0
  f1 := fun e => let ⟨h1, a, b⟩ := G.f1 e; ⟨h1, a, fun q => (b q).keep k⟩
  f2 := G.f2
  f3 := G.f3
  f4 := fun e => let ⟨g1, a, b⟩ := G.f4 e; ⟨g1, a, fun q => (k.blk (Array.getElem?_eq_some_iff.1 (b q)).1).trans (b q)⟩
  f5 := G.f5
  f6 := fun e => let ⟨h1, a, b⟩ := G.f6 e; ⟨h1, a, fun q => (b q).keep k⟩
  f7 := G.f7
  f8 := fun e => let ⟨h1, a, b⟩ := G.f8 e; ⟨h1, a, fun q => (b q).keep k⟩
  f9 := fun e => let ⟨h2, h3, g2, a, b⟩ := G.f9 e; ⟨h2, h3, g2, a, fun q => ⟨(b q).1.keep k, (b q).2.1.keep k, (k.blk (Array.getElem?_eq_some_iff.1 (b q).2.2).1).trans (b q).2.2⟩⟩
  f10 := fun e => let ⟨h', a, b, c⟩ := G.f10 e; ⟨h', a, fun q => (b q).keep k, fun q g z => (c q g z).keep k⟩
  f11 := G.f11
  f12 := G.f12
  f13 := G.f13
  f14 := fun e => let ⟨ga, a, b, c, d⟩ := G.f14 e; ⟨ga, a, b, Nat.lt_of_lt_of_le c k.sz, fun q => (k.blk c).trans (d q)⟩
  f15 := fun e => let ⟨e0, h', ga, a, b, c, d⟩ := G.f15 e; ⟨e0, h', ga, a, b, (k.blk (Array.getElem?_eq_some_iff.1 c).1).trans c, d.keep k⟩
  f16 := G.f16
set_option maxRecDepth 100000 in
set_option maxHeartbeats 3200000 in
theorem reg8 (a0 : Act) (w wB : World) {id : Nat} {Q : Exit → Act → World → Prop} (R1 R2 : Nat) (T A B : Ty) (h g gk : Hd) (m n : ByteArray) (bT bA bB : Nat) (hz : ∀ k ∈ W8, k < a0.tmps.size) (hk : Kp wB w)
    (eT : a0.eval (.tmp 5) = .pointer (some ⟨bT, 0, none⟩)) (rT : wB.heap[bT]? = some (.cells #[.int .i64 h.k, .string h.nm, .int .i64 h.con, .slice h.fa h.fl h.fc, .slice h.la h.ll h.lc, .slice h.ra h.rl h.rc] 25 (0, 0)))
    (eA0 : a0.eval (.tmp 15) = .pointer (some ⟨bA, 0, none⟩)) (rA0 : wB.heap[bA]? = some (.cells #[.int .i64 g.k, .string g.nm, .int .i64 g.con, .slice g.fa g.fl g.fc, .slice g.la g.ll g.lc, .slice g.ra g.rl g.rc] 25 (0, 0)))
    (eA1 : a0.eval (.tmp 7) = .pointer (some ⟨bB, 0, none⟩)) (rA1 : wB.heap[bB]? = some (.cells #[.int .i64 gk.k, .string gk.nm, .int .i64 gk.con, .slice gk.fa gk.fl gk.fc, .slice gk.la gk.ll gk.lc, .slice gk.ra gk.rl gk.rc] 25 (0, 0)))
    (eN0 : a0.eval (.tmp 3) = .string m) (sN0 : m.size ≤ 140737488351232)
    (eN1 : a0.eval (.tmp 4) = .string n) (sN1 : n.size ≤ 140737488351232)
    (lT : Lies wB A0 R1 T h) (lA0 : Lies wB A0 R2 A g) (lA1 : Lies wB A0 R2 B gk)
    (hend : ∀ (v : Nat → Value) (w' : World) (h' : Hd) (ga : Nat), v 17 = .pointer (some ⟨ga, 0, none⟩) → v 18 = .int .i64 (subE T [m, n] [A, B]) → wB.heap.size ≤ ga → w'.heap[ga]? = some (.cells #[.int .i64 h'.k, .string h'.nm, .int .i64 h'.con, .slice h'.fa h'.fl h'.fc, .slice h'.la h'.ll h'.lc, .slice h'.ra h'.rl h'.rc] 25 (0, 0)) → Lies w' A0 (R1 + R2 + 1) (putX R1 T [m, n] [A, B]) h' → Kp wB w' → Q .normal (W8.foldl (fun b k => b.put (some k) (v k)) a0) w') :
    (Code.region id rg8 true).wp Try.prog Q a0 w := by
  have HEND := Lib.hid hend
  clear hend
  refine wp_region_inv (by kernel_rfl) (fun l a w => ∃ v, Slots a0 W8 v a ∧ G8 wB R1 R2 (R1 + R2 + 1) T A B (putX R1 T [m, n] [A, B]) (subE T [m, n] [A, B]) h g gk m n l v w) (edges_back (by kernel_rfl)) ⟨_, Slots.start a0 _, ?_⟩ ?_ ?_
  · exact ⟨hk.drew, (fun e => by cases e), (fun e => by cases e), (fun e => by cases e), (fun e => by cases e), (fun e => by cases e), (fun e => by cases e), (fun e => by cases e), (fun e => by cases e), (fun e => by cases e), (fun e => by cases e), (fun e => by cases e), (fun e => by cases e), (fun e => by cases e), (fun e => by cases e), (fun e => by cases e), (fun e => by cases e), (fun e => by cases e), (fun e => by cases e)⟩
  · intro i o l a w1 ho hl hd ⟨v, hS, hG⟩
    match i, ho, hl with
    | 0, ho, hl =>
      obtain rfl : o8_0 = o := Option.some.inj ho
      refine wpOp_step ho (fun K hK => step_go rfl ?_)
      refine wp_load_row 25 _ rfl bT ((hS.old (by decide)).trans eT) 25 #[.int .i64 h.k, .string h.nm, .int .i64 h.con, .slice h.fa h.fl h.fc, .slice h.la h.ll h.lc, .slice h.ra h.rl h.rc] (0, 0) _ ((hG.kp.blk (Array.getElem?_eq_some_iff.1 rT).1).trans rT) Try.underlying25 rfl (by kernel_rfl) (hK _ _ ⟨_, hS.put (by decide) hz _, ?_⟩)
      exact ⟨hG.kp, hG.fc, fun _ => rfl, hG.f1, hG.f2, hG.f3, hG.f4, hG.f5, hG.f6, hG.f7, hG.f8, hG.f9, hG.f10, hG.f11, hG.f12, hG.f13, hG.f14, hG.f15, hG.f16⟩
    | 1, ho, hl =>
      obtain rfl : o8_1 = o := Option.some.inj ho
      refine wpOp_step ho (fun K hK => step_go rfl ?_)
      have e0 := (hS.ev 67 (by decide)).trans (hG.f0 (hd ⟨0, .data⟩ (by simp [o8_1]) rfl))
      refine step_call rfl Try.func13 (by kernel_rfl) (by kernel_rfl) (vals := #[h.val]) (by simp [e0]) ((c_own R1 T h w1 (lT.keep hG.kp)).mono (fun e w' ⟨h1, e1, e2, e3⟩ => ⟨_, e1, hK _ _ ⟨_, hS.put (by decide) hz _, ?_⟩⟩))
      have hG' := hG.keep e3
      exact ⟨hG'.kp, hG'.fc, hG'.f0, fun _ => ⟨h1, rfl, fun _ => e2.weak (A0_le _)⟩, hG'.f2, hG'.f3, hG'.f4, hG'.f5, hG'.f6, hG'.f7, hG'.f8, hG'.f9, hG'.f10, hG'.f11, hG'.f12, hG'.f13, hG'.f14, hG'.f15, hG'.f16⟩
    | 2, ho, hl =>
      obtain rfl : o8_2 = o := Option.some.inj ho
      refine wpOp_step ho (fun K hK => step_go rfl ?_)
      have e0 := (hS.old (k := 3) (by decide)).trans eN0
      refine step_val (w' := w1) (.string m) (by simp [execOp, o8_2, e0]) (hK _ _ ⟨_, hS.put (by decide) hz _, ?_⟩)
      exact ⟨hG.kp, hG.fc, hG.f0, hG.f1, fun _ => rfl, hG.f3, hG.f4, hG.f5, hG.f6, hG.f7, hG.f8, hG.f9, hG.f10, hG.f11, hG.f12, hG.f13, hG.f14, hG.f15, hG.f16⟩
    | 3, ho, hl =>
      obtain rfl : o8_3 = o := Option.some.inj ho
      refine wpOp_step ho (fun K hK => step_go rfl ?_)
      have e0 := (hS.old (k := 4) (by decide)).trans eN1
      refine step_val (w' := w1) (.string n) (by simp [execOp, o8_3, e0]) (hK _ _ ⟨_, hS.put (by decide) hz _, ?_⟩)
      exact ⟨hG.kp, hG.fc, hG.f0, hG.f1, hG.f2, fun _ => rfl, hG.f4, hG.f5, hG.f6, hG.f7, hG.f8, hG.f9, hG.f10, hG.f11, hG.f12, hG.f13, hG.f14, hG.f15, hG.f16⟩
    | 4, ho, hl =>
      obtain rfl : o8_4 = o := Option.some.inj ho
      refine wpOp_step ho (fun K hK => step_go rfl ?_)
      have e0 := (hS.ev 69 (by decide)).trans (hG.f2 (hd ⟨2, .data⟩ (by simp [o8_4]) rfl))
      have e1 := (hS.ev 70 (by decide)).trans (hG.f3 (hd ⟨3, .data⟩ (by simp [o8_4]) rfl))
      refine step_slice 41 9 2 _ rfl Try.underlying41 #[.string m, .string n] (pv := [(0, .string m), (1, .string n)]) (by simp [e0, e1]) (by kernel_rfl) (hK _ _ ⟨_, hS.put (by decide) hz _, ?_⟩)
      have hG' := hG.keep ((Kp.refl w1).alloc (.cells #[.string m, .string n] 9))
      exact ⟨hG'.kp, hG'.fc, hG'.f0, hG'.f1, hG'.f2, hG'.f3, fun _ => ⟨w1.heap.size, rfl, fun _ => heap_alloc_new _ _⟩, hG'.f5, hG'.f6, hG'.f7, hG'.f8, hG'.f9, hG'.f10, hG'.f11, hG'.f12, hG'.f13, hG'.f14, hG'.f15, hG'.f16⟩
    | 5, ho, hl =>
      obtain rfl : o8_5 = o := Option.some.inj ho
      refine wpOp_step ho (fun K hK => step_go rfl ?_)
      refine wp_load_row 25 _ rfl bA ((hS.old (by decide)).trans eA0) 25 #[.int .i64 g.k, .string g.nm, .int .i64 g.con, .slice g.fa g.fl g.fc, .slice g.la g.ll g.lc, .slice g.ra g.rl g.rc] (0, 0) _ ((hG.kp.blk (Array.getElem?_eq_some_iff.1 rA0).1).trans rA0) Try.underlying25 rfl (by kernel_rfl) (hK _ _ ⟨_, hS.put (by decide) hz _, ?_⟩)
      exact ⟨hG.kp, hG.fc, hG.f0, hG.f1, hG.f2, hG.f3, hG.f4, fun _ => rfl, hG.f6, hG.f7, hG.f8, hG.f9, hG.f10, hG.f11, hG.f12, hG.f13, hG.f14, hG.f15, hG.f16⟩
    | 6, ho, hl =>
      obtain rfl : o8_6 = o := Option.some.inj ho
      refine wpOp_step ho (fun K hK => step_go rfl ?_)
      have e0 := (hS.ev 72 (by decide)).trans (hG.f5 (hd ⟨5, .data⟩ (by simp [o8_6]) rfl))
      refine step_call rfl Try.func13 (by kernel_rfl) (by kernel_rfl) (vals := #[g.val]) (by simp [e0]) ((c_own R2 A g w1 (lA0.keep hG.kp)).mono (fun e w' ⟨h1, e1, e2, e3⟩ => ⟨_, e1, hK _ _ ⟨_, hS.put (by decide) hz _, ?_⟩⟩))
      have hG' := hG.keep e3
      exact ⟨hG'.kp, hG'.fc, hG'.f0, hG'.f1, hG'.f2, hG'.f3, hG'.f4, hG'.f5, fun _ => ⟨h1, rfl, fun _ => e2.weak (A0_le _)⟩, hG'.f7, hG'.f8, hG'.f9, hG'.f10, hG'.f11, hG'.f12, hG'.f13, hG'.f14, hG'.f15, hG'.f16⟩
    | 7, ho, hl =>
      obtain rfl : o8_7 = o := Option.some.inj ho
      refine wpOp_step ho (fun K hK => step_go rfl ?_)
      refine wp_load_row 25 _ rfl bB ((hS.old (by decide)).trans eA1) 25 #[.int .i64 gk.k, .string gk.nm, .int .i64 gk.con, .slice gk.fa gk.fl gk.fc, .slice gk.la gk.ll gk.lc, .slice gk.ra gk.rl gk.rc] (0, 0) _ ((hG.kp.blk (Array.getElem?_eq_some_iff.1 rA1).1).trans rA1) Try.underlying25 rfl (by kernel_rfl) (hK _ _ ⟨_, hS.put (by decide) hz _, ?_⟩)
      exact ⟨hG.kp, hG.fc, hG.f0, hG.f1, hG.f2, hG.f3, hG.f4, hG.f5, hG.f6, fun _ => rfl, hG.f8, hG.f9, hG.f10, hG.f11, hG.f12, hG.f13, hG.f14, hG.f15, hG.f16⟩
    | 8, ho, hl =>
      obtain rfl : o8_8 = o := Option.some.inj ho
      refine wpOp_step ho (fun K hK => step_go rfl ?_)
      have e0 := (hS.ev 74 (by decide)).trans (hG.f7 (hd ⟨7, .data⟩ (by simp [o8_8]) rfl))
      refine step_call rfl Try.func13 (by kernel_rfl) (by kernel_rfl) (vals := #[gk.val]) (by simp [e0]) ((c_own R2 B gk w1 (lA1.keep hG.kp)).mono (fun e w' ⟨h1, e1, e2, e3⟩ => ⟨_, e1, hK _ _ ⟨_, hS.put (by decide) hz _, ?_⟩⟩))
      have hG' := hG.keep e3
      exact ⟨hG'.kp, hG'.fc, hG'.f0, hG'.f1, hG'.f2, hG'.f3, hG'.f4, hG'.f5, hG'.f6, hG'.f7, fun _ => ⟨h1, rfl, fun _ => e2.weak (A0_le _)⟩, hG'.f9, hG'.f10, hG'.f11, hG'.f12, hG'.f13, hG'.f14, hG'.f15, hG'.f16⟩
    | 9, ho, hl =>
      obtain rfl : o8_9 = o := Option.some.inj ho
      refine wpOp_step ho (fun K hK => step_go rfl ?_)
      obtain ⟨h2, e0, l0⟩ := hG.f6 (hd ⟨6, .data⟩ (by simp [o8_9]) rfl)
      obtain ⟨h3, e1, l1⟩ := hG.f8 (hd ⟨8, .data⟩ (by simp [o8_9]) rfl)
      have x0 := (hS.ev 73 (by decide)).trans e0
      have x1 := (hS.ev 75 (by decide)).trans e1
      refine step_slice 23 25 2 _ rfl Try.underlying23 #[.int .i64 h2.k, .string h2.nm, .int .i64 h2.con, .slice h2.fa h2.fl h2.fc, .slice h2.la h2.ll h2.lc, .slice h2.ra h2.rl h2.rc, .int .i64 h3.k, .string h3.nm, .int .i64 h3.con, .slice h3.fa h3.fl h3.fc, .slice h3.la h3.ll h3.lc, .slice h3.ra h3.rl h3.rc] (pv := [(0, h2.val), (1, h3.val)]) (by simp [x0, x1]) (by kernel_rfl) (hK _ _ ⟨_, hS.put (by decide) hz _, ?_⟩)
      have hG' := hG.keep ((Kp.refl w1).alloc (.cells #[.int .i64 h2.k, .string h2.nm, .int .i64 h2.con, .slice h2.fa h2.fl h2.fc, .slice h2.la h2.ll h2.lc, .slice h2.ra h2.rl h2.rc, .int .i64 h3.k, .string h3.nm, .int .i64 h3.con, .slice h3.fa h3.fl h3.fc, .slice h3.la h3.ll h3.lc, .slice h3.ra h3.rl h3.rc] 25))
      exact ⟨hG'.kp, hG'.fc, hG'.f0, hG'.f1, hG'.f2, hG'.f3, hG'.f4, hG'.f5, hG'.f6, hG'.f7, hG'.f8, fun _ => ⟨h2, h3, w1.heap.size, rfl, fun q => ⟨(l0 q).keep ((Kp.refl w1).alloc _), (l1 q).keep ((Kp.refl w1).alloc _), heap_alloc_new _ _⟩⟩, hG'.f10, hG'.f11, hG'.f12, hG'.f13, hG'.f14, hG'.f15, hG'.f16⟩
    | 10, ho, hl =>
      obtain rfl : o8_10 = o := Option.some.inj ho
      refine wpOp_step ho (fun K hK => step_go rfl ?_)
      have hst : l 15 = false := by
        cases hq : l 15 with
        | false => rfl
        | true => exact absurd ((hG.f15 hq).1.symm.trans hl) (by decide)
      obtain ⟨h1, e0, l0⟩ := hG.f1 (hd ⟨1, .data⟩ (by simp [o8_10]) rfl)
      obtain ⟨g1, e1, l1⟩ := hG.f4 (hd ⟨4, .data⟩ (by simp [o8_10]) rfl)
      obtain ⟨h2, h3, g2, e2, l2⟩ := hG.f9 (hd ⟨9, .data⟩ (by simp [o8_10]) rfl)
      have x0 := (hS.ev 68 (by decide)).trans e0
      have x1 := (hS.ev 71 (by decide)).trans e1
      have x2 := (hS.ev 76 (by decide)).trans e2
      refine step_call rfl Try.func29 (by kernel_rfl) (by kernel_rfl) (vals := #[h1.val, .slice (some ⟨g1, 0, none⟩) 2 2, .slice (some ⟨g2, 0, none⟩) 2 2]) (by simp [x0, x1, x2]) ((c_Subst2 R1 R2 T A B h1 h2 h3 m n g1 g2 w1 (l0 hst) (l2 hst).1 (l2 hst).2.1 sN0 sN1 (l1 hst) (l2 hst).2.2).mono (fun e w' ⟨h', e3, e4, e5⟩ => ⟨_, e3, hK _ _ ⟨_, hS.put (by decide) hz _, ?_⟩⟩))
      have hG' := hG.keep e5
      exact ⟨hG'.kp, hG'.fc, hG'.f0, hG'.f1, hG'.f2, hG'.f3, hG'.f4, hG'.f5, hG'.f6, hG'.f7, hG'.f8, hG'.f9, fun _ => ⟨h', rfl, fun _ => e4.weak (A0_le _), fun z ga y => e4.weak ⟨fun x => trivial, fun b (hb : w1.heap.size ≤ b) (hx : b = ga) => by
        obtain ⟨ga', y', _, y3, _⟩ := hG.f14 z
        have := y'.symm.trans y
        cases this
        omega⟩⟩, fun e => absurd ((hG.f11 e).1.symm.trans hl) (by decide), fun e => absurd ((hG.f12 e).1.symm.trans hl) (by decide), hG'.f13, hG'.f14, fun e => absurd ((hG.f15 e).1.symm.trans hl) (by decide), hG'.f16⟩
    | 11, ho, hl =>
      obtain rfl : o8_11 = o := Option.some.inj ho
      refine wpOp_step ho (fun K hK => step_go rfl ?_)
      refine step_val (w' := w1) (v 77) (by simp [execOp, o8_11, (hS.ev 77 (by decide))]) (hK _ _ ⟨_, hS.put (by decide) hz _, ?_⟩)
      exact ⟨hG.kp, hG.fc, hG.f0, hG.f1, hG.f2, hG.f3, hG.f4, hG.f5, hG.f6, hG.f7, hG.f8, hG.f9, hG.f10, fun _ => ⟨(hd ⟨10, .data⟩ (by simp [o8_11]) rfl), rfl⟩, hG.f12, hG.f13, hG.f14, hG.f15, hG.f16⟩
    | 12, ho, hl =>
      obtain rfl : o8_12 = o := Option.some.inj ho
      refine wpOp_step ho (fun K hK => step_go rfl ?_)
      obtain ⟨c0, e0⟩ := hG.f11 (hd ⟨11, .data⟩ (by simp [o8_12]) rfl)
      obtain ⟨h', e1, _⟩ := hG.f10 c0
      have x0 := ((hS.ev 66 (by decide)).trans e0).trans e1
      refine step_val (w' := w1) h'.val (by simp [execOp, o8_12, x0, Instr.extract]) (hK _ _ ⟨_, hS.put (by decide) hz _, ?_⟩)
      exact ⟨hG.kp, hG.fc, hG.f0, hG.f1, hG.f2, hG.f3, hG.f4, hG.f5, hG.f6, hG.f7, hG.f8, hG.f9, hG.f10, hG.f11, fun _ => ⟨c0, h'.val, e1, rfl⟩, hG.f13, hG.f14, hG.f15, hG.f16⟩
    | 13, ho, hl =>
      obtain rfl : o8_13 = o := Option.some.inj ho
      refine wpOp_step ho (fun K hK => step_go rfl ?_)
      obtain ⟨c0, e0⟩ := hG.f11 (hd ⟨11, .data⟩ (by simp [o8_13]) rfl)
      obtain ⟨h', e1, _⟩ := hG.f10 c0
      have x0 := ((hS.ev 66 (by decide)).trans e0).trans e1
      refine step_val (w' := w1) (.int .i64 (subE T [m, n] [A, B])) (by simp [execOp, o8_13, x0, Instr.extract]) (hK _ _ ⟨_, hS.put (by decide) hz _, ?_⟩)
      exact ⟨hG.kp, hG.fc, hG.f0, hG.f1, hG.f2, hG.f3, hG.f4, hG.f5, hG.f6, hG.f7, hG.f8, hG.f9, hG.f10, hG.f11, hG.f12, fun _ => rfl, hG.f14, hG.f15, hG.f16⟩
    | 14, ho, hl =>
      obtain rfl : o8_14 = o := Option.some.inj ho
      refine wpOp_step ho (fun K hK => step_go rfl ?_)
      refine step_val (.pointer (some ⟨w1.heap.size, 0, none⟩)) (w' := w1.alloc (.cells #[.int .i64 0, .string ⟨#[]⟩, .int .i64 0, .slice none 0 0, .slice none 0 0, .slice none 0 0] 25)) (by kernel_rfl) (hK _ _ ⟨_, hS.put (by decide) hz _, ?_⟩)
      have hG' := hG.keep ((Kp.refl w1).alloc (.cells #[.int .i64 0, .string ⟨#[]⟩, .int .i64 0, .slice none 0 0, .slice none 0 0, .slice none 0 0] 25))
      exact ⟨hG'.kp, (fun _ => rfl), hG'.f0, hG'.f1, hG'.f2, hG'.f3, hG'.f4, hG'.f5, hG'.f6, hG'.f7, hG'.f8, hG'.f9, fun e => let ⟨h', a, b, _⟩ := hG.f10 e; ⟨h', a, fun z => absurd (show true = false from z) (by decide), fun _ ga z => by
        have z' : Value.pointer (some ⟨w1.heap.size, 0, none⟩) = .pointer (some ⟨ga, 0, none⟩) := z
        cases z'
        exact Lies.weak (B := ⟨A0.fresh, fun b => A0.S b ∧ b < w1.heap.size⟩) (B' := ⟨False, fun b => b ≠ w1.heap.size⟩) ⟨fun x => x, fun b (hb : True ∧ b < w1.heap.size) (hx : b = w1.heap.size) => by omega⟩ (Lies.keep ((Kp.refl w1).alloc _) (Lies.below (Nat.le_refl _) (b hl)))⟩, hG'.f11, hG'.f12, hG'.f13, fun _ => ⟨w1.heap.size, rfl, hG.kp.sz, by simp, fun _ => heap_alloc_new _ _⟩, fun e => absurd ((hG.fc e).symm.trans hl) (by decide), hG'.f16⟩
    | 15, ho, hl =>
      obtain rfl : o8_15 = o := Option.some.inj ho
      refine wpOp_step ho (fun K hK => step_go rfl ?_)
      obtain ⟨c0, hv, e0, e1⟩ := hG.f12 (hd ⟨12, .data⟩ (by simp [o8_15]) rfl)
      obtain ⟨h', e2, _, lz⟩ := hG.f10 c0
      have e3 := e0.symm.trans e2
      have e4 : hv = h'.val := by injection e3 with e3; injection e3 with e3; injection e3
      subst e4
      obtain ⟨ga, e5, e6, e7, e8⟩ := hG.f14 (hd ⟨14, .data⟩ (by simp [o8_15]) rfl)
      refine step_store 25 _ _ rfl ga #[.int .i64 h'.k, .string h'.nm, .int .i64 h'.con, .slice h'.fa h'.fl h'.fc, .slice h'.la h'.ll h'.lc, .slice h'.ra h'.rl h'.rc] ((hS.ev 17 (by decide)).trans e5) ((hS.ev 78 (by decide)).trans e1) 25 #[.int .i64 0, .string ⟨#[]⟩, .int .i64 0, .slice none 0 0, .slice none 0 0, .slice none 0 0] (e8 hl) (by kernel_rfl) rfl (by simp [Value.oneCell']) (fun w' hw hke => hK _ _ ⟨v, hS, ?_⟩)
      have hst : up1 l 15 15 = true := rfl
      exact ⟨hke.old hG.kp e6, (fun _ => (hd ⟨14, .data⟩ (by simp [o8_15]) rfl)), hG.f0, fun e => let ⟨h1, a, _⟩ := hG.f1 e; ⟨h1, a, fun (z : true = false) => absurd z (by decide)⟩, hG.f2, hG.f3, fun e => let ⟨g1, a, _⟩ := hG.f4 e; ⟨g1, a, fun (z : true = false) => absurd z (by decide)⟩, hG.f5, fun e => let ⟨h1, a, _⟩ := hG.f6 e; ⟨h1, a, fun (z : true = false) => absurd z (by decide)⟩, hG.f7, fun e => let ⟨h1, a, _⟩ := hG.f8 e; ⟨h1, a, fun (z : true = false) => absurd z (by decide)⟩, fun e => let ⟨h2, h3, g2, a, _⟩ := hG.f9 e; ⟨h2, h3, g2, a, fun (z : true = false) => absurd z (by decide)⟩, fun e => ⟨h', e2, fun z => absurd (z.symm.trans (hd ⟨14, .data⟩ (by simp [o8_15]) rfl)) (by decide), fun z g y => by
        have := e5.symm.trans y
        cases this
        exact (lz z ga e5).turn hke.fr hke.2.2.2.1 (fun b _ hb => hb)⟩, hG.f11, hG.f12, hG.f13, fun _ => ⟨ga, e5, e6, Nat.lt_of_lt_of_le e7 hke.2.2.2.1, fun (z : true = false) => absurd z (by decide)⟩, fun _ => ⟨c0, h', ga, e5, e6, hw, ((lz (hd ⟨14, .data⟩ (by simp [o8_15]) rfl) ga e5).turn hke.fr hke.2.2.2.1 (fun b _ hb => hb)).weak (A0_le _)⟩, hG.f16⟩
    | 16, ho, hl =>
      obtain rfl : o8_16 = o := Option.some.inj ho
      refine wpOp_step ho (fun K hK => step_go rfl ?_)
      have x0 := (hS.ev 79 (by decide)).trans (hG.f13 (hd ⟨13, .data⟩ (by simp [o8_16]) rfl))
      refine step_val (w' := w1) (.int .i64 (subE T [m, n] [A, B])) (by simp [execOp, o8_16, x0]) (hK _ _ ⟨_, hS.put (by decide) hz _, ?_⟩)
      exact ⟨hG.kp, hG.fc, hG.f0, hG.f1, hG.f2, hG.f3, hG.f4, hG.f5, hG.f6, hG.f7, hG.f8, hG.f9, hG.f10, hG.f11, hG.f12, hG.f13, hG.f14, hG.f15, fun _ => rfl⟩
    | i + 17, ho, hl => exact absurd ho (by simp [rg8])
  · intro l a w1 hall ⟨v, hS, hG⟩
    obtain ⟨_, h', ga, e1, e2, e3, e4⟩ := hG.f15 (hall 15 (by decide))
    rw [hS.refit hz]
    exact HEND.out v w1 h' ga e1 (hG.f16 (hall 16 (by decide))) e2 e3 e4 hG.kp
end Go.Proofs.Ythekgoolblnbbaa
