/- A region of TypesTwice: one statement that puts one type into another. Condition: the types lie in memory. -/
import Derived.Test.YthekgoolblnbbaaTw0
import Derived.Test.YthekgoolblnbbaaInv
namespace Go.Proofs.Ythekgoolblnbbaa
open Go.RowKit
set_option linter.unusedVariables false
set_option linter.unusedSimpArgs false
def o7_0 : Oper := { dst := some 56, op := Op.load 25 (Operand.tmp 6), type := 25, pos := "law.go:120", after := #[], guard := none }
def o7_1 : Oper := { dst := some 57, op := Op.call { callee := Callee.value (Operand.func 13), args := #[Operand.tmp 56], argTypes := #[25] }, type := 25, pos := "law.go:120", after := #[{ on := 0, ground := Ground.data }], guard := none }
def o7_2 : Oper := { dst := some 58, op := Op.move (Operand.tmp 4), type := 9, pos := "law.go:120", after := #[], guard := none }
def o7_3 : Oper := { dst := some 59, op := Op.buildSlice 41 1 #[(0, Operand.tmp 58)], type := 41, pos := "law.go:120", after := #[{ on := 2, ground := Ground.data }], guard := none }
def o7_4 : Oper := { dst := some 60, op := Op.load 25 (Operand.tmp 7), type := 25, pos := "law.go:120", after := #[], guard := none }
def o7_5 : Oper := { dst := some 61, op := Op.call { callee := Callee.value (Operand.func 13), args := #[Operand.tmp 60], argTypes := #[25] }, type := 25, pos := "law.go:120", after := #[{ on := 4, ground := Ground.data }, { on := 1, ground := Ground.chain }], guard := none }
def o7_6 : Oper := { dst := some 62, op := Op.buildSlice 23 1 #[(0, Operand.tmp 61)], type := 23, pos := "law.go:120", after := #[{ on := 5, ground := Ground.data }], guard := none }
def o7_7 : Oper := { dst := some 63, op := Op.call { callee := Callee.value (Operand.func 29), args := #[Operand.tmp 57, Operand.tmp 59, Operand.tmp 62], argTypes := #[25, 41, 23] }, type := 49, pos := "law.go:120", after := #[{ on := 1, ground := Ground.data }, { on := 3, ground := Ground.data }, { on := 6, ground := Ground.data }, { on := 5, ground := Ground.chain }], guard := none }
def o7_8 : Oper := { dst := some 55, op := Op.move (Operand.tmp 63), type := 49, pos := "law.go:120", after := #[{ on := 7, ground := Ground.data }], guard := none }
def o7_9 : Oper := { dst := some 64, op := Op.extract (Operand.tmp 55) 0, type := 25, pos := "law.go:120", after := #[{ on := 8, ground := Ground.data }], guard := none }
def o7_10 : Oper := { dst := some 65, op := Op.extract (Operand.tmp 55) 1, type := 28, pos := "law.go:120", after := #[{ on := 8, ground := Ground.data }, { on := 12, ground := Ground.gcOnly Departure.lateStores }], guard := none }
def o7_11 : Oper := { dst := some 15, op := Op.alloc 25, type := 0, pos := "law.go:120", after := #[], guard := none }
def o7_12 : Oper := { dst := none, op := Op.store 25 (Operand.tmp 15) (Operand.tmp 64), type := 0, pos := "law.go:120", after := #[{ on := 11, ground := Ground.data }, { on := 9, ground := Ground.data }, { on := 7, ground := Ground.chain }, { on := 0, ground := Ground.phase }, { on := 1, ground := Ground.phase }, { on := 2, ground := Ground.phase }, { on := 3, ground := Ground.phase }, { on := 4, ground := Ground.phase }, { on := 5, ground := Ground.phase }, { on := 6, ground := Ground.phase }, { on := 7, ground := Ground.phase }, { on := 8, ground := Ground.phase }, { on := 9, ground := Ground.phase }, { on := 10, ground := Ground.textOnly Departure.lateStores }, { on := 11, ground := Ground.phase }], guard := none }
def o7_13 : Oper := { dst := some 16, op := Op.assign (Operand.tmp 65), type := 28, pos := "law.go:120", after := #[{ on := 10, ground := Ground.data }, { on := 12, ground := Ground.chain }, { on := 0, ground := Ground.phase }, { on := 1, ground := Ground.phase }, { on := 2, ground := Ground.phase }, { on := 3, ground := Ground.phase }, { on := 4, ground := Ground.phase }, { on := 5, ground := Ground.phase }, { on := 6, ground := Ground.phase }, { on := 7, ground := Ground.phase }, { on := 8, ground := Ground.phase }, { on := 9, ground := Ground.phase }, { on := 10, ground := Ground.phase }, { on := 11, ground := Ground.phase }, { on := 12, ground := Ground.phase }], guard := none }
def rg7 : Array Oper := #[o7_0, o7_1, o7_2, o7_3, o7_4, o7_5, o7_6, o7_7, o7_8, o7_9, o7_10, o7_11, o7_12, o7_13]
def W7 : List Nat := [56, 57, 58, 59, 60, 61, 62, 63, 55, 64, 65, 15, 16]
structure G7 (wB : World) (R1 R2 R' : Nat) (T A X : Ty) (q : Int) (h g : Hd) (m : ByteArray) (l : Nat → Bool) (v : Nat → Value) (w : World) : Prop where
  kp : Kp wB w
  fc : l 12 = true → l 11 = true
  f0 : l 0 = true → v 56 = h.val
  f1 : l 1 = true → ∃ h1 : Hd, v 57 = h1.val ∧ (l 12 = false → Lies w A0 R1 T h1)
  f2 : l 2 = true → v 58 = .string m
  f3 : l 3 = true → ∃ g1 : Nat, v 59 = .slice (some ⟨g1, 0, none⟩) 1 1 ∧ (l 12 = false → w.heap[g1]? = some (.cells #[.string m] 9 (0, 0)))
  f4 : l 4 = true → v 60 = g.val
  f5 : l 5 = true → ∃ h2 : Hd, v 61 = h2.val ∧ (l 12 = false → Lies w A0 R2 A h2)
  f6 : l 6 = true → ∃ (h2 : Hd) (g2 : Nat), v 62 = .slice (some ⟨g2, 0, none⟩) 1 1 ∧ (l 12 = false → Lies w A0 R2 A h2 ∧ w.heap[g2]? = some (.cells #[.int .i64 h2.k, .string h2.nm, .int .i64 h2.con, .slice h2.fa h2.fl h2.fc, .slice h2.la h2.ll h2.lc, .slice h2.ra h2.rl h2.rc] 25 (0, 0)))
  f7 : l 7 = true → ∃ h' : Hd, v 63 = .tuple #[h'.val, .int .i64 q] ∧ (l 11 = false → Lies w A0 R' X h') ∧ (l 11 = true → ∀ ga, v 15 = .pointer (some ⟨ga, 0, none⟩) → Lies w ⟨False, fun b => b ≠ ga⟩ R' X h')
  f8 : l 8 = true → l 7 = true ∧ v 55 = v 63
  f9 : l 9 = true → l 7 = true ∧ ∃ hv, v 63 = .tuple #[hv, .int .i64 q] ∧ v 64 = hv
  f10 : l 10 = true → v 65 = .int .i64 q
  f11 : l 11 = true → ∃ ga, v 15 = .pointer (some ⟨ga, 0, none⟩) ∧ wB.heap.size ≤ ga ∧ ga < w.heap.size ∧ (l 12 = false → w.heap[ga]? = some (.cells #[.int .i64 0, .string ⟨#[]⟩, .int .i64 0, .slice none 0 0, .slice none 0 0, .slice none 0 0] 25 (0, 0)))
  f12 : l 12 = true → l 7 = true ∧ ∃ (h' : Hd) (ga : Nat), v 15 = .pointer (some ⟨ga, 0, none⟩) ∧ wB.heap.size ≤ ga ∧ w.heap[ga]? = some (.cells #[.int .i64 h'.k, .string h'.nm, .int .i64 h'.con, .slice h'.fa h'.fl h'.fc, .slice h'.la h'.ll h'.lc, .slice h'.ra h'.rl h'.rc] 25 (0, 0)) ∧ Lies w A0 R' X h'
  f13 : l 13 = true → v 16 = .int .i64 q
theorem G7.keep {wB : World} {R1 R2 R' : Nat} {T A X : Ty} {q : Int} {h g : Hd} {m : ByteArray} {l : Nat → Bool} {v : Nat → Value} {w w' : World} (G : G7 wB R1 R2 R' T A X q h g m l v w) (k : Kp w w') : G7 wB R1 R2 R' T A X q h g m l v w' where
  kp := G.kp.trans k
  fc := G.fc
  f0 := G.f0
  f1 := fun e => let ⟨h1, a, b⟩ := G.f1 e; ⟨h1, a, fun q => (b q).keep k⟩
  f2 := G.f2
  f3 := fun e => let ⟨g1, a, b⟩ := G.f3 e; ⟨g1, a, fun q => (k.blk (Array.getElem?_eq_some_iff.1 (b q)).1).trans (b q)⟩
  f4 := G.f4
  f5 := fun e => let ⟨h1, a, b⟩ := G.f5 e; ⟨h1, a, fun q => (b q).keep k⟩
  f6 := fun e => let ⟨h2, g2, a, b⟩ := G.f6 e; ⟨h2, g2, a, fun q => ⟨(b q).1.keep k, (k.blk (Array.getElem?_eq_some_iff.1 (b q).2).1).trans (b q).2⟩⟩
  f7 := fun e => let ⟨h', a, b, c⟩ := G.f7 e; ⟨h', a, fun q => (b q).keep k, fun q g z => (c q g z).keep k⟩
  f8 := G.f8
  f9 := G.f9
  f10 := G.f10
  f11 := fun e => let ⟨ga, a, b, c, d⟩ := G.f11 e; ⟨ga, a, b, Nat.lt_of_lt_of_le c k.sz, fun q => (k.blk c).trans (d q)⟩
  f12 := fun e => let ⟨e0, h', ga, a, b, c, d⟩ := G.f12 e; ⟨e0, h', ga, a, b, (k.blk (Array.getElem?_eq_some_iff.1 c).1).trans c, d.keep k⟩
  f13 := G.f13
set_option maxRecDepth 100000 in
set_option maxHeartbeats 3200000 in
theorem reg7 (a0 : Act) (w wB : World) {id : Nat} {Q : Exit → Act → World → Prop} (R1 R2 : Nat) (T A : Ty) (h g : Hd) (m : ByteArray) (bT bA : Nat) (hz : ∀ k ∈ W7, k < a0.tmps.size) (hk : Kp wB w)
    (eT : a0.eval (.tmp 6) = .pointer (some ⟨bT, 0, none⟩)) (rT : wB.heap[bT]? = some (.cells #[.int .i64 h.k, .string h.nm, .int .i64 h.con, .slice h.fa h.fl h.fc, .slice h.la h.ll h.lc, .slice h.ra h.rl h.rc] 25 (0, 0)))
    (eA0 : a0.eval (.tmp 7) = .pointer (some ⟨bA, 0, none⟩)) (rA0 : wB.heap[bA]? = some (.cells #[.int .i64 g.k, .string g.nm, .int .i64 g.con, .slice g.fa g.fl g.fc, .slice g.la g.ll g.lc, .slice g.ra g.rl g.rc] 25 (0, 0)))
    (eN0 : a0.eval (.tmp 4) = .string m) (sN0 : m.size ≤ 140737488351232)
    (lT : Lies wB A0 R1 T h) (lA0 : Lies wB A0 R2 A g)
    (hend : ∀ (v : Nat → Value) (w' : World) (h' : Hd) (ga : Nat), v 15 = .pointer (some ⟨ga, 0, none⟩) → v 16 = .int .i64 (subE T [m] [A]) → wB.heap.size ≤ ga → w'.heap[ga]? = some (.cells #[.int .i64 h'.k, .string h'.nm, .int .i64 h'.con, .slice h'.fa h'.fl h'.fc, .slice h'.la h'.ll h'.lc, .slice h'.ra h'.rl h'.rc] 25 (0, 0)) → Lies w' A0 (R1 + R2 + 1) (putX R1 T [m] [A]) h' → Kp wB w' → Q .normal (W7.foldl (fun b k => b.put (some k) (v k)) a0) w') :
    (Code.region id rg7 true).wp Try.prog Q a0 w := by
  have HEND := Lib.hid hend
  clear hend
  refine wp_region_inv (by kernel_rfl) (fun l a w => ∃ v, Slots a0 W7 v a ∧ G7 wB R1 R2 (R1 + R2 + 1) T A (putX R1 T [m] [A]) (subE T [m] [A]) h g m l v w) (edges_back (by kernel_rfl)) ⟨_, Slots.start a0 _, ?_⟩ ?_ ?_
  · exact ⟨hk.drew, (fun e => by cases e), (fun e => by cases e), (fun e => by cases e), (fun e => by cases e), (fun e => by cases e), (fun e => by cases e), (fun e => by cases e), (fun e => by cases e), (fun e => by cases e), (fun e => by cases e), (fun e => by cases e), (fun e => by cases e), (fun e => by cases e), (fun e => by cases e), (fun e => by cases e)⟩
  · intro i o l a w1 ho hl hd ⟨v, hS, hG⟩
    match i, ho, hl with
    | 0, ho, hl =>
      obtain rfl : o7_0 = o := Option.some.inj ho
      refine wpOp_step ho (fun K hK => step_go rfl ?_)
      refine wp_load_row 25 _ rfl bT ((hS.old (by decide)).trans eT) 25 #[.int .i64 h.k, .string h.nm, .int .i64 h.con, .slice h.fa h.fl h.fc, .slice h.la h.ll h.lc, .slice h.ra h.rl h.rc] (0, 0) _ ((hG.kp.blk (Array.getElem?_eq_some_iff.1 rT).1).trans rT) Try.underlying25 rfl (by kernel_rfl) (hK _ _ ⟨_, hS.put (by decide) hz _, ?_⟩)
      exact ⟨hG.kp, hG.fc, fun _ => rfl, hG.f1, hG.f2, hG.f3, hG.f4, hG.f5, hG.f6, hG.f7, hG.f8, hG.f9, hG.f10, hG.f11, hG.f12, hG.f13⟩
    | 1, ho, hl =>
      obtain rfl : o7_1 = o := Option.some.inj ho
      refine wpOp_step ho (fun K hK => step_go rfl ?_)
      have e0 := (hS.ev 56 (by decide)).trans (hG.f0 (hd ⟨0, .data⟩ (by simp [o7_1]) rfl))
      refine step_call rfl Try.func13 (by kernel_rfl) (by kernel_rfl) (vals := #[h.val]) (by simp [e0]) ((c_own R1 T h w1 (lT.keep hG.kp)).mono (fun e w' ⟨h1, e1, e2, e3⟩ => ⟨_, e1, hK _ _ ⟨_, hS.put (by decide) hz _, ?_⟩⟩))
      have hG' := hG.keep e3
      exact ⟨hG'.kp, hG'.fc, hG'.f0, fun _ => ⟨h1, rfl, fun _ => e2.weak (A0_le _)⟩, hG'.f2, hG'.f3, hG'.f4, hG'.f5, hG'.f6, hG'.f7, hG'.f8, hG'.f9, hG'.f10, hG'.f11, hG'.f12, hG'.f13⟩
    | 2, ho, hl =>
      obtain rfl : o7_2 = o := Option.some.inj ho
      refine wpOp_step ho (fun K hK => step_go rfl ?_)
      have e0 := (hS.old (k := 4) (by decide)).trans eN0
      refine step_val (w' := w1) (.string m) (by simp [execOp, o7_2, e0]) (hK _ _ ⟨_, hS.put (by decide) hz _, ?_⟩)
      exact ⟨hG.kp, hG.fc, hG.f0, hG.f1, fun _ => rfl, hG.f3, hG.f4, hG.f5, hG.f6, hG.f7, hG.f8, hG.f9, hG.f10, hG.f11, hG.f12, hG.f13⟩
    | 3, ho, hl =>
      obtain rfl : o7_3 = o := Option.some.inj ho
      refine wpOp_step ho (fun K hK => step_go rfl ?_)
      have e0 := (hS.ev 58 (by decide)).trans (hG.f2 (hd ⟨2, .data⟩ (by simp [o7_3]) rfl))
      refine step_slice 41 9 1 _ rfl Try.underlying41 #[.string m] (pv := [(0, .string m)]) (by simp [e0]) (by kernel_rfl) (hK _ _ ⟨_, hS.put (by decide) hz _, ?_⟩)
      have hG' := hG.keep ((Kp.refl w1).alloc (.cells #[.string m] 9))
      exact ⟨hG'.kp, hG'.fc, hG'.f0, hG'.f1, hG'.f2, fun _ => ⟨w1.heap.size, rfl, fun _ => heap_alloc_new _ _⟩, hG'.f4, hG'.f5, hG'.f6, hG'.f7, hG'.f8, hG'.f9, hG'.f10, hG'.f11, hG'.f12, hG'.f13⟩
    | 4, ho, hl =>
      obtain rfl : o7_4 = o := Option.some.inj ho
      refine wpOp_step ho (fun K hK => step_go rfl ?_)
      refine wp_load_row 25 _ rfl bA ((hS.old (by decide)).trans eA0) 25 #[.int .i64 g.k, .string g.nm, .int .i64 g.con, .slice g.fa g.fl g.fc, .slice g.la g.ll g.lc, .slice g.ra g.rl g.rc] (0, 0) _ ((hG.kp.blk (Array.getElem?_eq_some_iff.1 rA0).1).trans rA0) Try.underlying25 rfl (by kernel_rfl) (hK _ _ ⟨_, hS.put (by decide) hz _, ?_⟩)
      exact ⟨hG.kp, hG.fc, hG.f0, hG.f1, hG.f2, hG.f3, fun _ => rfl, hG.f5, hG.f6, hG.f7, hG.f8, hG.f9, hG.f10, hG.f11, hG.f12, hG.f13⟩
    | 5, ho, hl =>
      obtain rfl : o7_5 = o := Option.some.inj ho
      refine wpOp_step ho (fun K hK => step_go rfl ?_)
      have e0 := (hS.ev 60 (by decide)).trans (hG.f4 (hd ⟨4, .data⟩ (by simp [o7_5]) rfl))
      refine step_call rfl Try.func13 (by kernel_rfl) (by kernel_rfl) (vals := #[g.val]) (by simp [e0]) ((c_own R2 A g w1 (lA0.keep hG.kp)).mono (fun e w' ⟨h1, e1, e2, e3⟩ => ⟨_, e1, hK _ _ ⟨_, hS.put (by decide) hz _, ?_⟩⟩))
      have hG' := hG.keep e3
      exact ⟨hG'.kp, hG'.fc, hG'.f0, hG'.f1, hG'.f2, hG'.f3, hG'.f4, fun _ => ⟨h1, rfl, fun _ => e2.weak (A0_le _)⟩, hG'.f6, hG'.f7, hG'.f8, hG'.f9, hG'.f10, hG'.f11, hG'.f12, hG'.f13⟩
    | 6, ho, hl =>
      obtain rfl : o7_6 = o := Option.some.inj ho
      refine wpOp_step ho (fun K hK => step_go rfl ?_)
      obtain ⟨h2, e0, l0⟩ := hG.f5 (hd ⟨5, .data⟩ (by simp [o7_6]) rfl)
      have x0 := (hS.ev 61 (by decide)).trans e0
      refine step_slice 23 25 1 _ rfl Try.underlying23 #[.int .i64 h2.k, .string h2.nm, .int .i64 h2.con, .slice h2.fa h2.fl h2.fc, .slice h2.la h2.ll h2.lc, .slice h2.ra h2.rl h2.rc] (pv := [(0, h2.val)]) (by simp [x0]) (by kernel_rfl) (hK _ _ ⟨_, hS.put (by decide) hz _, ?_⟩)
      have hG' := hG.keep ((Kp.refl w1).alloc (.cells #[.int .i64 h2.k, .string h2.nm, .int .i64 h2.con, .slice h2.fa h2.fl h2.fc, .slice h2.la h2.ll h2.lc, .slice h2.ra h2.rl h2.rc] 25))
      exact ⟨hG'.kp, hG'.fc, hG'.f0, hG'.f1, hG'.f2, hG'.f3, hG'.f4, hG'.f5, fun _ => ⟨h2, w1.heap.size, rfl, fun q => ⟨(l0 q).keep ((Kp.refl w1).alloc _), heap_alloc_new _ _⟩⟩, hG'.f7, hG'.f8, hG'.f9, hG'.f10, hG'.f11, hG'.f12, hG'.f13⟩
    | 7, ho, hl =>
      obtain rfl : o7_7 = o := Option.some.inj ho
      refine wpOp_step ho (fun K hK => step_go rfl ?_)
      have hst : l 12 = false := by
        cases hq : l 12 with
        | false => rfl
        | true => exact absurd ((hG.f12 hq).1.symm.trans hl) (by decide)
      obtain ⟨h1, e0, l0⟩ := hG.f1 (hd ⟨1, .data⟩ (by simp [o7_7]) rfl)
      obtain ⟨g1, e1, l1⟩ := hG.f3 (hd ⟨3, .data⟩ (by simp [o7_7]) rfl)
      obtain ⟨h2, g2, e2, l2⟩ := hG.f6 (hd ⟨6, .data⟩ (by simp [o7_7]) rfl)
      have x0 := (hS.ev 57 (by decide)).trans e0
      have x1 := (hS.ev 59 (by decide)).trans e1
      have x2 := (hS.ev 62 (by decide)).trans e2
      refine step_call rfl Try.func29 (by kernel_rfl) (by kernel_rfl) (vals := #[h1.val, .slice (some ⟨g1, 0, none⟩) 1 1, .slice (some ⟨g2, 0, none⟩) 1 1]) (by simp [x0, x1, x2]) ((c_Subst1 R1 R2 T A h1 h2 m g1 g2 w1 (l0 hst) (l2 hst).1 sN0 (l1 hst) (l2 hst).2).mono (fun e w' ⟨h', e3, e4, e5⟩ => ⟨_, e3, hK _ _ ⟨_, hS.put (by decide) hz _, ?_⟩⟩))
      have hG' := hG.keep e5
      exact ⟨hG'.kp, hG'.fc, hG'.f0, hG'.f1, hG'.f2, hG'.f3, hG'.f4, hG'.f5, hG'.f6, fun _ => ⟨h', rfl, fun _ => e4.weak (A0_le _), fun z ga y => e4.weak ⟨fun x => trivial, fun b (hb : w1.heap.size ≤ b) (hx : b = ga) => by
        obtain ⟨ga', y', _, y3, _⟩ := hG.f11 z
        have := y'.symm.trans y
        cases this
        omega⟩⟩, fun e => absurd ((hG.f8 e).1.symm.trans hl) (by decide), fun e => absurd ((hG.f9 e).1.symm.trans hl) (by decide), hG'.f10, hG'.f11, fun e => absurd ((hG.f12 e).1.symm.trans hl) (by decide), hG'.f13⟩
    | 8, ho, hl =>
      obtain rfl : o7_8 = o := Option.some.inj ho
      refine wpOp_step ho (fun K hK => step_go rfl ?_)
      refine step_val (w' := w1) (v 63) (by simp [execOp, o7_8, (hS.ev 63 (by decide))]) (hK _ _ ⟨_, hS.put (by decide) hz _, ?_⟩)
      exact ⟨hG.kp, hG.fc, hG.f0, hG.f1, hG.f2, hG.f3, hG.f4, hG.f5, hG.f6, hG.f7, fun _ => ⟨(hd ⟨7, .data⟩ (by simp [o7_8]) rfl), rfl⟩, hG.f9, hG.f10, hG.f11, hG.f12, hG.f13⟩
    | 9, ho, hl =>
      obtain rfl : o7_9 = o := Option.some.inj ho
      refine wpOp_step ho (fun K hK => step_go rfl ?_)
      obtain ⟨c0, e0⟩ := hG.f8 (hd ⟨8, .data⟩ (by simp [o7_9]) rfl)
      obtain ⟨h', e1, _⟩ := hG.f7 c0
      have x0 := ((hS.ev 55 (by decide)).trans e0).trans e1
      refine step_val (w' := w1) h'.val (by simp [execOp, o7_9, x0, Instr.extract]) (hK _ _ ⟨_, hS.put (by decide) hz _, ?_⟩)
      exact ⟨hG.kp, hG.fc, hG.f0, hG.f1, hG.f2, hG.f3, hG.f4, hG.f5, hG.f6, hG.f7, hG.f8, fun _ => ⟨c0, h'.val, e1, rfl⟩, hG.f10, hG.f11, hG.f12, hG.f13⟩
    | 10, ho, hl =>
      obtain rfl : o7_10 = o := Option.some.inj ho
      refine wpOp_step ho (fun K hK => step_go rfl ?_)
      obtain ⟨c0, e0⟩ := hG.f8 (hd ⟨8, .data⟩ (by simp [o7_10]) rfl)
      obtain ⟨h', e1, _⟩ := hG.f7 c0
      have x0 := ((hS.ev 55 (by decide)).trans e0).trans e1
      refine step_val (w' := w1) (.int .i64 (subE T [m] [A])) (by simp [execOp, o7_10, x0, Instr.extract]) (hK _ _ ⟨_, hS.put (by decide) hz _, ?_⟩)
      exact ⟨hG.kp, hG.fc, hG.f0, hG.f1, hG.f2, hG.f3, hG.f4, hG.f5, hG.f6, hG.f7, hG.f8, hG.f9, fun _ => rfl, hG.f11, hG.f12, hG.f13⟩
    | 11, ho, hl =>
      obtain rfl : o7_11 = o := Option.some.inj ho
      refine wpOp_step ho (fun K hK => step_go rfl ?_)
      refine step_val (.pointer (some ⟨w1.heap.size, 0, none⟩)) (w' := w1.alloc (.cells #[.int .i64 0, .string ⟨#[]⟩, .int .i64 0, .slice none 0 0, .slice none 0 0, .slice none 0 0] 25)) (by kernel_rfl) (hK _ _ ⟨_, hS.put (by decide) hz _, ?_⟩)
      have hG' := hG.keep ((Kp.refl w1).alloc (.cells #[.int .i64 0, .string ⟨#[]⟩, .int .i64 0, .slice none 0 0, .slice none 0 0, .slice none 0 0] 25))
      exact ⟨hG'.kp, (fun _ => rfl), hG'.f0, hG'.f1, hG'.f2, hG'.f3, hG'.f4, hG'.f5, hG'.f6, fun e => let ⟨h', a, b, _⟩ := hG.f7 e; ⟨h', a, fun z => absurd (show true = false from z) (by decide), fun _ ga z => by
        have z' : Value.pointer (some ⟨w1.heap.size, 0, none⟩) = .pointer (some ⟨ga, 0, none⟩) := z
        cases z'
        exact Lies.weak (B := ⟨A0.fresh, fun b => A0.S b ∧ b < w1.heap.size⟩) (B' := ⟨False, fun b => b ≠ w1.heap.size⟩) ⟨fun x => x, fun b (hb : True ∧ b < w1.heap.size) (hx : b = w1.heap.size) => by omega⟩ (Lies.keep ((Kp.refl w1).alloc _) (Lies.below (Nat.le_refl _) (b hl)))⟩, hG'.f8, hG'.f9, hG'.f10, fun _ => ⟨w1.heap.size, rfl, hG.kp.sz, by simp, fun _ => heap_alloc_new _ _⟩, fun e => absurd ((hG.fc e).symm.trans hl) (by decide), hG'.f13⟩
    | 12, ho, hl =>
      obtain rfl : o7_12 = o := Option.some.inj ho
      refine wpOp_step ho (fun K hK => step_go rfl ?_)
      obtain ⟨c0, hv, e0, e1⟩ := hG.f9 (hd ⟨9, .data⟩ (by simp [o7_12]) rfl)
      obtain ⟨h', e2, _, lz⟩ := hG.f7 c0
      have e3 := e0.symm.trans e2
      have e4 : hv = h'.val := by injection e3 with e3; injection e3 with e3; injection e3
      subst e4
      obtain ⟨ga, e5, e6, e7, e8⟩ := hG.f11 (hd ⟨11, .data⟩ (by simp [o7_12]) rfl)
      refine step_store 25 _ _ rfl ga #[.int .i64 h'.k, .string h'.nm, .int .i64 h'.con, .slice h'.fa h'.fl h'.fc, .slice h'.la h'.ll h'.lc, .slice h'.ra h'.rl h'.rc] ((hS.ev 15 (by decide)).trans e5) ((hS.ev 64 (by decide)).trans e1) 25 #[.int .i64 0, .string ⟨#[]⟩, .int .i64 0, .slice none 0 0, .slice none 0 0, .slice none 0 0] (e8 hl) (by kernel_rfl) rfl (by simp [Value.oneCell']) (fun w' hw hke => hK _ _ ⟨v, hS, ?_⟩)
      have hst : up1 l 12 12 = true := rfl
      exact ⟨hke.old hG.kp e6, (fun _ => (hd ⟨11, .data⟩ (by simp [o7_12]) rfl)), hG.f0, fun e => let ⟨h1, a, _⟩ := hG.f1 e; ⟨h1, a, fun (z : true = false) => absurd z (by decide)⟩, hG.f2, fun e => let ⟨g1, a, _⟩ := hG.f3 e; ⟨g1, a, fun (z : true = false) => absurd z (by decide)⟩, hG.f4, fun e => let ⟨h1, a, _⟩ := hG.f5 e; ⟨h1, a, fun (z : true = false) => absurd z (by decide)⟩, fun e => let ⟨h2, g2, a, _⟩ := hG.f6 e; ⟨h2, g2, a, fun (z : true = false) => absurd z (by decide)⟩, fun e => ⟨h', e2, fun z => absurd (z.symm.trans (hd ⟨11, .data⟩ (by simp [o7_12]) rfl)) (by decide), fun z g y => by
        have := e5.symm.trans y
        cases this
        exact (lz z ga e5).turn hke.fr hke.2.2.2.1 (fun b _ hb => hb)⟩, hG.f8, hG.f9, hG.f10, fun _ => ⟨ga, e5, e6, Nat.lt_of_lt_of_le e7 hke.2.2.2.1, fun (z : true = false) => absurd z (by decide)⟩, fun _ => ⟨c0, h', ga, e5, e6, hw, ((lz (hd ⟨11, .data⟩ (by simp [o7_12]) rfl) ga e5).turn hke.fr hke.2.2.2.1 (fun b _ hb => hb)).weak (A0_le _)⟩, hG.f13⟩
    | 13, ho, hl =>
      obtain rfl : o7_13 = o := Option.some.inj ho
      refine wpOp_step ho (fun K hK => step_go rfl ?_)
      have x0 := (hS.ev 65 (by decide)).trans (hG.f10 (hd ⟨10, .data⟩ (by simp [o7_13]) rfl))
      refine step_val (w' := w1) (.int .i64 (subE T [m] [A])) (by simp [execOp, o7_13, x0]) (hK _ _ ⟨_, hS.put (by decide) hz _, ?_⟩)
      exact ⟨hG.kp, hG.fc, hG.f0, hG.f1, hG.f2, hG.f3, hG.f4, hG.f5, hG.f6, hG.f7, hG.f8, hG.f9, hG.f10, hG.f11, hG.f12, fun _ => rfl⟩
    | i + 14, ho, hl => exact absurd ho (by simp [rg7])
  · intro l a w1 hall ⟨v, hS, hG⟩
    obtain ⟨_, h', ga, e1, e2, e3, e4⟩ := hG.f12 (hall 12 (by decide))
    rw [hS.refit hz]
    exact HEND.out v w1 h' ga e1 (hG.f13 (hall 13 (by decide))) e2 e3 e4 hG.kp
end Go.Proofs.Ythekgoolblnbbaa
