/- The region of TreeLeaves in which a node that was given is held against the reference's. Condition: both nodes lie in memory. -/
import Derived.Test.YtgamenimbkafjaaWn
import Derived.Test.YtgamenimbkafjaaWh
namespace Go.Proofs.Ytgamenimbkafjaa
open Go.RowKit Go.Shelf
set_option linter.unusedVariables false
set_option linter.unusedSimpArgs false
theorem run_index_tabX {P : Program} (t e : TypeId) (ht : P.underlying t = some (.slice e)) (m : Nat) (hm : (P.info? e).map (·.size) = some m) (b o n c j : Nat) (hj : j < n) (w : World) :
    (Instr.indexAt t (.slice (some ⟨b, o, none⟩) n c) (.int .i64 (j : Int))).run P w = .ok (.pointer (some ⟨b, o + j * m, none⟩)) w := by
  obtain ⟨ii, hii, hs⟩ := Option.map_eq_some_iff.1 hm
  have hlt : (j : Int) < (n : Int) := by omega
  have he : P.elem t = e := by simp [Program.elem, ht]
  rw [run_indexAt_slice w t _ n c .i64 j (by rw [he]; exact ht), if_pos ⟨by omega, hlt⟩, he]
  simp [sizeOf, typeInfo, hii, hs, Result.andThen, Addr.add_mid]
/-- A row of texts as a table. -/
def fnT (L : List ByteArray) (i : Nat) : ByteArray := match L[i]? with | some s => s | none => .empty
theorem tmp_some {a : Act} {k : Nat} {b : Bool} (h : a.eval (.tmp k) = .bool b) : a.tmps[k]? = some (.bool b) := by
  have h1 : a.tmps.getD k undef = .bool b := h
  rw [Array.getD_eq_getD_getElem?] at h1
  cases hx : a.tmps[k]? with
  | none => rw [hx] at h1; exact absurd h1 (by simp [undef])
  | some v => rw [hx] at h1; exact congrArg some h1
theorem stepIn_guard {F : Fence} {n : Nat} {P : Program} {ops : Array Oper} {Q : Exit → Act → World → Prop} {i : Nat} {o : Oper} {a : Act} {w : World} {K : Act → World → Prop} (hF : ∀ f, F.fn f) (b : Bool) (ho : ops[i]? = some o) (hw : Region.wanted o (yielded ops a.tmps) = b)
    (h1 : b = true → o.wpIn F n P a w K Q) (h0 : b = false → K (a.put o.dst undef) w) : wpOpIn F n P ops Q i K a w := by
  unfold wpOpIn
  rw [ho]
  simp only
  cases b with
  | true => rw [if_pos hw]; exact h1 rfl
  | false => rw [if_neg (by rw [hw]; decide)]; exact ⟨fun f _ => hF f, h0 rfl⟩
def oe_0 : Oper := { dst := some 38, op := Op.load 4 (Operand.tmp 10), type := 4, pos := "law.go:137", after := #[], guard := none }
def oe_1 : Oper := { dst := some 39, op := Op.move (Operand.tmp 38), type := 4, pos := "law.go:137", after := #[{ on := 0, ground := Ground.data }], guard := none }
def oe_2 : Oper := { dst := some 40, op := Op.load 23 (Operand.tmp 7), type := 23, pos := "law.go:137", after := #[{ on := 1, ground := Ground.guard }], guard := some (1, true) }
def oe_3 : Oper := { dst := some 41, op := Op.load 3 (Operand.tmp 9), type := 3, pos := "law.go:137", after := #[{ on := 1, ground := Ground.guard }], guard := some (1, true) }
def oe_4 : Oper := { dst := some 42, op := Op.indexAddr 23 (Operand.tmp 40) (Operand.tmp 41), type := 0, pos := "law.go:137", after := #[{ on := 2, ground := Ground.data }, { on := 3, ground := Ground.data }, { on := 1, ground := Ground.guard }], guard := some (1, true) }
def oe_5 : Oper := { dst := some 43, op := Op.load 25 (Operand.tmp 42), type := 25, pos := "law.go:137", after := #[{ on := 4, ground := Ground.data }, { on := 1, ground := Ground.guard }], guard := some (1, true) }
def oe_6 : Oper := { dst := some 44, op := Op.load 25 (Operand.tmp 12), type := 25, pos := "law.go:137", after := #[{ on := 1, ground := Ground.guard }], guard := some (1, true) }
def oe_7 : Oper := { dst := some 45, op := Op.call { callee := Callee.value (Operand.func 24), args := #[Operand.tmp 43, Operand.tmp 44], argTypes := #[25, 25] }, type := 4, pos := "law.go:137", after := #[{ on := 5, ground := Ground.data }, { on := 6, ground := Ground.data }, { on := 1, ground := Ground.chain }, { on := 1, ground := Ground.guard }], guard := some (1, true) }
def oe_8 : Oper := { dst := some 46, op := Op.pick (Operand.tmp 39) (Operand.tmp 45) (Operand.const (Value.bool false)), type := 4, pos := "law.go:137", after := #[{ on := 1, ground := Ground.data }, { on := 7, ground := Ground.data }], guard := none }
def oe_9 : Oper := { dst := none, op := Op.store 4 (Operand.tmp 10) (Operand.tmp 46), type := 0, pos := "law.go:137", after := #[{ on := 8, ground := Ground.data }, { on := 7, ground := Ground.chain }, { on := 0, ground := Ground.phase }, { on := 1, ground := Ground.phase }, { on := 2, ground := Ground.phase }, { on := 3, ground := Ground.phase }, { on := 4, ground := Ground.phase }, { on := 5, ground := Ground.phase }, { on := 6, ground := Ground.phase }, { on := 7, ground := Ground.phase }, { on := 8, ground := Ground.phase }], guard := none }
def rgE : Array Oper := #[oe_0, oe_1, oe_2, oe_3, oe_4, oe_5, oe_6, oe_7, oe_8, oe_9]
def WE : List Nat := [38, 39, 40, 41, 42, 43, 44, 45, 46]
structure GE (wB : World) (b : Bool) (E : Prop) (ta to p N c bok : Nat) (hA hX : Hn) (u : Nat → Bool) (v : Nat → Value) (w : World) : Prop where
  kp : u 9 = false → Kp wB w
  f0 : u 0 = true → v 38 = .bool b
  f1 : u 1 = true → v 39 = .bool b
  f2 : u 2 = true → b = true → v 40 = .slice (some ⟨ta, to, none⟩) N c
  f3 : u 3 = true → b = true → v 41 = .int .i64 p
  f4 : u 4 = true → b = true → v 42 = .pointer (some ⟨ta, to + p * 5, none⟩)
  f5 : u 5 = true → b = true → v 43 = hA.val
  f6 : u 6 = true → b = true → v 44 = hX.val
  f7 : u 7 = true → b = true → ∃ q, v 45 = .bool q ∧ (E → q = true)
  f8 : u 8 = true → ∃ q, v 46 = .bool q ∧ (b = true → E → q = true)
  f9 : u 9 = true → (∀ j, j < 9 → u j = true) ∧ ∃ q W0, (b = true → E → q = true) ∧ Kp wB W0 ∧ w = W0.setCell ⟨bok, 0, none⟩ (.bool q)
theorem GE.early {wB : World} {b : Bool} {E : Prop} {ta to p N c bok : Nat} {hA hX : Hn} {u : Nat → Bool} {v : Nat → Value} {w : World} (G : GE wB b E ta to p N c bok hA hX u v w) {j : Nat} (hj : j < 9) (hu : u j = false) : u 9 = false := by
  cases e : u 9 with
  | false => rfl
  | true => have := (G.f9 e).1 j hj; rw [hu] at this; cases this
set_option maxRecDepth 100000 in
set_option maxHeartbeats 3200000 in
theorem regE (m l2 : Nat) (a0 : Act) (w : World) {id : Nat} {Q : Exit → Act → World → Prop} (b : Bool) (E : Prop) (ta to p N c bok bk ba bx : Nat) (hA hX : Hn) (hz : ∀ k ∈ WE, k < a0.tmps.size)
    (e10 : a0.eval (.tmp 10) = .pointer (some ⟨bok, 0, none⟩)) (r10 : w.heap[bok]? = some (.cells #[.bool b] 4 (0, 0))) (e9 : a0.eval (.tmp 9) = .pointer (some ⟨bk, 0, none⟩)) (r9 : w.cell? ⟨bk, 0, none⟩ = some (.int .i64 p))
    (e7 : a0.eval (.tmp 7) = .pointer (some ⟨ba, 0, none⟩)) (r7 : w.cell? ⟨ba, 0, none⟩ = some (.slice (some ⟨ta, to, none⟩) N c)) (hp : p < N) (rA : w.rangeAt ta (to + p * 5) hA.cells) (e12 : a0.eval (.tmp 12) = .pointer (some ⟨bx, 0, none⟩)) (rX : w.rangeAt bx 0 hX.cells)
    (CE : ∀ W, Kp w W → Calls Try.prog 24 #[hA.val, hX.val] W fun e w' => ∃ q, e = .returned (.bool q) ∧ (E → q = true) ∧ Kp W w')
    (hend : ∀ (v : Nat → Value) (q : Bool) (W0 : World), (b = true → E → q = true) → Kp w W0 → Q .normal (WE.foldl (fun b k => b.put (some k) (v k)) a0) (W0.setCell ⟨bok, 0, none⟩ (.bool q))) :
    (Code.region id rgE true).wpIn (Fence.wide.inRound l2) m Try.prog Q a0 w := by
  have HEND := Lib.hid hend
  have HCE := Lib.hid CE
  clear hend CE
  have hF : ∀ f, (Fence.wide.inRound l2).fn f := fun _ => trivial
  refine wpIn_region_inv (by kernel_rfl) (fun u a w1 => ∃ v, Slots a0 WE v a ∧ GE w b E ta to p N c bok hA hX u v w1) (edges_back (by kernel_rfl)) ⟨_, Slots.start a0 _, ?_⟩ ?_ ?_
  · exact ⟨fun _ => (Kp.refl w).drew, (fun e => by cases e), (fun e => by cases e), (fun e => by cases e), (fun e => by cases e), (fun e => by cases e), (fun e => by cases e), (fun e => by cases e), (fun e => by cases e), (fun e => by cases e), (fun e => by cases e)⟩
  · intro i o u a w1 ho hl hd ⟨v, hS, hG⟩
    match i, ho, hl with
    | 0, ho, hl =>
      obtain rfl : oe_0 = o := Option.some.inj ho
      have u9 := hG.early (j := 0) (by decide) hl
      have hk := hG.kp u9
      refine stepIn_go ho rfl ?_
      have x2 := (hS.old (k := 10) (by decide)).trans e10
      have hc := row_cell ((hk.blk (Array.getElem?_eq_some_iff.1 r10).1).trans r10) 0
      simp only [List.getElem?_toArray, List.getElem?_cons_zero] at hc
      have x2' : a.tmps[10]?.getD undef = .pointer (some ⟨bok, 0, none⟩) := by rw [← Array.getD_eq_getD_getElem?]; exact x2
      refine stepIn_val hF (w' := w1) (.bool b) (fun c => by simp [oe_0]) (by simp [execOp, oe_0, x2', Instr.loadAt, Instr.sureAddr, go_sem, hc]) ⟨_, hS.put (by decide) hz _, ?_⟩
      exact ⟨hG.kp, fun _ => rfl, hG.f1, hG.f2, hG.f3, hG.f4, hG.f5, hG.f6, hG.f7, hG.f8, fun e => absurd (u9.symm.trans e) (by decide)⟩
    | 1, ho, hl =>
      obtain rfl : oe_1 = o := Option.some.inj ho
      have u9 := hG.early (j := 1) (by decide) hl
      have hk := hG.kp u9
      refine stepIn_go ho rfl ?_
      have x0 := (hS.ev 38 (by decide)).trans (hG.f0 (hd ⟨0, .data⟩ (by simp [oe_1]) rfl))
      refine stepIn_val hF (w' := w1) (.bool b) (fun c => by simp [oe_1]) (by simp [execOp, oe_1, x0]) ⟨_, hS.put (by decide) hz _, ?_⟩
      exact ⟨hG.kp, hG.f0, fun _ => rfl, hG.f2, hG.f3, hG.f4, hG.f5, hG.f6, hG.f7, hG.f8, fun e => absurd (u9.symm.trans e) (by decide)⟩
    | 2, ho, hl =>
      obtain rfl : oe_2 = o := Option.some.inj ho
      have u9 := hG.early (j := 2) (by decide) hl
      have hk := hG.kp u9
      have d1 := (hd ⟨1, .guard⟩ (by simp [oe_2]) rfl)
      have g39 := (hS.ev 39 (by decide)).trans (hG.f1 d1)
      have g39' : a.tmps[39]? = some (.bool b) := tmp_some g39
      refine stepIn_guard hF b ho (by simp [Region.wanted, oe_2, yielded, rgE, oe_1, g39']; try (cases b <;> rfl)) (fun hb => ?_) (fun hb => ⟨_, hS.put (by decide) hz _, ⟨hG.kp, hG.f0, hG.f1, fun _ e => absurd (hb.symm.trans e) (by decide), hG.f3, hG.f4, hG.f5, hG.f6, hG.f7, hG.f8, fun e => absurd (u9.symm.trans e) (by decide)⟩⟩)
      have x2 := (hS.old (k := 7) (by decide)).trans e7
      have hc := hk.cellv r7
      have x2' : a.tmps[7]?.getD undef = .pointer (some ⟨ba, 0, none⟩) := by rw [← Array.getD_eq_getD_getElem?]; exact x2
      refine stepIn_val hF (w' := w1) (.slice (some ⟨ta, to, none⟩) N c) (fun c => by simp [oe_2]) (by simp [execOp, oe_2, x2', Instr.loadAt, Instr.sureAddr, go_sem, hc]) ⟨_, hS.put (by decide) hz _, ?_⟩
      exact ⟨hG.kp, hG.f0, hG.f1, fun _ _ => rfl, hG.f3, hG.f4, hG.f5, hG.f6, hG.f7, hG.f8, fun e => absurd (u9.symm.trans e) (by decide)⟩
    | 3, ho, hl =>
      obtain rfl : oe_3 = o := Option.some.inj ho
      have u9 := hG.early (j := 3) (by decide) hl
      have hk := hG.kp u9
      have d1 := (hd ⟨1, .guard⟩ (by simp [oe_3]) rfl)
      have g39 := (hS.ev 39 (by decide)).trans (hG.f1 d1)
      have g39' : a.tmps[39]? = some (.bool b) := tmp_some g39
      refine stepIn_guard hF b ho (by simp [Region.wanted, oe_3, yielded, rgE, oe_1, g39']; try (cases b <;> rfl)) (fun hb => ?_) (fun hb => ⟨_, hS.put (by decide) hz _, ⟨hG.kp, hG.f0, hG.f1, hG.f2, fun _ e => absurd (hb.symm.trans e) (by decide), hG.f4, hG.f5, hG.f6, hG.f7, hG.f8, fun e => absurd (u9.symm.trans e) (by decide)⟩⟩)
      have x2 := (hS.old (k := 9) (by decide)).trans e9
      have hc := hk.cellv r9
      have x2' : a.tmps[9]?.getD undef = .pointer (some ⟨bk, 0, none⟩) := by rw [← Array.getD_eq_getD_getElem?]; exact x2
      refine stepIn_val hF (w' := w1) (.int .i64 p) (fun c => by simp [oe_3]) (by simp [execOp, oe_3, x2', Instr.loadAt, Instr.sureAddr, go_sem, hc]) ⟨_, hS.put (by decide) hz _, ?_⟩
      exact ⟨hG.kp, hG.f0, hG.f1, hG.f2, fun _ _ => rfl, hG.f4, hG.f5, hG.f6, hG.f7, hG.f8, fun e => absurd (u9.symm.trans e) (by decide)⟩
    | 4, ho, hl =>
      obtain rfl : oe_4 = o := Option.some.inj ho
      have u9 := hG.early (j := 4) (by decide) hl
      have hk := hG.kp u9
      have d1 := (hd ⟨1, .guard⟩ (by simp [oe_4]) rfl)
      have g39 := (hS.ev 39 (by decide)).trans (hG.f1 d1)
      have g39' : a.tmps[39]? = some (.bool b) := tmp_some g39
      refine stepIn_guard hF b ho (by simp [Region.wanted, oe_4, yielded, rgE, oe_1, g39']; try (cases b <;> rfl)) (fun hb => ?_) (fun hb => ⟨_, hS.put (by decide) hz _, ⟨hG.kp, hG.f0, hG.f1, hG.f2, hG.f3, fun _ e => absurd (hb.symm.trans e) (by decide), hG.f5, hG.f6, hG.f7, hG.f8, fun e => absurd (u9.symm.trans e) (by decide)⟩⟩)
      have x40 := (hS.ev 40 (by decide)).trans (hG.f2 (hd ⟨2, .data⟩ (by simp [oe_4]) rfl) hb)
      have x41 := (hS.ev 41 (by decide)).trans (hG.f3 (hd ⟨3, .data⟩ (by simp [oe_4]) rfl) hb)
      have hix : (Instr.indexAt 23 (.slice (some ⟨ta, to, none⟩) N c) (.int .i64 (p : Nat))).run Try.prog w1 = .ok (.pointer (some ⟨ta, to + p * 5, none⟩)) w1 := run_index_tabX (P := Try.prog) 23 25 Try.underlying23 5 (by kernel_rfl) ta to N c p hp w1
      refine stepIn_val hF (w' := w1) (.pointer (some ⟨ta, to + p * 5, none⟩)) (fun c => by simp [oe_4]) (by simp [execOp, oe_4, x40, x41, hix]) ⟨_, hS.put (by decide) hz _, ?_⟩
      exact ⟨hG.kp, hG.f0, hG.f1, hG.f2, hG.f3, fun _ _ => rfl, hG.f5, hG.f6, hG.f7, hG.f8, fun e => absurd (u9.symm.trans e) (by decide)⟩
    | 5, ho, hl =>
      obtain rfl : oe_5 = o := Option.some.inj ho
      have u9 := hG.early (j := 5) (by decide) hl
      have hk := hG.kp u9
      have d1 := (hd ⟨1, .guard⟩ (by simp [oe_5]) rfl)
      have g39 := (hS.ev 39 (by decide)).trans (hG.f1 d1)
      have g39' : a.tmps[39]? = some (.bool b) := tmp_some g39
      refine stepIn_guard hF b ho (by simp [Region.wanted, oe_5, yielded, rgE, oe_1, g39']; try (cases b <;> rfl)) (fun hb => ?_) (fun hb => ⟨_, hS.put (by decide) hz _, ⟨hG.kp, hG.f0, hG.f1, hG.f2, hG.f3, hG.f4, fun _ e => absurd (hb.symm.trans e) (by decide), hG.f6, hG.f7, hG.f8, fun e => absurd (u9.symm.trans e) (by decide)⟩⟩)
      have x42 := (hS.ev 42 (by decide)).trans (hG.f4 (hd ⟨4, .data⟩ (by simp [oe_5]) rfl) hb)
      have := run_loadAt_mid (P := Try.prog) w1 ta (to + p * 5) 25 hA.cells _ (hk.range rA) Try.underlying25 rfl rfl
      refine stepIn_val hF (w' := w1) hA.val (fun c => by simp [oe_5]) (by simp [execOp, oe_5, x42, this]) ⟨_, hS.put (by decide) hz _, ?_⟩
      exact ⟨hG.kp, hG.f0, hG.f1, hG.f2, hG.f3, hG.f4, fun _ _ => rfl, hG.f6, hG.f7, hG.f8, fun e => absurd (u9.symm.trans e) (by decide)⟩
    | 6, ho, hl =>
      obtain rfl : oe_6 = o := Option.some.inj ho
      have u9 := hG.early (j := 6) (by decide) hl
      have hk := hG.kp u9
      have d1 := (hd ⟨1, .guard⟩ (by simp [oe_6]) rfl)
      have g39 := (hS.ev 39 (by decide)).trans (hG.f1 d1)
      have g39' : a.tmps[39]? = some (.bool b) := tmp_some g39
      refine stepIn_guard hF b ho (by simp [Region.wanted, oe_6, yielded, rgE, oe_1, g39']; try (cases b <;> rfl)) (fun hb => ?_) (fun hb => ⟨_, hS.put (by decide) hz _, ⟨hG.kp, hG.f0, hG.f1, hG.f2, hG.f3, hG.f4, hG.f5, fun _ e => absurd (hb.symm.trans e) (by decide), hG.f7, hG.f8, fun e => absurd (u9.symm.trans e) (by decide)⟩⟩)
      have x12 := (hS.old (k := 12) (by decide)).trans e12
      have := run_loadAt_mid (P := Try.prog) w1 bx 0 25 hX.cells _ (hk.range rX) Try.underlying25 rfl rfl
      refine stepIn_val hF (w' := w1) hX.val (fun c => by simp [oe_6]) (by simp [execOp, oe_6, x12, this]) ⟨_, hS.put (by decide) hz _, ?_⟩
      exact ⟨hG.kp, hG.f0, hG.f1, hG.f2, hG.f3, hG.f4, hG.f5, fun _ _ => rfl, hG.f7, hG.f8, fun e => absurd (u9.symm.trans e) (by decide)⟩
    | 7, ho, hl =>
      obtain rfl : oe_7 = o := Option.some.inj ho
      have u9 := hG.early (j := 7) (by decide) hl
      have hk := hG.kp u9
      have d1 := (hd ⟨1, .guard⟩ (by simp [oe_7]) rfl)
      have g39 := (hS.ev 39 (by decide)).trans (hG.f1 d1)
      have g39' : a.tmps[39]? = some (.bool b) := tmp_some g39
      refine stepIn_guard hF b ho (by simp [Region.wanted, oe_7, yielded, rgE, oe_1, g39']; try (cases b <;> rfl)) (fun hb => ?_) (fun hb => ⟨_, hS.put (by decide) hz _, ⟨hG.kp, hG.f0, hG.f1, hG.f2, hG.f3, hG.f4, hG.f5, hG.f6, fun _ e => absurd (hb.symm.trans e) (by decide), hG.f8, fun e => absurd (u9.symm.trans e) (by decide)⟩⟩)
      have x43 := (hS.ev 43 (by decide)).trans (hG.f5 (hd ⟨5, .data⟩ (by simp [oe_7]) rfl) hb)
      have x44 := (hS.ev 44 (by decide)).trans (hG.f6 (hd ⟨6, .data⟩ (by simp [oe_7]) rfl) hb)
      refine stepIn_call hF rfl rfl Try.func24 (by kernel_rfl) (by kernel_rfl) (vals := #[hA.val, hX.val]) (by simp [x43, x44]) (CallsIn.mono (show CallsIn (Fence.wide.inRound l2) (m - 1) Try.prog _ _ _ _ from (callsIn_wide (n := m - 1)).2 (HCE.out w1 hk)) (fun e w' ⟨q, e1, e2, e3⟩ => ⟨_, e1, _, hS.put (by decide) hz _, ?_⟩))
      exact ⟨fun _ => hk.trans e3, hG.f0, hG.f1, hG.f2, hG.f3, hG.f4, hG.f5, hG.f6, fun _ _ => ⟨q, rfl, e2⟩, hG.f8, fun e => absurd (u9.symm.trans e) (by decide)⟩
    | 8, ho, hl =>
      obtain rfl : oe_8 = o := Option.some.inj ho
      have u9 := hG.early (j := 8) (by decide) hl
      have hk := hG.kp u9
      refine stepIn_go ho rfl ?_
      have g39 := (hS.ev 39 (by decide)).trans (hG.f1 (hd ⟨1, .data⟩ (by simp [oe_8]) rfl))
      have d7 := (hd ⟨7, .data⟩ (by simp [oe_8]) rfl)
      have hq : ∃ q, (b = true → E → q = true) ∧ (b = true → v 45 = .bool q) ∧ (b = false → q = false) := by
        cases b with
        | true => obtain ⟨q, h1, h2⟩ := hG.f7 d7 rfl; exact ⟨q, fun _ => h2, fun _ => h1, (fun e => by cases e)⟩
        | false => exact ⟨false, (fun e => by cases e), (fun e => by cases e), fun _ => rfl⟩
      obtain ⟨q, q1, q2, q3⟩ := hq
      refine stepIn_val hF (w' := w1) (.bool q) (fun c => by simp [oe_8]) ?_ ⟨_, hS.put (by decide) hz _, ?_⟩
      · cases b with
        | true => have x45 := (hS.ev 45 (by decide)).trans (q2 rfl); (have y39 : a.tmps[39]?.getD undef = .bool true := by rw [← Array.getD_eq_getD_getElem?]; exact g39); (have y45 : a.tmps[45]?.getD undef = .bool q := by rw [← Array.getD_eq_getD_getElem?]; exact x45); simp [execOp, oe_8, y39, y45, go_sem]
        | false => obtain rfl := q3 rfl; (have y39 : a.tmps[39]?.getD undef = .bool false := by rw [← Array.getD_eq_getD_getElem?]; exact g39); simp [execOp, oe_8, y39, go_sem]
      · exact ⟨hG.kp, hG.f0, hG.f1, hG.f2, hG.f3, hG.f4, hG.f5, hG.f6, hG.f7, fun _ => ⟨q, rfl, q1⟩, fun e => absurd (u9.symm.trans e) (by decide)⟩
    | 9, ho, hl =>
      obtain rfl : oe_9 = o := Option.some.inj ho
      refine stepIn_go ho rfl ?_
      have hk := hG.kp hl
      obtain ⟨q, x46, q1⟩ := hG.f8 (hd ⟨8, .data⟩ (by simp [oe_9]) rfl)
      have y46 := (hS.ev 46 (by decide)).trans x46
      have x2 := (hS.old (k := 10) (by decide)).trans e10
      have hb := (hk.blk (Array.getElem?_eq_some_iff.1 r10).1).trans r10
      have hc := row_cell hb 0
      simp only [List.getElem?_toArray, List.getElem?_cons_zero] at hc
      have hf := frozen_of_row _ _ 0 _ _ hb
      refine stepIn_store hF 4 _ _ rfl (w' := w1.setCell ⟨bok, 0, none⟩ (.bool q)) (by rw [x2, y46]; simp [Instr.storeAt, Instr.sureAddr, go_sem, hc, hf]) ⟨v, hS, ?_⟩
      exact ⟨fun e => absurd e (by simp [up1]), hG.f0, hG.f1, hG.f2, hG.f3, hG.f4, hG.f5, hG.f6, hG.f7, hG.f8, fun _ => ⟨fun j hj => by
        match j, hj with
        | 0, _ => exact (hd ⟨0, .phase⟩ (by simp [oe_9]) rfl)
        | 1, _ => exact (hd ⟨1, .phase⟩ (by simp [oe_9]) rfl)
        | 2, _ => exact (hd ⟨2, .phase⟩ (by simp [oe_9]) rfl)
        | 3, _ => exact (hd ⟨3, .phase⟩ (by simp [oe_9]) rfl)
        | 4, _ => exact (hd ⟨4, .phase⟩ (by simp [oe_9]) rfl)
        | 5, _ => exact (hd ⟨5, .phase⟩ (by simp [oe_9]) rfl)
        | 6, _ => exact (hd ⟨6, .phase⟩ (by simp [oe_9]) rfl)
        | 7, _ => exact (hd ⟨7, .phase⟩ (by simp [oe_9]) rfl)
        | 8, _ => exact (hd ⟨8, .phase⟩ (by simp [oe_9]) rfl)
        , q, w1, q1, hk, rfl⟩⟩
    | k + 10, ho, hl => exact absurd ho (by simp [rgE])
  · intro u a w1 hall ⟨v, hS, hG⟩
    obtain ⟨_, q, W0, q1, hk, rfl⟩ := hG.f9 (hall 9 (by decide))
    rw [hS.refit hz]
    exact HEND.out v q W0 q1 hk
end Go.Proofs.Ytgamenimbkafjaa
