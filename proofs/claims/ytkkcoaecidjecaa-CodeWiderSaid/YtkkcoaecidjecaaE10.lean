/- A region that draws its order: 'ok = ok && !SameShape(l[k], s)' of the reference's Widths; and lists of shapes by the reference. Condition: both shapes lie in memory. -/
import Derived.Test.YtkkcoaecidjecaaE9
import Derived.Test.YtkkcoaecidjecaaS2
namespace Go.Proofs.Ytkkcoaecidjecaa
open Go.RowKit
set_option linter.unusedVariables false
set_option linter.unusedSimpArgs false
def oS0 : Oper := { dst := some 127, op := Op.move (Operand.tmp 9), type := 4, pos := "ref.go:62", after := #[], guard := none }
def oS1 : Oper := { dst := some 128, op := Op.move (Operand.tmp 127), type := 4, pos := "ref.go:62", after := #[{ on := 0, ground := Ground.data }], guard := none }
def oS2 : Oper := { dst := some 129, op := Op.move (Operand.tmp 0), type := 22, pos := "ref.go:62", after := #[{ on := 1, ground := Ground.guard }], guard := some (1, true) }
def oS3 : Oper := { dst := some 130, op := Op.move (Operand.tmp 10), type := 3, pos := "ref.go:62", after := #[{ on := 1, ground := Ground.guard }], guard := some (1, true) }
def oS4 : Oper := { dst := some 131, op := Op.indexAddr 22 (Operand.tmp 129) (Operand.tmp 130), type := 0, pos := "ref.go:62", after := #[{ on := 2, ground := Ground.data }, { on := 3, ground := Ground.data }, { on := 1, ground := Ground.guard }], guard := some (1, true) }
def oS5 : Oper := { dst := some 132, op := Op.load 45 (Operand.tmp 131), type := 45, pos := "ref.go:62", after := #[{ on := 4, ground := Ground.data }, { on := 1, ground := Ground.guard }], guard := some (1, true) }
def oS6 : Oper := { dst := some 133, op := Op.load 45 (Operand.tmp 6), type := 45, pos := "ref.go:62", after := #[{ on := 1, ground := Ground.guard }], guard := some (1, true) }
def oS7 : Oper := { dst := some 134, op := Op.call { callee := Callee.value (Operand.func 30), args := #[Operand.tmp 132, Operand.tmp 133], argTypes := #[45, 45] }, type := 4, pos := "ref.go:62", after := #[{ on := 5, ground := Ground.data }, { on := 6, ground := Ground.data }, { on := 1, ground := Ground.chain }, { on := 1, ground := Ground.guard }], guard := some (1, true) }
def oS8 : Oper := { dst := some 135, op := Op.unOp UnOp.not 4 (Operand.tmp 134), type := 4, pos := "ref.go:62", after := #[{ on := 7, ground := Ground.data }, { on := 1, ground := Ground.guard }], guard := some (1, true) }
def oS9 : Oper := { dst := some 136, op := Op.pick (Operand.tmp 128) (Operand.tmp 135) (Operand.const (Value.bool false)), type := 4, pos := "ref.go:62", after := #[{ on := 1, ground := Ground.data }, { on := 8, ground := Ground.data }], guard := none }
def oS10 : Oper := { dst := some 9, op := Op.assign (Operand.tmp 136), type := 4, pos := "ref.go:62", after := #[{ on := 9, ground := Ground.data }, { on := 7, ground := Ground.chain }, { on := 0, ground := Ground.phase }, { on := 1, ground := Ground.phase }, { on := 2, ground := Ground.phase }, { on := 3, ground := Ground.phase }, { on := 4, ground := Ground.phase }, { on := 5, ground := Ground.phase }, { on := 6, ground := Ground.phase }, { on := 7, ground := Ground.phase }, { on := 8, ground := Ground.phase }, { on := 9, ground := Ground.phase }], guard := none }
def rgS : Array Oper := #[oS0, oS1, oS2, oS3, oS4, oS5, oS6, oS7, oS8, oS9, oS10]
def WS_ : List Nat := [127, 128, 129, 130, 131, 132, 133, 134, 135, 136, 9]
structure GS (wB : World) (b s : Bool) (ta tp p N c : Nat) (hA hX : List Value) (l : Nat → Bool) (v : Nat → Value) (w : World) : Prop where
  kp : Kp wB w
  g9 : l 10 = false → v 9 = .bool b
  f0 : l 0 = true → v 127 = .bool b
  f1 : l 1 = true → v 128 = .bool b
  f2 : l 2 = true → b = true → v 129 = .slice (some ⟨ta, tp, none⟩) N c
  f3 : l 3 = true → b = true → v 130 = .int .i64 p
  f4 : l 4 = true → b = true → v 131 = .pointer (some ⟨ta, tp + p * 3, none⟩)
  f5 : l 5 = true → b = true → v 132 = .agg hA.toArray
  f6 : l 6 = true → b = true → v 133 = .agg hX.toArray
  f7 : l 7 = true → b = true → v 134 = .bool s
  f8 : l 8 = true → b = true → v 135 = .bool (!s)
  f9 : l 9 = true → v 136 = .bool (b && !s)
  f10 : l 10 = true → (∀ j, j < 10 → l j = true) ∧ v 9 = .bool (b && !s)
theorem step_guard {P : Program} {ops : Array Oper} {Q : Exit → Act → World → Prop} {i : Nat} {o : Oper} {a : Act} {w : World} {K : Act → World → Prop} (b : Bool) (ho : ops[i]? = some o) (hw : Region.wanted o (yielded ops a.tmps) = b)
    (h1 : b = true → o.wp P a w K Q) (h0 : b = false → K (a.put o.dst undef) w) : wpOp P ops Q i K a w := by
  unfold wpOp
  rw [ho]
  simp only
  cases b with
  | true => rw [if_pos hw]; exact .inl (h1 rfl)
  | false => rw [if_neg (by rw [hw]; decide)]; exact h0 rfl
theorem tmp_some {a : Act} {k : Nat} {b : Bool} (h : a.eval (.tmp k) = .bool b) : a.tmps[k]? = some (.bool b) := by
  have h1 : a.tmps.getD k undef = .bool b := h
  rw [Array.getD_eq_getD_getElem?] at h1
  cases hx : a.tmps[k]? with
  | none => rw [hx] at h1; exact absurd h1 (by simp [undef])
  | some v => rw [hx] at h1; exact congrArg some h1
set_option maxRecDepth 100000 in
set_option maxHeartbeats 3200000 in
theorem regS (a0 : Act) (w : World) {id : Nat} {Q : Exit → Act → World → Prop} (b s : Bool) (ta tp p N c bx : Nat) (hA hX : List Value) (hz : ∀ k ∈ WS_, k < a0.tmps.size)
    (e9 : a0.eval (.tmp 9) = .bool b) (e0 : a0.eval (.tmp 0) = .slice (some ⟨ta, tp, none⟩) N c) (e10 : a0.eval (.tmp 10) = .int .i64 p) (hp : p < N) (rA : w.rangeAt ta (tp + p * 3) hA) (nA : hA.length = 3)
    (e6 : a0.eval (.tmp 6) = .pointer (some ⟨bx, 0, none⟩)) (rX : w.rangeAt bx 0 hX) (nX : hX.length = 3)
    (CE : ∀ W, Kp w W → Calls Try.prog 30 #[.agg hA.toArray, .agg hX.toArray] W (Tell s W))
    (hend : ∀ (v : Nat → Value) (w' : World), v 9 = .bool (b && !s) → Kp w w' → Q .normal (WS_.foldl (fun b k => b.put (some k) (v k)) a0) w') :
    (Code.region id rgS true).wp Try.prog Q a0 w := by
  have HEND := Lib.hid hend
  clear hend
  have hsz : (Try.prog.info? 45).map (·.size) = some 3 := by kernel_rfl
  refine wp_region_inv (by kernel_rfl) (fun l a w1 => ∃ v, Slots a0 WS_ v a ∧ GS w b s ta tp p N c hA hX l v w1) (edges_back (by kernel_rfl)) ⟨_, Slots.start a0 _, ?_⟩ ?_ ?_
  · exact ⟨(Kp.refl w).drew, (fun _ => e9), (fun e => by cases e), (fun e => by cases e), (fun e => by cases e), (fun e => by cases e), (fun e => by cases e), (fun e => by cases e), (fun e => by cases e), (fun e => by cases e), (fun e => by cases e), (fun e => by cases e), (fun e => by cases e)⟩
  · intro i o l a w1 ho hl hd ⟨v, hS, hG⟩
    match i, ho, hl with
    | 0, ho, hl =>
      obtain rfl : oS0 = o := Option.some.inj ho
      have u10 : l 10 = false := by
        cases hq : l 10 with
        | false => rfl
        | true => exact absurd (((hG.f10 hq).1 0 (by decide)).symm.trans hl) (by decide)
      refine wpOp_step ho (fun K hK => step_go rfl ?_)
      have x0 := (hS.ev 9 (by decide)).trans (hG.g9 u10)
      refine step_val (w' := w1) (.bool b) (by simp [execOp, oS0, x0]) (hK _ _ ⟨_, hS.put (by decide) hz _, ?_⟩)
      exact ⟨hG.kp, hG.g9, fun _ => rfl, hG.f1, hG.f2, hG.f3, hG.f4, hG.f5, hG.f6, hG.f7, hG.f8, hG.f9, fun e => absurd (u10.symm.trans e) (by decide)⟩
    | 1, ho, hl =>
      obtain rfl : oS1 = o := Option.some.inj ho
      have u10 : l 10 = false := by
        cases hq : l 10 with
        | false => rfl
        | true => exact absurd (((hG.f10 hq).1 1 (by decide)).symm.trans hl) (by decide)
      refine wpOp_step ho (fun K hK => step_go rfl ?_)
      have x0 := (hS.ev 127 (by decide)).trans (hG.f0 (hd ⟨0, .data⟩ (by simp [oS1]) rfl))
      refine step_val (w' := w1) (.bool b) (by simp [execOp, oS1, x0]) (hK _ _ ⟨_, hS.put (by decide) hz _, ?_⟩)
      exact ⟨hG.kp, hG.g9, hG.f0, fun _ => rfl, hG.f2, hG.f3, hG.f4, hG.f5, hG.f6, hG.f7, hG.f8, hG.f9, fun e => absurd (u10.symm.trans e) (by decide)⟩
    | 2, ho, hl =>
      obtain rfl : oS2 = o := Option.some.inj ho
      have u10 : l 10 = false := by
        cases hq : l 10 with
        | false => rfl
        | true => exact absurd (((hG.f10 hq).1 2 (by decide)).symm.trans hl) (by decide)
      have g1 := (hS.ev 128 (by decide)).trans (hG.f1 (hd ⟨1, .guard⟩ (by simp [oS2]) rfl))
      have g2 : a.tmps[128]? = some (.bool b) := tmp_some g1
      refine step_guard b ho (by simp [Region.wanted, oS2, yielded, rgS, oS1, g2]; try (cases b <;> rfl)) (fun hb => ?_) (fun hb => ⟨_, hS.put (by decide) hz _, ⟨hG.kp, hG.g9, hG.f0, hG.f1, fun _ e => absurd (hb.symm.trans e) (by decide), hG.f3, hG.f4, hG.f5, hG.f6, hG.f7, hG.f8, hG.f9, fun e => absurd (u10.symm.trans e) (by decide)⟩⟩)
      have x2 := (hS.old (k := 0) (by decide)).trans e0
      refine step_val (w' := w1) (.slice (some ⟨ta, tp, none⟩) N c) (by simp [execOp, oS2, x2]) ⟨_, hS.put (by decide) hz _, ?_⟩
      exact ⟨hG.kp, hG.g9, hG.f0, hG.f1, fun _ _ => rfl, hG.f3, hG.f4, hG.f5, hG.f6, hG.f7, hG.f8, hG.f9, fun e => absurd (u10.symm.trans e) (by decide)⟩
    | 3, ho, hl =>
      obtain rfl : oS3 = o := Option.some.inj ho
      have u10 : l 10 = false := by
        cases hq : l 10 with
        | false => rfl
        | true => exact absurd (((hG.f10 hq).1 3 (by decide)).symm.trans hl) (by decide)
      have g1 := (hS.ev 128 (by decide)).trans (hG.f1 (hd ⟨1, .guard⟩ (by simp [oS3]) rfl))
      have g2 : a.tmps[128]? = some (.bool b) := tmp_some g1
      refine step_guard b ho (by simp [Region.wanted, oS3, yielded, rgS, oS1, g2]; try (cases b <;> rfl)) (fun hb => ?_) (fun hb => ⟨_, hS.put (by decide) hz _, ⟨hG.kp, hG.g9, hG.f0, hG.f1, hG.f2, fun _ e => absurd (hb.symm.trans e) (by decide), hG.f4, hG.f5, hG.f6, hG.f7, hG.f8, hG.f9, fun e => absurd (u10.symm.trans e) (by decide)⟩⟩)
      have x2 := (hS.old (k := 10) (by decide)).trans e10
      refine step_val (w' := w1) (.int .i64 p) (by simp [execOp, oS3, x2]) ⟨_, hS.put (by decide) hz _, ?_⟩
      exact ⟨hG.kp, hG.g9, hG.f0, hG.f1, hG.f2, fun _ _ => rfl, hG.f4, hG.f5, hG.f6, hG.f7, hG.f8, hG.f9, fun e => absurd (u10.symm.trans e) (by decide)⟩
    | 4, ho, hl =>
      obtain rfl : oS4 = o := Option.some.inj ho
      have u10 : l 10 = false := by
        cases hq : l 10 with
        | false => rfl
        | true => exact absurd (((hG.f10 hq).1 4 (by decide)).symm.trans hl) (by decide)
      have g1 := (hS.ev 128 (by decide)).trans (hG.f1 (hd ⟨1, .guard⟩ (by simp [oS4]) rfl))
      have g2 : a.tmps[128]? = some (.bool b) := tmp_some g1
      refine step_guard b ho (by simp [Region.wanted, oS4, yielded, rgS, oS1, g2]; try (cases b <;> rfl)) (fun hb => ?_) (fun hb => ⟨_, hS.put (by decide) hz _, ⟨hG.kp, hG.g9, hG.f0, hG.f1, hG.f2, hG.f3, fun _ e => absurd (hb.symm.trans e) (by decide), hG.f5, hG.f6, hG.f7, hG.f8, hG.f9, fun e => absurd (u10.symm.trans e) (by decide)⟩⟩)
      have x2 := (hS.ev 129 (by decide)).trans (hG.f2 (hd ⟨2, .data⟩ (by simp [oS4]) rfl) hb)
      have x3 := (hS.ev 130 (by decide)).trans (hG.f3 (hd ⟨3, .data⟩ (by simp [oS4]) rfl) hb)
      have hix := run_index_tab 22 45 Try.underlying22 3 hsz ta tp N c p hp w1
      refine step_val (w' := w1) (.pointer (some ⟨ta, tp + p * 3, none⟩)) (by simp [execOp, oS4, x2, x3, hix]) ⟨_, hS.put (by decide) hz _, ?_⟩
      exact ⟨hG.kp, hG.g9, hG.f0, hG.f1, hG.f2, hG.f3, fun _ _ => rfl, hG.f5, hG.f6, hG.f7, hG.f8, hG.f9, fun e => absurd (u10.symm.trans e) (by decide)⟩
    | 5, ho, hl =>
      obtain rfl : oS5 = o := Option.some.inj ho
      have u10 : l 10 = false := by
        cases hq : l 10 with
        | false => rfl
        | true => exact absurd (((hG.f10 hq).1 5 (by decide)).symm.trans hl) (by decide)
      have g1 := (hS.ev 128 (by decide)).trans (hG.f1 (hd ⟨1, .guard⟩ (by simp [oS5]) rfl))
      have g2 : a.tmps[128]? = some (.bool b) := tmp_some g1
      refine step_guard b ho (by simp [Region.wanted, oS5, yielded, rgS, oS1, g2]; try (cases b <;> rfl)) (fun hb => ?_) (fun hb => ⟨_, hS.put (by decide) hz _, ⟨hG.kp, hG.g9, hG.f0, hG.f1, hG.f2, hG.f3, hG.f4, fun _ e => absurd (hb.symm.trans e) (by decide), hG.f6, hG.f7, hG.f8, hG.f9, fun e => absurd (u10.symm.trans e) (by decide)⟩⟩)
      have x2 := (hS.ev 131 (by decide)).trans (hG.f4 (hd ⟨4, .data⟩ (by simp [oS5]) rfl) hb)
      refine wp_load_mid 45 _ rfl ta (tp + p * 3) x2 hA _ (hG.kp.range rA) Try.underlying45 rfl (by rw [hsz, nA]) ⟨_, hS.put (by decide) hz _, ?_⟩
      exact ⟨hG.kp, hG.g9, hG.f0, hG.f1, hG.f2, hG.f3, hG.f4, fun _ _ => rfl, hG.f6, hG.f7, hG.f8, hG.f9, fun e => absurd (u10.symm.trans e) (by decide)⟩
    | 6, ho, hl =>
      obtain rfl : oS6 = o := Option.some.inj ho
      have u10 : l 10 = false := by
        cases hq : l 10 with
        | false => rfl
        | true => exact absurd (((hG.f10 hq).1 6 (by decide)).symm.trans hl) (by decide)
      have g1 := (hS.ev 128 (by decide)).trans (hG.f1 (hd ⟨1, .guard⟩ (by simp [oS6]) rfl))
      have g2 : a.tmps[128]? = some (.bool b) := tmp_some g1
      refine step_guard b ho (by simp [Region.wanted, oS6, yielded, rgS, oS1, g2]; try (cases b <;> rfl)) (fun hb => ?_) (fun hb => ⟨_, hS.put (by decide) hz _, ⟨hG.kp, hG.g9, hG.f0, hG.f1, hG.f2, hG.f3, hG.f4, hG.f5, fun _ e => absurd (hb.symm.trans e) (by decide), hG.f7, hG.f8, hG.f9, fun e => absurd (u10.symm.trans e) (by decide)⟩⟩)
      have x2 := (hS.old (k := 6) (by decide)).trans e6
      refine wp_load_mid 45 _ rfl bx 0 x2 hX _ (hG.kp.range rX) Try.underlying45 rfl (by rw [hsz, nX]) ⟨_, hS.put (by decide) hz _, ?_⟩
      exact ⟨hG.kp, hG.g9, hG.f0, hG.f1, hG.f2, hG.f3, hG.f4, hG.f5, fun _ _ => rfl, hG.f7, hG.f8, hG.f9, fun e => absurd (u10.symm.trans e) (by decide)⟩
    | 7, ho, hl =>
      obtain rfl : oS7 = o := Option.some.inj ho
      have u10 : l 10 = false := by
        cases hq : l 10 with
        | false => rfl
        | true => exact absurd (((hG.f10 hq).1 7 (by decide)).symm.trans hl) (by decide)
      have g1 := (hS.ev 128 (by decide)).trans (hG.f1 (hd ⟨1, .guard⟩ (by simp [oS7]) rfl))
      have g2 : a.tmps[128]? = some (.bool b) := tmp_some g1
      refine step_guard b ho (by simp [Region.wanted, oS7, yielded, rgS, oS1, g2]; try (cases b <;> rfl)) (fun hb => ?_) (fun hb => ⟨_, hS.put (by decide) hz _, ⟨hG.kp, hG.g9, hG.f0, hG.f1, hG.f2, hG.f3, hG.f4, hG.f5, hG.f6, fun _ e => absurd (hb.symm.trans e) (by decide), hG.f8, hG.f9, fun e => absurd (u10.symm.trans e) (by decide)⟩⟩)
      have x2 := (hS.ev 132 (by decide)).trans (hG.f5 (hd ⟨5, .data⟩ (by simp [oS7]) rfl) hb)
      have x3 := (hS.ev 133 (by decide)).trans (hG.f6 (hd ⟨6, .data⟩ (by simp [oS7]) rfl) hb)
      refine step_call rfl Try.func30 (by kernel_rfl) (by kernel_rfl) (vals := #[.agg hA.toArray, .agg hX.toArray]) (by simp [x2, x3]) ((CE w1 hG.kp).mono (fun e w' ⟨e1, e2⟩ => ⟨_, e1, ⟨_, hS.put (by decide) hz _, ?_⟩⟩))
      have hG' : GS w b s ta tp p N c hA hX l v w' := ⟨hG.kp.trans e2, hG.g9, hG.f0, hG.f1, hG.f2, hG.f3, hG.f4, hG.f5, hG.f6, hG.f7, hG.f8, hG.f9, hG.f10⟩
      exact ⟨hG'.kp, hG'.g9, hG'.f0, hG'.f1, hG'.f2, hG'.f3, hG'.f4, hG'.f5, hG'.f6, fun _ _ => rfl, hG'.f8, hG'.f9, fun e => absurd (u10.symm.trans e) (by decide)⟩
    | 8, ho, hl =>
      obtain rfl : oS8 = o := Option.some.inj ho
      have u10 : l 10 = false := by
        cases hq : l 10 with
        | false => rfl
        | true => exact absurd (((hG.f10 hq).1 8 (by decide)).symm.trans hl) (by decide)
      have g1 := (hS.ev 128 (by decide)).trans (hG.f1 (hd ⟨1, .guard⟩ (by simp [oS8]) rfl))
      have g2 : a.tmps[128]? = some (.bool b) := tmp_some g1
      refine step_guard b ho (by simp [Region.wanted, oS8, yielded, rgS, oS1, g2]; try (cases b <;> rfl)) (fun hb => ?_) (fun hb => ⟨_, hS.put (by decide) hz _, ⟨hG.kp, hG.g9, hG.f0, hG.f1, hG.f2, hG.f3, hG.f4, hG.f5, hG.f6, hG.f7, fun _ e => absurd (hb.symm.trans e) (by decide), hG.f9, fun e => absurd (u10.symm.trans e) (by decide)⟩⟩)
      have x2 := (hS.ev 134 (by decide)).trans (hG.f7 (hd ⟨7, .data⟩ (by simp [oS8]) rfl) hb)
      have x2' : a.tmps[134]?.getD undef = .bool s := by rw [← Array.getD_eq_getD_getElem?]; exact x2
      refine step_val (w' := w1) (.bool (!s)) (by simp [execOp, oS8, x2', go_sem]) ⟨_, hS.put (by decide) hz _, ?_⟩
      exact ⟨hG.kp, hG.g9, hG.f0, hG.f1, hG.f2, hG.f3, hG.f4, hG.f5, hG.f6, hG.f7, fun _ _ => rfl, hG.f9, fun e => absurd (u10.symm.trans e) (by decide)⟩
    | 9, ho, hl =>
      obtain rfl : oS9 = o := Option.some.inj ho
      have u10 : l 10 = false := by
        cases hq : l 10 with
        | false => rfl
        | true => exact absurd (((hG.f10 hq).1 9 (by decide)).symm.trans hl) (by decide)
      refine wpOp_step ho (fun K hK => step_go rfl ?_)
      have x0 := (hS.ev 128 (by decide)).trans (hG.f1 (hd ⟨1, .data⟩ (by simp [oS9]) rfl))
      have x1 := hS.ev 135 (by decide)
      have x2 : b = true → a.eval (.tmp 135) = .bool (!s) := fun hb => x1.trans (hG.f8 (hd ⟨8, .data⟩ (by simp [oS9]) rfl) hb)
      have ha : ∀ q : Bool, (asBool (.bool q)).run Try.prog w1 = .ok q w1 := fun q => by rfl
      refine step_val (w' := w1) (.bool (b && !s)) (by cases b <;> simp_all [execOp, oS9, x0, Result.andThen, Act.eval]) (hK _ _ ⟨_, hS.put (by decide) hz _, ?_⟩)
      exact ⟨hG.kp, hG.g9, hG.f0, hG.f1, hG.f2, hG.f3, hG.f4, hG.f5, hG.f6, hG.f7, hG.f8, fun _ => rfl, fun e => absurd (u10.symm.trans e) (by decide)⟩
    | 10, ho, hl =>
      obtain rfl : oS10 = o := Option.some.inj ho
      refine wpOp_step ho (fun K hK => step_go rfl ?_)
      have x0 := (hS.ev 136 (by decide)).trans (hG.f9 (hd ⟨9, .data⟩ (by simp [oS10]) rfl))
      refine step_val (w' := w1) (.bool (b && !s)) (by simp [execOp, oS10, x0]) (hK _ _ ⟨_, hS.put (by decide) hz _, ?_⟩)
      refine ⟨hG.kp, fun (e : true = false) => (by cases e), hG.f0, hG.f1, hG.f2, hG.f3, hG.f4, hG.f5, hG.f6, hG.f7, hG.f8, hG.f9, fun _ => ⟨fun j hj => ?_, rfl⟩⟩
      match j, hj with
      | 0, _ => exact hd ⟨0, .phase⟩ (by simp [oS10]) rfl
      | 1, _ => exact hd ⟨1, .phase⟩ (by simp [oS10]) rfl
      | 2, _ => exact hd ⟨2, .phase⟩ (by simp [oS10]) rfl
      | 3, _ => exact hd ⟨3, .phase⟩ (by simp [oS10]) rfl
      | 4, _ => exact hd ⟨4, .phase⟩ (by simp [oS10]) rfl
      | 5, _ => exact hd ⟨5, .phase⟩ (by simp [oS10]) rfl
      | 6, _ => exact hd ⟨6, .phase⟩ (by simp [oS10]) rfl
      | 7, _ => exact hd ⟨7, .phase⟩ (by simp [oS10]) rfl
      | 8, _ => exact hd ⟨8, .phase⟩ (by simp [oS10]) rfl
      | 9, _ => exact hd ⟨9, .phase⟩ (by simp [oS10]) rfl
    | i + 11, ho, hl => exact absurd ho (by simp [rgS])
  · intro l a w1 hall ⟨v, hS, hG⟩
    rw [hS.refit hz]
    exact HEND.out v w1 (hG.f10 (hall 10 (by decide))).2 hG.kp
end Go.Proofs.Ytkkcoaecidjecaa
