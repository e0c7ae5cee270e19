/- The region of Walk's loop: a copy is made, whose list may be written, and yield is called, in whichever order the operands come up. Condition: yield's round is handed in. -/
import Derived.Test.YtgamenimbkafjaaWb
import Derived.Test.YtgamenimbkafjaaWi
import Derived.Test.YtgamenimbkafjaaWe
import Derived.Test.YtgamenimbkafjaaWp
namespace Go.Proofs.Ytgamenimbkafjaa
open Go.RowKit Go.Shelf
set_option linter.unusedVariables false
set_option linter.unusedSimpArgs false

/-- What has come up. -/
structure GZ (wB : World) (l : Nat) (d : Int) (R : Nat) (X : Nd) (h : Hn) (Post : Bool → World → Prop) (u : Nat → Bool) (v : Nat → Value) (w : World) : Prop where
  kp : u 4 = false → Kp wB w
  f0 : u 0 = true → v 9 = .func (.yield l) #[] #[]
  f1 : u 1 = true → v 10 = .int .i64 d
  f2 : u 2 = true → v 11 = h.val
  f3 : u 3 = true → u 2 = true ∧ ∃ h' : Hn, v 12 = h'.val ∧ (u 4 = false → Lies w (Since wB.heap.size) R X h' ∧ Free wB.heap.size w h')
  f4 : u 4 = true → (u 0 = true ∧ u 1 = true ∧ u 2 = true ∧ u 3 = true) ∧ ∃ b, v 13 = .bool b ∧ Post b w
  f5 : u 5 = true → u 4 = true ∧ ∀ b, v 13 = .bool b → v 14 = .bool (!b)
theorem GZ.early {wB : World} {l : Nat} {d : Int} {R : Nat} {X : Nd} {h : Hn} {Post : Bool → World → Prop} {u : Nat → Bool} {v : Nat → Value} {w : World} (G : GZ wB l d R X h Post u v w) (hu : u 0 = false ∨ u 1 = false ∨ u 2 = false ∨ u 3 = false) : u 4 = false ∧ u 5 = false := by
  have h4 : u 4 = false := by
    cases e : u 4 with
    | false => rfl
    | true =>
      obtain ⟨⟨a, b, c, d⟩, _⟩ := G.f4 e
      rcases hu with h | h | h | h <;> simp_all
  refine ⟨h4, ?_⟩
  cases e : u 5 with
  | false => rfl
  | true => have := (G.f5 e).1; rw [h4] at this; cases this
set_option maxRecDepth 100000 in
set_option maxHeartbeats 3200000 in
theorem regZ (n l2 l : Nat) (a0 : Act) (w : World) {id : Nat} {Q : Exit → Act → World → Prop} (d : Int) (R : Nat) (X : Nd) (h : Hn) (yb q : Nat) (hz : ∀ k ∈ WY, k < a0.tmps.size)
    (e2 : a0.eval (.tmp 2) = .pointer (some ⟨yb, 0, none⟩)) (r2 : w.cell? ⟨yb, 0, none⟩ = some (.func (.yield l) #[] #[])) (e3 : a0.eval (.tmp 3) = .int .i64 d)
    (e4 : a0.eval (.tmp 4) = .pointer (some ⟨q, 0, none⟩)) (r4 : w.rangeAt q 0 h.cells) (lX : Lies w A0 R X h) (Post : Bool → World → Prop) (m : Nat)
    (hY : ∀ (h' : Hn) (W1 : World), Kp w W1 → Lies W1 (Since w.heap.size) R X h' → Free w.heap.size W1 h' → YieldAt (Fence.wide.inRound l2) m Try.prog l #[.int .i64 d, h'.val] W1 fun e W2 => ∃ b, e = .returned (.bool b) ∧ Post b W2)
    (hend : ∀ (v : Nat → Value) (b : Bool) (w2 : World), v 14 = .bool (!b) → Post b w2 → Q .normal (WY.foldl (fun b k => b.put (some k) (v k)) a0) w2) :
    (Code.region id rgY true).wpIn (Fence.wide.inRound l2) n Try.prog Q a0 w := by
  have HEND := Lib.hid hend
  clear hend
  have hF : ∀ f, (Fence.wide.inRound l2).fn f := fun _ => trivial
  refine wpIn_region_inv (by kernel_rfl) (fun u a w1 => ∃ v, Slots a0 WY v a ∧ GZ w l d R X h Post u v w1) (edges_back (by kernel_rfl)) ⟨_, Slots.start a0 _, ?_⟩ ?_ ?_
  · exact ⟨fun _ => (Kp.refl w).drew, (fun e => by cases e), (fun e => by cases e), (fun e => by cases e), (fun e => by cases e), (fun e => by cases e), (fun e => by cases e)⟩
  · intro i o u a w1 ho hl hd ⟨v, hS, hG⟩
    match i, ho, hl with
    | 0, ho, hl =>
      obtain rfl : oy_0 = o := Option.some.inj ho
      obtain ⟨u4, u5⟩ := hG.early (.inl hl)
      refine stepIn_go ho rfl ?_
      have x2 := (hS.old (k := 2) (by decide)).trans e2
      have hc := (hG.kp u4).cellv r2
      refine stepIn_val hF (w' := w1) (.func (.yield l) #[] #[]) (fun c => by simp [oy_0]) ?_ ⟨_, hS.put (by decide) hz _, ?_⟩
      · have x2' : a.tmps[2]?.getD undef = .pointer (some ⟨yb, 0, none⟩) := by rw [← Array.getD_eq_getD_getElem?]; exact x2
        simp [execOp, oy_0, x2', Instr.loadAt, Instr.sureAddr, go_sem, hc]
      · exact ⟨hG.kp, fun _ => rfl, hG.f1, hG.f2, hG.f3, fun e => absurd (u4.symm.trans e) (by decide), fun e => absurd (u5.symm.trans e) (by decide)⟩
    | 1, ho, hl =>
      obtain rfl : oy_1 = o := Option.some.inj ho
      obtain ⟨u4, u5⟩ := hG.early (.inr (.inl hl))
      refine stepIn_go ho rfl ?_
      have x3 := (hS.old (k := 3) (by decide)).trans e3
      refine stepIn_val hF (w' := w1) (.int .i64 d) (fun c => by simp [oy_1]) (by simp [execOp, oy_1, x3]) ⟨_, hS.put (by decide) hz _, ?_⟩
      exact ⟨hG.kp, hG.f0, fun _ => rfl, hG.f2, hG.f3, fun e => absurd (u4.symm.trans e) (by decide), fun e => absurd (u5.symm.trans e) (by decide)⟩
    | 2, ho, hl =>
      obtain rfl : oy_2 = o := Option.some.inj ho
      obtain ⟨u4, u5⟩ := hG.early (.inr (.inr (.inl hl)))
      refine stepIn_go ho rfl ?_
      have x4 := (hS.old (k := 4) (by decide)).trans e4
      refine stepIn_val hF (w' := w1) h.val (fun c => by simp [oy_2]) ?_ ⟨_, hS.put (by decide) hz _, ?_⟩
      · have := run_loadAt_mid (P := Try.prog) w1 q 0 25 h.cells _ ((hG.kp u4).range r4) Try.underlying25 rfl rfl
        simp [execOp, oy_2, x4, this]
      · exact ⟨hG.kp, hG.f0, hG.f1, fun _ => rfl, fun e => ⟨rfl, (hG.f3 e).2⟩, fun e => absurd (u4.symm.trans e) (by decide), fun e => absurd (u5.symm.trans e) (by decide)⟩
    | 3, ho, hl =>
      obtain rfl : oy_3 = o := Option.some.inj ho
      obtain ⟨u4, u5⟩ := hG.early (.inr (.inr (.inr hl)))
      refine stepIn_go ho rfl ?_
      have x0 := (hS.ev 11 (by decide)).trans (hG.f2 (hd ⟨2, .data⟩ (by simp [oy_3]) rfl))
      refine stepIn_call hF rfl rfl Try.func36 (by kernel_rfl) (by kernel_rfl) (vals := #[h.val]) (by simp [x0]) (CallsIn.mono (show CallsIn (Fence.wide.inRound l2) (n - 1) Try.prog _ _ _ _ from (callsIn_wide (n := n - 1)).2 (c_cloneQ R X h w1 (lX.keep (hG.kp u4)))) (fun e w' ⟨h1, e1, e2, e3, e4⟩ => ⟨_, e1, _, hS.put (by decide) hz _, ?_⟩))
      exact ⟨fun _ => (hG.kp u4).trans e3, hG.f0, hG.f1, hG.f2, fun _ => ⟨hd ⟨2, .data⟩ (by simp [oy_3]) rfl, h1, rfl, fun _ => ⟨e2.weak (since_le (hG.kp u4).sz), e4.mono (hG.kp u4).sz⟩⟩, fun e => absurd (u4.symm.trans e) (by decide), fun e => absurd (u5.symm.trans e) (by decide)⟩
    | 4, ho, hl =>
      obtain rfl : oy_4 = o := Option.some.inj ho
      have hl4 : u 4 = false := hl
      have d0 := hd ⟨0, .data⟩ (by simp [oy_4]) rfl
      have d1 := hd ⟨1, .data⟩ (by simp [oy_4]) rfl
      have d3 := hd ⟨3, .data⟩ (by simp [oy_4]) rfl
      refine stepIn_go ho rfl ?_
      obtain ⟨d2, h1, x12, lh⟩ := hG.f3 d3
      have y9 := (hS.ev 9 (by decide)).trans (hG.f0 d0)
      have y10 := (hS.ev 10 (by decide)).trans (hG.f1 d1)
      have y12 := (hS.ev 12 (by decide)).trans x12
      refine stepIn_yield hF rfl (t := 9) rfl y9 (vals := #[.int .i64 d, h1.val]) (by simp [y10, y12]) (m := m) ?_
      obtain ⟨fn, tm, asg, bo, hy, hR⟩ := hY h1 w1 (hG.kp hl4) (lh hl4).1 (lh hl4).2
      refine ⟨fn, tm, asg, bo, hy, RoundIn.mono hR (fun e w' ⟨b, e1, hp⟩ => ⟨_, e1, _, hS.put (by decide) hz _, ?_⟩)⟩
      have u5 : u 5 = false := by
        cases e : u 5 with
        | false => rfl
        | true => exact absurd (hl4.symm.trans (hG.f5 e).1) (by decide)
      exact ⟨fun e => absurd e (by simp [up1]), fun _ => hG.f0 d0, fun _ => hG.f1 d1, hG.f2, fun _ => ⟨d2, h1, x12, fun e => absurd e (by simp [up1])⟩, fun _ => ⟨⟨d0, d1, d2, d3⟩, b, rfl, hp⟩, fun e => absurd (u5.symm.trans e) (by decide)⟩
    | 5, ho, hl =>
      obtain rfl : oy_5 = o := Option.some.inj ho
      refine stepIn_go ho rfl ?_
      have d4 := hd ⟨4, .data⟩ (by simp [oy_5]) rfl
      obtain ⟨hb, b, x13, hp⟩ := hG.f4 d4
      have y13 := (hS.ev 13 (by decide)).trans x13
      have y13' : a.tmps[13]?.getD undef = .bool b := by rw [← Array.getD_eq_getD_getElem?]; exact y13
      refine stepIn_val hF (w' := w1) (.bool (!b)) (fun c => by simp [oy_5]) (by simp [execOp, oy_5, y13', go_sem]) ⟨_, hS.put (by decide) hz _, ?_⟩
      exact ⟨hG.kp, hG.f0, hG.f1, hG.f2, hG.f3, fun _ => ⟨hb, b, x13, hp⟩, fun _ => ⟨d4, fun b' e => by have e' : v 13 = .bool b' := e; rw [x13] at e'; cases e'; rfl⟩⟩
    | k + 6, ho, hl => exact absurd ho (by simp [rgY])
  · intro u a w1 hall ⟨v, hS, hG⟩
    obtain ⟨_, b, e13, hp⟩ := hG.f4 (hall 4 (by decide))
    have := (hG.f5 (hall 5 (by decide))).2 b e13
    rw [hS.refit hz]
    exact HEND.out v b w1 this hp
end Go.Proofs.Ytgamenimbkafjaa
