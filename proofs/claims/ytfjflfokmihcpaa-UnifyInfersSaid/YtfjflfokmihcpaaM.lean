/- Same of package types. Condition: the types lie in memory. -/
import Derived.Test.YtfjflfokmihcpaaL
import Derived.Deep.RegionHeld3
import Derived.Laws.EntriesVeiled
namespace Go.Proofs.Ytfjflfokmihcpaa
open Go.RowKit
set_option linter.unusedVariables false
set_option linter.unusedSimpArgs false
set_option maxHeartbeats 1600000 in
set_option maxRecDepth 100000 in
theorem c_Same (R R' : Nat) (A B : Ty) (h g : Hd) (w : World) (hl : Lies w A0 R A h) (hm : Lies w A0 R' B g) :
    Calls Try.prog 52 #[h.val, g.val] w fun e w' => e = .returned (.tuple #[.bool (((look 9 A).2.2 && (look 9 B).2.2) && eqB A B), .int .i64 (ef ((look 9 A).2.2 && (look 9 B).2.2))]) ∧ Kp w w' := by
  have HL := Lib.hid hl
  have HM := Lib.hid hm
  clear hl hm
  cases hs : (look 9 A).2.2 with
  | false =>
    go_enter Try.func52, Try.ntmps52
    go_wp2_with (first | (go_at_call 29; (with_reducible refine (c_Check R A h _ (HL.out.keep (((Kp.refl w).alloc _).alloc _))).mono ?_); rintro e w2 ⟨rfl, hk2⟩; rw [hs, show ef false = 1 from rfl]))
    go_ret2
    exact ⟨rfl, (((Kp.refl w).alloc _).alloc _).trans hk2⟩
  | true =>
    cases hs' : (look 9 B).2.2 with
    | false =>
      go_enter Try.func52, Try.ntmps52
      go_wp2_with (first | (go_at_call 29; (with_reducible refine (c_Check R A h _ (HL.out.keep (((Kp.refl w).alloc _).alloc _))).mono ?_); rintro e w2 ⟨rfl, hk2⟩; rw [hs, show ef true = 0 from rfl]; obtain ⟨p0, p1, p2, p3, p4, p5, ps⟩ := boxed (h := h) (Kp.trans ((Kp.refl _).alloc _) hk2); have pl : w.heap.size < w2.heap.size := ps; obtain ⟨q0, q1, q2, q3, q4, q5, qs⟩ := boxed (h := g) hk2; simp only [World.size_alloc] at q0 q1 q2 q3 q4 q5 qs; have ql : w.heap.size + 1 < w2.heap.size := qs) | (go_at_call 29; (with_reducible refine (c_Check R' B g _ (HM.out.keep (((Kp.refl w).alloc _).alloc _ |>.trans hk2))).mono ?_); rintro e w3 ⟨rfl, hk3⟩; rw [hs', show ef false = 1 from rfl]))
      go_ret2
      exact ⟨rfl, ((((Kp.refl w).alloc _).alloc _).trans hk2).trans hk3⟩
    | true =>
      have HS := Lib.hid hs
      have HS' := Lib.hid hs'
      go_enter Try.func52, Try.ntmps52
      go_wp2_with (first | (go_at_call 29; (with_reducible refine (c_Check R A h _ (HL.out.keep (((Kp.refl w).alloc _).alloc _))).mono ?_); rintro e w2 ⟨rfl, hk2⟩; rw [hs, show ef true = 0 from rfl]; obtain ⟨p0, p1, p2, p3, p4, p5, ps⟩ := boxed (h := h) (Kp.trans ((Kp.refl _).alloc _) hk2); have pl : w.heap.size < w2.heap.size := ps; obtain ⟨q0, q1, q2, q3, q4, q5, qs⟩ := boxed (h := g) hk2; simp only [World.size_alloc] at q0 q1 q2 q3 q4 q5 qs; have ql : w.heap.size + 1 < w2.heap.size := qs) | (go_at_call 29; (with_reducible refine (c_Check R' B g _ (HM.out.keep (((Kp.refl w).alloc _).alloc _ |>.trans hk2))).mono ?_); rintro e w3 ⟨rfl, hk3⟩; rw [hs', show ef true = 0 from rfl]; obtain ⟨r0, r1, r2, r3, r4, r5, rs⟩ := boxed (h := h) (Kp.trans ((Kp.refl _).alloc _) (hk2.trans hk3)); have rl : w.heap.size < w3.heap.size := rs; obtain ⟨s0, s1, s2, s3, s4, s5, ss⟩ := boxed (h := g) (hk2.trans hk3); simp only [World.size_alloc] at s0 s1 s2 s3 s4 s5 ss; have sl : w.heap.size + 1 < w3.heap.size := ss) | (go_at_call 58; refine (c_same1 w3.heap.size 9 R R' A B h g _ (by rw [cell_of_row _ _ _ _ _ _ (heap_alloc_new w3 _)]; rfl) (HL.out.keep (((((Kp.refl w).alloc _).alloc _).trans (hk2.trans hk3)).alloc _)) (HM.out.keep (((((Kp.refl w).alloc _).alloc _).trans (hk2.trans hk3)).alloc _)) HS.out HS'.out).mono ?_; rintro e w4 ⟨rfl, hk4⟩))
      go_ret2
      exact ⟨rfl, ((((((Kp.refl w).alloc _).alloc _).trans (hk2.trans hk3)).alloc _).trans hk4)⟩
end Go.Proofs.Ytfjflfokmihcpaa
