/- What a type's head must be, in package types: isFormed. No condition. -/
import Derived.Test.YtfjflfokmihcpaaT6
namespace Go.Proofs.Ytfjflfokmihcpaa
open Go.RowKit
set_option linter.unusedVariables false
set_option linter.unusedSimpArgs false

/-- A copy in a second box reads as the header that came, and may be written. -/
theorem boxed2 {w W : World} {h : Hd} {e e' : TypeId} {cs : Array Value} (hk : Kp ((w.alloc (.cells cs e')).alloc (.cells #[.int .i64 h.k, .string h.nm, .int .i64 h.con, .slice h.fa h.fl h.fc, .slice h.la h.ll h.lc, .slice h.ra h.rl h.rc] e)) W) :
    W.cell? ⟨w.heap.size + 1, 0, none⟩ = some (.int .i64 h.k) ∧ W.cell? ⟨w.heap.size + 1, 1, none⟩ = some (.string h.nm) ∧ W.cell? ⟨w.heap.size + 1, 2, none⟩ = some (.int .i64 h.con) ∧
    W.cell? ⟨w.heap.size + 1, 3, none⟩ = some (.slice h.fa h.fl h.fc) ∧ W.cell? ⟨w.heap.size + 1, 4, none⟩ = some (.slice h.la h.ll h.lc) ∧ W.cell? ⟨w.heap.size + 1, 5, none⟩ = some (.slice h.ra h.rl h.rc) ∧ ∀ j, W.frozen? ⟨w.heap.size + 1, j, none⟩ = false := by
  obtain ⟨a0, a1, a2, a3, a4, a5, _⟩ := boxed hk
  have hs : (w.alloc (.cells cs e')).heap.size = w.heap.size + 1 := by simp
  have hb := hk.blk (b := w.heap.size + 1) (by simp)
  rw [hs] at a0 a1 a2 a3 a4 a5
  refine ⟨a0, a1, a2, a3, a4, a5, fun j => ?_⟩
  rw [← hs] at hb ⊢
  exact frozen_of_row _ _ _ _ e (hb.trans (heap_alloc_new _ _))
theorem em_iff (s : ByteArray) : s.toList = [] ↔ s.size = 0 := by
  rcases em_or s with ⟨a, b, _⟩ | ⟨a, b, _⟩ <;> simp [a, b]
set_option maxHeartbeats 1600000 in
set_option maxRecDepth 100000 in
theorem formed9 (T : Ty) (h : Hd) (K : Nat → Hd) (w : World) (t : Top w A0 T h K) (hk : h.k = 9) :
    Calls Try.prog 44 #[h.val] w fun x w' => x = .returned (.bool (fm h T.fn)) ∧ Kp w w' := by
  have rn := t.rn
  have rc' := t.rc
  have bl := t.bl
  have br := t.br
  have bf := t.bf
  have tt := Lib.hid t
  clear t
  obtain ⟨k, nm, con, fa, fl, fc, la, ll, lc, ra, rl, rc⟩ := h
  simp only at hk rn rc' bl br bf
  subst hk
  have hn := Lib.hid rn
  clear rn
  have e0 : fm ⟨9, nm, con, fa, fl, fc, la, ll, lc, ra, rl, rc⟩ T.fn = decide (nm.size = 0 ∧ con = 0 ∧ fl + rl = 0 ∧ ll = 1) := by
    simp only [fm, bareB]; generalize nm.size = sz; rw [Bool.eq_iff_iff]; simp; omega
  have E0 := Lib.hid e0; clear e0
  go_enter Try.func44, Try.ntmps44
  go_wp2_with (first | fail)
  all_goals go_ret
  all_goals refine ⟨ret_bool ?_, (((Kp.refl w).alloc _).alloc _)⟩
  all_goals rw [E0.out]
  all_goals
    (first | (simp only [em_iff] at *) | skip)
    first
    | (rw [Bool.eq_iff_iff]; simp only [beq_iff_eq, decide_eq_true_eq, Bool.and_eq_true, Bool.true_and, Bool.false_and, Bool.and_false, Bool.and_true, Bool.false_eq_true, false_iff, iff_false, true_iff, iff_true]; omega)
    | (simp; done)
set_option maxHeartbeats 1600000 in
set_option maxRecDepth 100000 in
theorem formed10 (T : Ty) (h : Hd) (K : Nat → Hd) (w : World) (t : Top w A0 T h K) (hk : h.k = 10) :
    Calls Try.prog 44 #[h.val] w fun x w' => x = .returned (.bool (fm h T.fn)) ∧ Kp w w' := by
  have rn := t.rn
  have rc' := t.rc
  have bl := t.bl
  have br := t.br
  have bf := t.bf
  have tt := Lib.hid t
  clear t
  obtain ⟨k, nm, con, fa, fl, fc, la, ll, lc, ra, rl, rc⟩ := h
  simp only at hk rn rc' bl br bf
  subst hk
  have hn := Lib.hid rn
  clear rn
  have e0 : fm ⟨10, nm, con, fa, fl, fc, la, ll, lc, ra, rl, rc⟩ T.fn = decide (nm.size = 0 ∧ con = 0 ∧ fl + rl = 0 ∧ ll = 1) := by
    simp only [fm, bareB]; generalize nm.size = sz; rw [Bool.eq_iff_iff]; simp; omega
  have E0 := Lib.hid e0; clear e0
  go_enter Try.func44, Try.ntmps44
  go_wp2_with (first | fail)
  all_goals go_ret
  all_goals refine ⟨ret_bool ?_, (((Kp.refl w).alloc _).alloc _)⟩
  all_goals rw [E0.out]
  all_goals
    (first | (simp only [em_iff] at *) | skip)
    first
    | (rw [Bool.eq_iff_iff]; simp only [beq_iff_eq, decide_eq_true_eq, Bool.and_eq_true, Bool.true_and, Bool.false_and, Bool.and_false, Bool.and_true, Bool.false_eq_true, false_iff, iff_false, true_iff, iff_true]; omega)
    | (simp; done)
set_option maxHeartbeats 1600000 in
set_option maxRecDepth 100000 in
theorem formed11 (T : Ty) (h : Hd) (K : Nat → Hd) (w : World) (t : Top w A0 T h K) (hk : h.k = 11) :
    Calls Try.prog 44 #[h.val] w fun x w' => x = .returned (.bool (fm h T.fn)) ∧ Kp w w' := by
  have rn := t.rn
  have rc' := t.rc
  have bl := t.bl
  have br := t.br
  have bf := t.bf
  have tt := Lib.hid t
  clear t
  obtain ⟨k, nm, con, fa, fl, fc, la, ll, lc, ra, rl, rc⟩ := h
  simp only at hk rn rc' bl br bf
  subst hk
  have hn := Lib.hid rn
  clear rn
  have e0 : fm ⟨11, nm, con, fa, fl, fc, la, ll, lc, ra, rl, rc⟩ T.fn = decide (nm.size = 0 ∧ con = 0 ∧ fl = 0 ∧ ll ≤ 16 ∧ rl ≤ 1) := by
    simp only [fm, bareB]; generalize nm.size = sz; rw [Bool.eq_iff_iff]; simp; omega
  have E0 := Lib.hid e0; clear e0
  go_enter Try.func44, Try.ntmps44
  go_wp2_with (first | fail)
  all_goals go_ret
  all_goals refine ⟨ret_bool ?_, (((Kp.refl w).alloc _).alloc _)⟩
  all_goals rw [E0.out]
  all_goals
    (first | (simp only [em_iff] at *) | skip)
    first
    | (rw [Bool.eq_iff_iff]; simp only [beq_iff_eq, decide_eq_true_eq, Bool.and_eq_true, Bool.true_and, Bool.false_and, Bool.and_false, Bool.and_true, Bool.false_eq_true, false_iff, iff_false, true_iff, iff_true]; omega)
    | (simp; done)
set_option maxHeartbeats 1600000 in
set_option maxRecDepth 100000 in
theorem formed1 (T : Ty) (h : Hd) (K : Nat → Hd) (w : World) (t : Top w A0 T h K) (hk : h.k = 1) :
    Calls Try.prog 44 #[h.val] w fun x w' => x = .returned (.bool (fm h T.fn)) ∧ Kp w w' := by
  have rn := t.rn
  have rc' := t.rc
  have bl := t.bl
  have br := t.br
  have bf := t.bf
  have tt := Lib.hid t
  clear t
  obtain ⟨k, nm, con, fa, fl, fc, la, ll, lc, ra, rl, rc⟩ := h
  simp only at hk rn rc' bl br bf
  subst hk
  have hn := Lib.hid rn
  clear rn
  have e0 : fm ⟨1, nm, con, fa, fl, fc, la, ll, lc, ra, rl, rc⟩ T.fn = decide (nm.size = 0 ∧ con = 0 ∧ fl + ll + rl = 0) := by
    simp only [fm, bareB]; generalize nm.size = sz; rw [Bool.eq_iff_iff]; simp; omega
  have E0 := Lib.hid e0; clear e0
  go_enter Try.func44, Try.ntmps44
  go_wp2_with (first | fail)
  all_goals go_ret
  all_goals refine ⟨ret_bool ?_, (((Kp.refl w).alloc _).alloc _)⟩
  all_goals rw [E0.out]
  all_goals
    (first | (simp only [em_iff] at *) | skip)
    first
    | (rw [Bool.eq_iff_iff]; simp only [beq_iff_eq, decide_eq_true_eq, Bool.and_eq_true, Bool.true_and, Bool.false_and, Bool.and_false, Bool.and_true, Bool.false_eq_true, false_iff, iff_false, true_iff, iff_true]; omega)
    | (simp; done)
set_option maxHeartbeats 1600000 in
set_option maxRecDepth 100000 in
theorem formed2 (T : Ty) (h : Hd) (K : Nat → Hd) (w : World) (t : Top w A0 T h K) (hk : h.k = 2) :
    Calls Try.prog 44 #[h.val] w fun x w' => x = .returned (.bool (fm h T.fn)) ∧ Kp w w' := by
  have rn := t.rn
  have rc' := t.rc
  have bl := t.bl
  have br := t.br
  have bf := t.bf
  have tt := Lib.hid t
  clear t
  obtain ⟨k, nm, con, fa, fl, fc, la, ll, lc, ra, rl, rc⟩ := h
  simp only at hk rn rc' bl br bf
  subst hk
  have hn := Lib.hid rn
  clear rn
  have e0 : fm ⟨2, nm, con, fa, fl, fc, la, ll, lc, ra, rl, rc⟩ T.fn = decide (nm.size = 0 ∧ con = 0 ∧ fl + ll + rl = 0) := by
    simp only [fm, bareB]; generalize nm.size = sz; rw [Bool.eq_iff_iff]; simp; omega
  have E0 := Lib.hid e0; clear e0
  go_enter Try.func44, Try.ntmps44
  go_wp2_with (first | fail)
  all_goals go_ret
  all_goals refine ⟨ret_bool ?_, (((Kp.refl w).alloc _).alloc _)⟩
  all_goals rw [E0.out]
  all_goals
    (first | (simp only [em_iff] at *) | skip)
    first
    | (rw [Bool.eq_iff_iff]; simp only [beq_iff_eq, decide_eq_true_eq, Bool.and_eq_true, Bool.true_and, Bool.false_and, Bool.and_false, Bool.and_true, Bool.false_eq_true, false_iff, iff_false, true_iff, iff_true]; omega)
    | (simp; done)
set_option maxHeartbeats 1600000 in
set_option maxRecDepth 100000 in
theorem formed3 (T : Ty) (h : Hd) (K : Nat → Hd) (w : World) (t : Top w A0 T h K) (hk : h.k = 3) :
    Calls Try.prog 44 #[h.val] w fun x w' => x = .returned (.bool (fm h T.fn)) ∧ Kp w w' := by
  have rn := t.rn
  have rc' := t.rc
  have bl := t.bl
  have br := t.br
  have bf := t.bf
  have tt := Lib.hid t
  clear t
  obtain ⟨k, nm, con, fa, fl, fc, la, ll, lc, ra, rl, rc⟩ := h
  simp only at hk rn rc' bl br bf
  subst hk
  have hn := Lib.hid rn
  clear rn
  have e0 : fm ⟨3, nm, con, fa, fl, fc, la, ll, lc, ra, rl, rc⟩ T.fn = decide (nm.size = 0 ∧ con = 0 ∧ fl + ll + rl = 0) := by
    simp only [fm, bareB]; generalize nm.size = sz; rw [Bool.eq_iff_iff]; simp; omega
  have E0 := Lib.hid e0; clear e0
  go_enter Try.func44, Try.ntmps44
  go_wp2_with (first | fail)
  all_goals go_ret
  all_goals refine ⟨ret_bool ?_, (((Kp.refl w).alloc _).alloc _)⟩
  all_goals rw [E0.out]
  all_goals
    (first | (simp only [em_iff] at *) | skip)
    first
    | (rw [Bool.eq_iff_iff]; simp only [beq_iff_eq, decide_eq_true_eq, Bool.and_eq_true, Bool.true_and, Bool.false_and, Bool.and_false, Bool.and_true, Bool.false_eq_true, false_iff, iff_false, true_iff, iff_true]; omega)
    | (simp; done)
set_option maxHeartbeats 1600000 in
set_option maxRecDepth 100000 in
theorem formed4 (T : Ty) (h : Hd) (K : Nat → Hd) (w : World) (t : Top w A0 T h K) (hk : h.k = 4) :
    Calls Try.prog 44 #[h.val] w fun x w' => x = .returned (.bool (fm h T.fn)) ∧ Kp w w' := by
  have rn := t.rn
  have rc' := t.rc
  have bl := t.bl
  have br := t.br
  have bf := t.bf
  have tt := Lib.hid t
  clear t
  obtain ⟨k, nm, con, fa, fl, fc, la, ll, lc, ra, rl, rc⟩ := h
  simp only at hk rn rc' bl br bf
  subst hk
  have hn := Lib.hid rn
  clear rn
  have e0 : fm ⟨4, nm, con, fa, fl, fc, la, ll, lc, ra, rl, rc⟩ T.fn = decide (nm.size = 0 ∧ con = 0 ∧ fl + ll + rl = 0) := by
    simp only [fm, bareB]; generalize nm.size = sz; rw [Bool.eq_iff_iff]; simp; omega
  have E0 := Lib.hid e0; clear e0
  go_enter Try.func44, Try.ntmps44
  go_wp2_with (first | fail)
  all_goals go_ret
  all_goals refine ⟨ret_bool ?_, (((Kp.refl w).alloc _).alloc _)⟩
  all_goals rw [E0.out]
  all_goals
    (first | (simp only [em_iff] at *) | skip)
    first
    | (rw [Bool.eq_iff_iff]; simp only [beq_iff_eq, decide_eq_true_eq, Bool.and_eq_true, Bool.true_and, Bool.false_and, Bool.and_false, Bool.and_true, Bool.false_eq_true, false_iff, iff_false, true_iff, iff_true]; omega)
    | (simp; done)
set_option maxHeartbeats 1600000 in
set_option maxRecDepth 100000 in
theorem formed5 (T : Ty) (h : Hd) (K : Nat → Hd) (w : World) (t : Top w A0 T h K) (hk : h.k = 5) :
    Calls Try.prog 44 #[h.val] w fun x w' => x = .returned (.bool (fm h T.fn)) ∧ Kp w w' := by
  have rn := t.rn
  have rc' := t.rc
  have bl := t.bl
  have br := t.br
  have bf := t.bf
  have tt := Lib.hid t
  clear t
  obtain ⟨k, nm, con, fa, fl, fc, la, ll, lc, ra, rl, rc⟩ := h
  simp only at hk rn rc' bl br bf
  subst hk
  have hn := Lib.hid rn
  clear rn
  have e0 : fm ⟨5, nm, con, fa, fl, fc, la, ll, lc, ra, rl, rc⟩ T.fn = decide (nm.size = 0 ∧ con = 0 ∧ fl + ll + rl = 0) := by
    simp only [fm, bareB]; generalize nm.size = sz; rw [Bool.eq_iff_iff]; simp; omega
  have E0 := Lib.hid e0; clear e0
  go_enter Try.func44, Try.ntmps44
  go_wp2_with (first | fail)
  all_goals go_ret
  all_goals refine ⟨ret_bool ?_, (((Kp.refl w).alloc _).alloc _)⟩
  all_goals rw [E0.out]
  all_goals
    (first | (simp only [em_iff] at *) | skip)
    first
    | (rw [Bool.eq_iff_iff]; simp only [beq_iff_eq, decide_eq_true_eq, Bool.and_eq_true, Bool.true_and, Bool.false_and, Bool.and_false, Bool.and_true, Bool.false_eq_true, false_iff, iff_false, true_iff, iff_true]; omega)
    | (simp; done)
set_option maxHeartbeats 1600000 in
set_option maxRecDepth 100000 in
theorem formed6 (T : Ty) (h : Hd) (K : Nat → Hd) (w : World) (t : Top w A0 T h K) (hk : h.k = 6) :
    Calls Try.prog 44 #[h.val] w fun x w' => x = .returned (.bool (fm h T.fn)) ∧ Kp w w' := by
  have rn := t.rn
  have rc' := t.rc
  have bl := t.bl
  have br := t.br
  have bf := t.bf
  have tt := Lib.hid t
  clear t
  obtain ⟨k, nm, con, fa, fl, fc, la, ll, lc, ra, rl, rc⟩ := h
  simp only at hk rn rc' bl br bf
  subst hk
  have hn := Lib.hid rn
  clear rn
  have e0 : fm ⟨6, nm, con, fa, fl, fc, la, ll, lc, ra, rl, rc⟩ T.fn = decide (nm.size = 0 ∧ con = 0 ∧ fl + ll + rl = 0) := by
    simp only [fm, bareB]; generalize nm.size = sz; rw [Bool.eq_iff_iff]; simp; omega
  have E0 := Lib.hid e0; clear e0
  go_enter Try.func44, Try.ntmps44
  go_wp2_with (first | fail)
  all_goals go_ret
  all_goals refine ⟨ret_bool ?_, (((Kp.refl w).alloc _).alloc _)⟩
  all_goals rw [E0.out]
  all_goals
    (first | (simp only [em_iff] at *) | skip)
    first
    | (rw [Bool.eq_iff_iff]; simp only [beq_iff_eq, decide_eq_true_eq, Bool.and_eq_true, Bool.true_and, Bool.false_and, Bool.and_false, Bool.and_true, Bool.false_eq_true, false_iff, iff_false, true_iff, iff_true]; omega)
    | (simp; done)
set_option maxHeartbeats 1600000 in
set_option maxRecDepth 100000 in
theorem formed7 (T : Ty) (h : Hd) (K : Nat → Hd) (w : World) (t : Top w A0 T h K) (hk : h.k = 7) :
    Calls Try.prog 44 #[h.val] w fun x w' => x = .returned (.bool (fm h T.fn)) ∧ Kp w w' := by
  have rn := t.rn
  have rc' := t.rc
  have bl := t.bl
  have br := t.br
  have bf := t.bf
  have tt := Lib.hid t
  clear t
  obtain ⟨k, nm, con, fa, fl, fc, la, ll, lc, ra, rl, rc⟩ := h
  simp only at hk rn rc' bl br bf
  subst hk
  have hn := Lib.hid rn
  clear rn
  have e0 : fm ⟨7, nm, con, fa, fl, fc, la, ll, lc, ra, rl, rc⟩ T.fn = decide (nm.size = 0 ∧ con = 0 ∧ fl + ll + rl = 0) := by
    simp only [fm, bareB]; generalize nm.size = sz; rw [Bool.eq_iff_iff]; simp; omega
  have E0 := Lib.hid e0; clear e0
  go_enter Try.func44, Try.ntmps44
  go_wp2_with (first | fail)
  all_goals go_ret
  all_goals refine ⟨ret_bool ?_, (((Kp.refl w).alloc _).alloc _)⟩
  all_goals rw [E0.out]
  all_goals
    (first | (simp only [em_iff] at *) | skip)
    first
    | (rw [Bool.eq_iff_iff]; simp only [beq_iff_eq, decide_eq_true_eq, Bool.and_eq_true, Bool.true_and, Bool.false_and, Bool.and_false, Bool.and_true, Bool.false_eq_true, false_iff, iff_false, true_iff, iff_true]; omega)
    | (simp; done)
set_option maxHeartbeats 1600000 in
set_option maxRecDepth 100000 in
theorem formedk (T : Ty) (h : Hd) (K : Nat → Hd) (w : World) (t : Top w A0 T h K) (hk : (h.k < 1 ∨ 12 < h.k)) :
    Calls Try.prog 44 #[h.val] w fun x w' => x = .returned (.bool (fm h T.fn)) ∧ Kp w w' := by
  have rn := t.rn
  have rc' := t.rc
  have bl := t.bl
  have br := t.br
  have bf := t.bf
  have tt := Lib.hid t
  clear t
  obtain ⟨k, nm, con, fa, fl, fc, la, ll, lc, ra, rl, rc⟩ := h
  simp only at hk rn rc' bl br bf
  have hn := Lib.hid rn
  clear rn
  have e0 : fm ⟨k, nm, con, fa, fl, fc, la, ll, lc, ra, rl, rc⟩ T.fn = false := by
    have d8 : k ≠ 8 := by omega
    have d9 : ¬ (k = 9 ∨ k = 10) := by omega
    have d11 : k ≠ 11 := by omega
    have d12 : k ≠ 12 := by omega
    have d1 : ¬ (1 ≤ k ∧ k ≤ 7) := by omega
    simp [fm, d8, d9, d11, d12, d1]
  have E0 := Lib.hid e0; clear e0
  have f1 : (k == 1) = false := beq_eq_false_iff_ne.2 (by omega)
  have f2 : (k == 2) = false := beq_eq_false_iff_ne.2 (by omega)
  have f3 : (k == 3) = false := beq_eq_false_iff_ne.2 (by omega)
  have f4 : (k == 4) = false := beq_eq_false_iff_ne.2 (by omega)
  have f5 : (k == 5) = false := beq_eq_false_iff_ne.2 (by omega)
  have f6 : (k == 6) = false := beq_eq_false_iff_ne.2 (by omega)
  have f7 : (k == 7) = false := beq_eq_false_iff_ne.2 (by omega)
  have f8 : (k == 8) = false := beq_eq_false_iff_ne.2 (by omega)
  have f9 : (k == 9) = false := beq_eq_false_iff_ne.2 (by omega)
  have f10 : (k == 10) = false := beq_eq_false_iff_ne.2 (by omega)
  have f11 : (k == 11) = false := beq_eq_false_iff_ne.2 (by omega)
  have f12 : (k == 12) = false := beq_eq_false_iff_ne.2 (by omega)
  go_enter Try.func44, Try.ntmps44
  go_wp2_with (first | fail)
  all_goals go_ret
  all_goals refine ⟨ret_bool ?_, (((Kp.refl w).alloc _).alloc _)⟩
  all_goals rw [E0.out]
  all_goals
    (first | (simp only [em_iff] at *) | skip)
    first
    | (rw [Bool.eq_iff_iff]; simp only [beq_iff_eq, decide_eq_true_eq, Bool.and_eq_true, Bool.true_and, Bool.false_and, Bool.and_false, Bool.and_true, Bool.false_eq_true, false_iff, iff_false, true_iff, iff_true]; omega)
    | (simp; done)
set_option maxHeartbeats 1600000 in
set_option maxRecDepth 100000 in
theorem formed12 (T : Ty) (h : Hd) (K : Nat → Hd) (w : World) (t : Top w A0 T h K) (hk : h.k = 12) :
    Calls Try.prog 44 #[h.val] w fun x w' => x = .returned (.bool (fm h T.fn)) ∧ Kp w w' := by
  have rn := t.rn
  have rc' := t.rc
  have bl := t.bl
  have br := t.br
  have bf := t.bf
  have tt := Lib.hid t
  clear t
  obtain ⟨k, nm, con, fa, fl, fc, la, ll, lc, ra, rl, rc⟩ := h
  simp only at hk rn rc' bl br bf
  subst hk
  have hn := Lib.hid rn
  clear rn
  have e0 : fm ⟨12, nm, con, fa, fl, fc, la, ll, lc, ra, rl, rc⟩ T.fn = (nmB nm && decide (1 ≤ con ∧ con ≤ 3 ∧ fl + ll + rl = 0)) := by
    rw [Bool.eq_iff_iff]; simp [fm, bareB]; constructor <;> (intro q; (first | exact ⟨q.1.2, by omega⟩ | exact ⟨⟨by omega, q.1⟩, by omega⟩))
  have E0 := Lib.hid e0; clear e0
  cases c1 : nmB nm with
  | false =>
    go_enter Try.func44, Try.ntmps44
    go_wp2_with (first | (go_at_call 54; (with_reducible refine (c_isName _ _ hn.out).mono ?_); rintro e w' ⟨rfl, hkn⟩; obtain ⟨y0, y1, y2, y3, y4, y5, ys⟩ := boxed (h := ⟨12, nm, con, fa, fl, fc, la, ll, lc, ra, rl, rc⟩) (Kp.trans ((Kp.refl _).alloc _) hkn); simp only at y0 y1 y2 y3 y4 y5; obtain ⟨z0, z1, z2, z3, z4, z5, zf⟩ := boxed2 (h := ⟨12, nm, con, fa, fl, fc, la, ll, lc, ra, rl, rc⟩) hkn; simp only at z0 z1 z2 z3 z4 z5; rw [c1]))
    all_goals go_ret
    all_goals refine ⟨ret_bool ?_, (((((Kp.refl w).alloc _).alloc _).trans hkn).setCell (by simp) _).setCell (by simp) _⟩
    all_goals rw [E0.out, c1]
    all_goals
      (first | (simp only [em_iff] at *) | skip)
      first
      | (rw [Bool.eq_iff_iff]; simp only [beq_iff_eq, decide_eq_true_eq, Bool.and_eq_true, Bool.true_and, Bool.false_and, Bool.and_false, Bool.and_true, Bool.false_eq_true, false_iff, iff_false, true_iff, iff_true]; omega)
      | (simp; done)
  | true =>
    go_enter Try.func44, Try.ntmps44
    go_wp2_with (first | (go_at_call 54; (with_reducible refine (c_isName _ _ hn.out).mono ?_); rintro e w' ⟨rfl, hkn⟩; obtain ⟨y0, y1, y2, y3, y4, y5, ys⟩ := boxed (h := ⟨12, nm, con, fa, fl, fc, la, ll, lc, ra, rl, rc⟩) (Kp.trans ((Kp.refl _).alloc _) hkn); simp only at y0 y1 y2 y3 y4 y5; obtain ⟨z0, z1, z2, z3, z4, z5, zf⟩ := boxed2 (h := ⟨12, nm, con, fa, fl, fc, la, ll, lc, ra, rl, rc⟩) hkn; simp only at z0 z1 z2 z3 z4 z5; rw [c1]))
    all_goals go_ret
    all_goals refine ⟨ret_bool ?_, (((((Kp.refl w).alloc _).alloc _).trans hkn).setCell (by simp) _).setCell (by simp) _⟩
    all_goals rw [E0.out, c1]
    all_goals
      (first | (simp only [em_iff] at *) | skip)
      first
      | (rw [Bool.eq_iff_iff]; simp only [beq_iff_eq, decide_eq_true_eq, Bool.and_eq_true, Bool.true_and, Bool.false_and, Bool.and_false, Bool.and_true, Bool.false_eq_true, false_iff, iff_false, true_iff, iff_true]; omega)
      | (simp; done)
set_option maxHeartbeats 3200000 in
set_option maxRecDepth 100000 in
theorem formed8 (T : Ty) (h : Hd) (K : Nat → Hd) (w : World) (t : Top w A0 T h K) (hk : h.k = 8) :
    Calls Try.prog 44 #[h.val] w fun x w' => x = .returned (.bool (fm h T.fn)) ∧ Kp w w' := by
  have rn := t.rn
  have rc' := t.rc
  have bl := t.bl
  have br := t.br
  have bf := t.bf
  have tt := Lib.hid t
  clear t
  obtain ⟨k, nm, con, fa, fl, fc, la, ll, lc, ra, rl, rc⟩ := h
  simp only at hk rn rc' bl br bf
  subst hk
  have hn := Lib.hid rn
  clear rn
  obtain ⟨v, c2⟩ : ∃ v, (namesB T.fn && decide (fl ≤ 16)) = v := ⟨_, rfl⟩
  have e0 : fm ⟨8, nm, con, fa, fl, fc, la, ll, lc, ra, rl, rc⟩ T.fn = (nmB nm && v && decide (con = 0 ∧ ll + rl = 0)) := by
    rw [← c2]
    rw [Bool.eq_iff_iff]; simp [fm, bareB]
    constructor
    · intro q; exact ⟨⟨q.2.1.2, q.1, q.2.2⟩, by omega⟩
    · intro q; exact ⟨q.1.2.1, ⟨by omega, q.1.1⟩, q.1.2.2⟩
  have E0 := Lib.hid e0; clear e0
  cases c1 : nmB nm with
  | false =>
    go_enter Try.func44, Try.ntmps44
    go_wp2_with (first | (go_at_call 54; (with_reducible refine (c_isName _ _ hn.out).mono ?_); rintro e w' ⟨rfl, hkn⟩; obtain ⟨y0, y1, y2, y3, y4, y5, ys⟩ := boxed (h := ⟨8, nm, con, fa, fl, fc, la, ll, lc, ra, rl, rc⟩) (Kp.trans ((Kp.refl _).alloc _) hkn); simp only at y0 y1 y2 y3 y4 y5; obtain ⟨z0, z1, z2, z3, z4, z5, zf⟩ := boxed2 (h := ⟨8, nm, con, fa, fl, fc, la, ll, lc, ra, rl, rc⟩) hkn; simp only at z0 z1 z2 z3 z4 z5; rw [c1]))
    all_goals go_ret
    all_goals refine ⟨ret_bool ?_, (((((Kp.refl w).alloc _).alloc _).trans hkn).setCell (by simp) _).setCell (by simp) _⟩
    all_goals rw [E0.out, c1]
    all_goals
      (first | (simp only [em_iff] at *) | skip)
      first
      | (rw [Bool.eq_iff_iff]; simp only [beq_iff_eq, decide_eq_true_eq, Bool.and_eq_true, Bool.true_and, Bool.false_and, Bool.and_false, Bool.and_true, Bool.false_eq_true, false_iff, iff_false, true_iff, iff_true]; omega)
      | (simp; done)
  | true =>
    cases v with
    | false =>
      go_enter Try.func44, Try.ntmps44
      go_wp2_with (first | (go_at_call 54; (with_reducible refine (c_isName _ _ hn.out).mono ?_); rintro e w' ⟨rfl, hkn⟩; obtain ⟨y0, y1, y2, y3, y4, y5, ys⟩ := boxed (h := ⟨8, nm, con, fa, fl, fc, la, ll, lc, ra, rl, rc⟩) (Kp.trans ((Kp.refl _).alloc _) hkn); simp only at y0 y1 y2 y3 y4 y5; obtain ⟨z0, z1, z2, z3, z4, z5, zf⟩ := boxed2 (h := ⟨8, nm, con, fa, fl, fc, la, ll, lc, ra, rl, rc⟩) hkn; simp only at z0 z1 z2 z3 z4 z5; rw [c1]) | (go_at_call 55; (with_reducible refine (c_areFields T ⟨8, nm, con, fa, fl, fc, la, ll, lc, ra, rl, rc⟩ K _ (tt.out.keep ((((Kp.refl w).alloc _).alloc _).trans hkn))).mono ?_); rintro e w' ⟨rfl, hka⟩; obtain ⟨x0, x1, x2, x3, x4, x5, xs⟩ := boxed (h := ⟨8, nm, con, fa, fl, fc, la, ll, lc, ra, rl, rc⟩) (Kp.trans ((Kp.refl _).alloc _) (Kp.trans hkn hka)); simp only at x0 x1 x2 x3 x4 x5; obtain ⟨v0, v1, v2, v3, v4, v5, vf⟩ := boxed2 (h := ⟨8, nm, con, fa, fl, fc, la, ll, lc, ra, rl, rc⟩) (Kp.trans hkn hka); simp only at v0 v1 v2 v3 v4 v5; rw [c2]))
      all_goals go_ret
      all_goals refine ⟨ret_bool ?_, ((((((Kp.refl w).alloc _).alloc _).trans hkn).trans hka).setCell (by simp) _).setCell (by simp) _⟩
      all_goals rw [E0.out, c1]
      all_goals
        (first | (simp only [em_iff] at *) | skip)
        first
        | (rw [Bool.eq_iff_iff]; simp only [beq_iff_eq, decide_eq_true_eq, Bool.and_eq_true, Bool.true_and, Bool.false_and, Bool.and_false, Bool.and_true, Bool.false_eq_true, false_iff, iff_false, true_iff, iff_true]; omega)
        | (simp; done)
    | true =>
      go_enter Try.func44, Try.ntmps44
      go_wp2_with (first | (go_at_call 54; (with_reducible refine (c_isName _ _ hn.out).mono ?_); rintro e w' ⟨rfl, hkn⟩; obtain ⟨y0, y1, y2, y3, y4, y5, ys⟩ := boxed (h := ⟨8, nm, con, fa, fl, fc, la, ll, lc, ra, rl, rc⟩) (Kp.trans ((Kp.refl _).alloc _) hkn); simp only at y0 y1 y2 y3 y4 y5; obtain ⟨z0, z1, z2, z3, z4, z5, zf⟩ := boxed2 (h := ⟨8, nm, con, fa, fl, fc, la, ll, lc, ra, rl, rc⟩) hkn; simp only at z0 z1 z2 z3 z4 z5; rw [c1]) | (go_at_call 55; (with_reducible refine (c_areFields T ⟨8, nm, con, fa, fl, fc, la, ll, lc, ra, rl, rc⟩ K _ (tt.out.keep ((((Kp.refl w).alloc _).alloc _).trans hkn))).mono ?_); rintro e w' ⟨rfl, hka⟩; obtain ⟨x0, x1, x2, x3, x4, x5, xs⟩ := boxed (h := ⟨8, nm, con, fa, fl, fc, la, ll, lc, ra, rl, rc⟩) (Kp.trans ((Kp.refl _).alloc _) (Kp.trans hkn hka)); simp only at x0 x1 x2 x3 x4 x5; obtain ⟨v0, v1, v2, v3, v4, v5, vf⟩ := boxed2 (h := ⟨8, nm, con, fa, fl, fc, la, ll, lc, ra, rl, rc⟩) (Kp.trans hkn hka); simp only at v0 v1 v2 v3 v4 v5; rw [c2]))
      all_goals go_ret
      all_goals refine ⟨ret_bool ?_, ((((((Kp.refl w).alloc _).alloc _).trans hkn).trans hka).setCell (by simp) _).setCell (by simp) _⟩
      all_goals rw [E0.out, c1]
      all_goals
        (first | (simp only [em_iff] at *) | skip)
        first
        | (rw [Bool.eq_iff_iff]; simp only [beq_iff_eq, decide_eq_true_eq, Bool.and_eq_true, Bool.true_and, Bool.false_and, Bool.and_false, Bool.and_true, Bool.false_eq_true, false_iff, iff_false, true_iff, iff_true]; omega)
        | (simp; done)
theorem c_isFormed (T : Ty) (h : Hd) (K : Nat → Hd) (w : World) (t : Top w A0 T h K) :
    Calls Try.prog 44 #[h.val] w fun x w' => x = .returned (.bool (fm h T.fn)) ∧ Kp w w' := by
  by_cases hk : h.k < 1 ∨ 12 < h.k
  · exact formedk T h K w t hk
  · rcases (by omega : h.k = 1 ∨ h.k = 2 ∨ h.k = 3 ∨ h.k = 4 ∨ h.k = 5 ∨ h.k = 6 ∨ h.k = 7 ∨ h.k = 8 ∨ h.k = 9 ∨ h.k = 10 ∨ h.k = 11 ∨ h.k = 12) with e | e | e | e | e | e | e | e | e | e | e | e
    · exact formed1 T h K w t e
    · exact formed2 T h K w t e
    · exact formed3 T h K w t e
    · exact formed4 T h K w t e
    · exact formed5 T h K w t e
    · exact formed6 T h K w t e
    · exact formed7 T h K w t e
    · exact formed8 T h K w t e
    · exact formed9 T h K w t e
    · exact formed10 T h K w t e
    · exact formed11 T h K w t e
    · exact formed12 T h K w t e
end Go.Proofs.Ytfjflfokmihcpaa
