/- Which constraints a type fits: Fits of package types, Meets of the reference; lists of texts that are the same. Condition: the type lies in memory. -/
import Derived.Test.YtfjflfokmihcpaaP
import Derived.Test.YtfjflfokmihcpaaW
namespace Go.Proofs.Ytfjflfokmihcpaa
open Go.RowKit
set_option linter.unusedVariables false
set_option linter.unusedSimpArgs false

/-- A whole number of some kind. -/
def whole (T : Ty) : Bool := if T.k = 12 then decide (T.con = 3) else decide (2 ≤ T.k ∧ T.k ≤ 7)
theorem c_Whole (k : Int) (w : World) : Calls Try.prog 42 #[.int .i64 k] w fun e w' => e = .returned (.bool (decide (2 ≤ k ∧ k ≤ 7))) ∧ w = w' := by
  by_cases h1 : 2 ≤ k
  · by_cases h2 : k ≤ 7
    · rw [decide_eq_true (show 2 ≤ k ∧ k ≤ 7 from ⟨h1, h2⟩)]
      have d0 : decide (k ≤ 7) = true := decide_eq_true h2
      go_enter Try.func42, Try.ntmps42; go_wp2; go_ret; exact ⟨rfl, rfl⟩
    · rw [decide_eq_false (show ¬ (2 ≤ k ∧ k ≤ 7) by omega)]
      have d0 : decide (k ≤ 7) = false := decide_eq_false h2
      go_enter Try.func42, Try.ntmps42; go_wp2; go_ret; exact ⟨rfl, rfl⟩
  · rw [decide_eq_false (show ¬ (2 ≤ k ∧ k ≤ 7) by omega)]
    go_enter Try.func42, Try.ntmps42; go_wp2; go_ret; exact ⟨rfl, rfl⟩
theorem c_isWhole (T : Ty) (h : Hd) (K : Nat → Hd) (w : World) (t : Top w A0 T h K) :
    Calls Try.prog 40 #[h.val] w fun e w' => e = .returned (.bool (whole T)) ∧ Kp w w' := by
  have ek := t.ek
  have ec := t.ec
  by_cases hk : h.k = 12
  · have hq : (h.k == 12) = true := beq_iff_eq.2 hk
    by_cases hc : h.con = 3
    · have hq2 : (h.con == 3) = true := beq_iff_eq.2 hc
      rw [show whole T = true by unfold whole; rw [if_pos (ek.trans hk)]; exact decide_eq_true (ec.trans hc)]
      clear t ek ec hk hc
      go_enter Try.func40, Try.ntmps40; go_wp2; go_ret; exact ⟨rfl, (Kp.refl w).alloc _⟩
    · have hq2 : (h.con == 3) = false := beq_eq_false_iff_ne.2 hc
      rw [show whole T = false by unfold whole; rw [if_pos (ek.trans hk)]; exact decide_eq_false (by rw [ec]; exact hc)]
      clear t ek ec hk hc
      go_enter Try.func40, Try.ntmps40; go_wp2; go_ret; exact ⟨rfl, (Kp.refl w).alloc _⟩
  · have hq : (h.k == 12) = false := beq_eq_false_iff_ne.2 hk
    have hw : whole T = decide (2 ≤ h.k ∧ h.k ≤ 7) := by unfold whole; rw [if_neg (by rw [ek]; exact hk), ek]
    rw [hw]
    clear t ek ec hk hw
    by_cases h1 : 2 ≤ h.k
    · by_cases h2 : h.k ≤ 7
      · rw [decide_eq_true (show 2 ≤ h.k ∧ h.k ≤ 7 from ⟨h1, h2⟩)]
        have d0 : decide (h.k ≤ 7) = true := decide_eq_true h2
        go_enter Try.func40, Try.ntmps40; go_wp2; go_ret; exact ⟨rfl, (Kp.refl w).alloc _⟩
      · rw [decide_eq_false (show ¬ (2 ≤ h.k ∧ h.k ≤ 7) by omega)]
        have d0 : decide (h.k ≤ 7) = false := decide_eq_false h2
        go_enter Try.func40, Try.ntmps40; go_wp2; go_ret; exact ⟨rfl, (Kp.refl w).alloc _⟩
    · rw [decide_eq_false (show ¬ (2 ≤ h.k ∧ h.k ≤ 7) by omega)]
      have d1 : decide (2 ≤ h.k) = false := decide_eq_false h1
      go_enter Try.func40, Try.ntmps40; go_wp2; go_ret; exact ⟨rfl, (Kp.refl w).alloc _⟩
/-- Whether a sound type fits a constraint. -/
def fitB (T : Ty) (con : Int) : Bool := if con = 1 then true else if con = 2 then cmp 9 T else whole T
set_option maxHeartbeats 1600000 in
theorem c_Meets (R : Nat) (T : Ty) (h : Hd) (w : World) (con : Int) (hl : Lies w A0 R T h) (hs : (look 9 T).2.2 = true) (hc : 1 ≤ con ∧ con ≤ 3) :
    Calls Try.prog 28 #[h.val, .int .i64 con] w fun e w' => e = .returned (.bool (fitB T con)) ∧ Kp w w' := by
  have HL := Lib.hid hl
  have HS := Lib.hid hs
  by_cases h1 : con = 1
  · subst h1
    clear hl hs hc
    rw [show fitB T 1 = true from rfl]
    go_enter Try.func28, Try.ntmps28; go_wp2; go_ret; exact ⟨rfl, (Kp.refl w).alloc _⟩
  by_cases h2 : con = 2
  · subst h2
    clear hl hs hc h1
    rw [show fitB T 2 = cmp 9 T from rfl]
    go_enter Try.func28, Try.ntmps28
    go_wp2_with (first | (go_at_call 41; (with_reducible refine (c_Equals 9 R T h _ (HL.out.keep ((Kp.refl w).alloc _)) HS.out).mono ?_); rintro e w2 ⟨rfl, hk2⟩))
    go_ret
    exact ⟨rfl, ((Kp.refl w).alloc _).trans hk2⟩
  obtain rfl : con = 3 := by omega
  rw [show fitB T 3 = whole T from rfl]
  obtain ⟨ek, ec⟩ : T.k = h.k ∧ T.con = h.con := by
    cases R with
    | zero => exact hl.elim
    | succ R => obtain ⟨K, t, _⟩ := hl; exact ⟨t.ek, t.ec⟩
  clear hl hs hc h1 h2
  by_cases hk : h.k = 12
  · have hq : (h.k == 12) = true := beq_iff_eq.2 hk
    have hw : whole T = decide (h.con = 3) := by unfold whole; rw [if_pos (ek.trans hk), ec]
    have HW := Lib.hid (show decide (2 ≤ h.k ∧ h.k ≤ 7) = false from decide_eq_false (by omega))
    rw [hw]
    clear hw hk ek ec
    by_cases hc : h.con = 3
    · have hq2 : (h.con == 3) = true := beq_iff_eq.2 hc
      rw [decide_eq_true hc]
      clear hc
      go_enter Try.func28, Try.ntmps28
      go_wp2_with (first | (go_at_call 42; (with_reducible refine (c_Whole _ _).mono ?_); rintro e w2 ⟨rfl, rfl⟩; rw [HW.out]))
      go_ret
      exact ⟨rfl, (Kp.refl w).alloc _⟩
    · have hq2 : (h.con == 3) = false := beq_eq_false_iff_ne.2 hc
      rw [decide_eq_false hc]
      clear hc
      go_enter Try.func28, Try.ntmps28
      go_wp2_with (first | (go_at_call 42; (with_reducible refine (c_Whole _ _).mono ?_); rintro e w2 ⟨rfl, rfl⟩; rw [HW.out]))
      go_ret
      exact ⟨rfl, (Kp.refl w).alloc _⟩
  · have hq : (h.k == 12) = false := beq_eq_false_iff_ne.2 hk
    have hw : whole T = decide (2 ≤ h.k ∧ h.k ≤ 7) := by unfold whole; rw [if_neg (by rw [ek]; exact hk), ek]
    rw [hw]
    clear hw hk ek ec
    cases hv : decide (2 ≤ h.k ∧ h.k ≤ 7) with
    | true =>
      have HW := Lib.hid hv
      clear hv
      go_enter Try.func28, Try.ntmps28
      go_wp2_with (first | (go_at_call 42; (with_reducible refine (c_Whole _ _).mono ?_); rintro e w2 ⟨rfl, rfl⟩; rw [HW.out]))
      go_ret
      exact ⟨rfl, (Kp.refl w).alloc _⟩
    | false =>
      have HW := Lib.hid hv
      clear hv
      go_enter Try.func28, Try.ntmps28
      go_wp2_with (first | (go_at_call 42; (with_reducible refine (c_Whole _ _).mono ?_); rintro e w2 ⟨rfl, rfl⟩; rw [HW.out]))
      go_ret
      exact ⟨rfl, (Kp.refl w).alloc _⟩
theorem fits_bad (R : Nat) (T : Ty) (h : Hd) (w : World) (con : Int) (hl : Lies w A0 R T h) (hs : (look 9 T).2.2 = false) :
    Calls Try.prog 27 #[h.val, .int .i64 con] w fun e w' => e = .returned (.tuple #[.bool false, .int .i64 1]) ∧ Kp w w' := by
  have HL := Lib.hid hl
  have HS := Lib.hid hs
  clear hl hs
  go_enter Try.func27, Try.ntmps27
  go_wp2_with (first | (go_at_call 29; (with_reducible refine (c_Check R T h _ (HL.out.keep ((Kp.refl w).alloc _))).mono ?_); rintro e w' ⟨rfl, hk6⟩; rw [HS.out, show ef false = 1 from rfl]))
  go_ret2
  exact ⟨rfl, ((Kp.refl w).alloc _).trans hk6⟩
theorem fits_none (R : Nat) (T : Ty) (h : Hd) (w : World) (con : Int) (hl : Lies w A0 R T h) (hs : (look 9 T).2.2 = true) (hc : ¬ (1 ≤ con ∧ con ≤ 3)) :
    Calls Try.prog 27 #[h.val, .int .i64 con] w fun e w' => e = .returned (.tuple #[.bool false, .int .i64 2]) ∧ Kp w w' := by
  have HL := Lib.hid hl
  have HS := Lib.hid hs
  have h1 : (con == 1) = false := beq_eq_false_iff_ne.2 (by omega)
  have h2 : (con == 2) = false := beq_eq_false_iff_ne.2 (by omega)
  have h3 : (con == 3) = false := beq_eq_false_iff_ne.2 (by omega)
  clear hl hs hc
  go_enter Try.func27, Try.ntmps27
  go_wp2_with (first | (go_at_call 29; (with_reducible refine (c_Check R T h _ (HL.out.keep ((Kp.refl w).alloc _))).mono ?_); rintro e w' ⟨rfl, hk6⟩; rw [HS.out, show ef true = 0 from rfl]; obtain ⟨q0, q1, q2, q3, q4, q5, qs⟩ := boxed (h := h) hk6; have ql : w.heap.size < w'.heap.size := qs))
  go_ret2
  exact ⟨rfl, ((Kp.refl w).alloc _).trans hk6⟩
theorem fits_some (R : Nat) (T : Ty) (h : Hd) (w : World) (con : Int) (hl : Lies w A0 R T h) (hs : (look 9 T).2.2 = true) (hc : 1 ≤ con ∧ con ≤ 3) :
    Calls Try.prog 27 #[h.val, .int .i64 con] w fun e w' => e = .returned (.tuple #[.bool (fitB T con), .int .i64 0]) ∧ Kp w w' := by
  have HL := Lib.hid hl
  have HS := Lib.hid hs
  by_cases h1 : con = 1
  · subst h1
    rw [show fitB T 1 = true from rfl]
    clear hl hs hc
    go_enter Try.func27, Try.ntmps27
    go_wp2_with (first | (go_at_call 29; (with_reducible refine (c_Check R T h _ (HL.out.keep ((Kp.refl w).alloc _))).mono ?_); rintro e w' ⟨rfl, hk6⟩; rw [HS.out, show ef true = 0 from rfl]; obtain ⟨q0, q1, q2, q3, q4, q5, qs⟩ := boxed (h := h) hk6; have ql : w.heap.size < w'.heap.size := qs))
    go_ret2
    exact ⟨rfl, ((Kp.refl w).alloc _).trans hk6⟩
  by_cases h2 : con = 2
  · subst h2
    rw [show fitB T 2 = cmp 9 T from rfl]
    clear hl hs hc h1
    go_enter Try.func27, Try.ntmps27
    go_wp2_with (first | (go_at_call 29; (with_reducible refine (c_Check R T h _ (HL.out.keep ((Kp.refl w).alloc _))).mono ?_); rintro e w' ⟨rfl, hk6⟩; rw [HS.out, show ef true = 0 from rfl]; obtain ⟨q0, q1, q2, q3, q4, q5, qs⟩ := boxed (h := h) hk6; have ql : w.heap.size < w'.heap.size := qs) | (go_at_call 39; (with_reducible refine (c_isComparable R T h _ (HL.out.keep (((Kp.refl w).alloc _).trans hk6)) HS.out).mono ?_); rintro e w7 ⟨rfl, hk7⟩))
    go_ret2
    exact ⟨rfl, (((Kp.refl w).alloc _).trans hk6).trans hk7⟩
  obtain rfl : con = 3 := by omega
  rw [show fitB T 3 = whole T from rfl]
  obtain ⟨K, t⟩ : ∃ K, Hid (Top w A0 T h K) := by
    cases R with
    | zero => exact hl.elim
    | succ R => obtain ⟨K, t, _⟩ := hl; exact ⟨K, Lib.hid t⟩
  clear hl hs hc h1 h2
  go_enter Try.func27, Try.ntmps27
  go_wp2_with (first | (go_at_call 29; (with_reducible refine (c_Check R T h _ (HL.out.keep ((Kp.refl w).alloc _))).mono ?_); rintro e w' ⟨rfl, hk6⟩; rw [HS.out, show ef true = 0 from rfl]; obtain ⟨q0, q1, q2, q3, q4, q5, qs⟩ := boxed (h := h) hk6; have ql : w.heap.size < w'.heap.size := qs) | (go_at_call 40; (with_reducible refine (c_isWhole T h K _ (t.out.keep (((Kp.refl w).alloc _).trans hk6))).mono ?_); rintro e w7 ⟨rfl, hk7⟩))
  go_ret2
  exact ⟨rfl, (((Kp.refl w).alloc _).trans hk6).trans hk7⟩
end Go.Proofs.Ytfjflfokmihcpaa
