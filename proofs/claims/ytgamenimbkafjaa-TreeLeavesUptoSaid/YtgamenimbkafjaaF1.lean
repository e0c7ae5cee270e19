/- The small questions about a node's head in package tree: its sort by its Kind; whether it is bare, named, or one of two. Condition: its text is no longer than the form allows. -/
import Derived.Test.YtgamenimbkafjaaT1
import Derived.Test.YtgamenimbkafjaaA3
namespace Go.Proofs.Ytgamenimbkafjaa
open Go.RowKit
set_option linter.unusedVariables false
set_option linter.unusedSimpArgs false

def tyK (k : Int) : Bool := decide (10 ≤ k ∧ k ≤ 13)
def stK (k : Int) : Bool := decide ((20 ≤ k ∧ k ≤ 29) ∨ k = 41 ∨ k = 42)
def exK (k : Int) : Bool := decide (30 ≤ k ∧ k ≤ 40)
def brK (k : Int) : Bool := decide ((30 ≤ k ∧ k ≤ 40) ∨ k = 11 ∨ k = 12)
set_option maxHeartbeats 1600000 in
theorem c_isType (h : Hn) (w : World) : Calls Try.prog 34 #[h.val] w fun e w' => e = .returned (.bool (tyK h.k)) ∧ Kp w w' := by
  obtain ⟨k, tx, n, at_, la, ll, lc⟩ := h
  simp only
  have hq : k < 10 ∨ (10 ≤ k ∧ k ≤ 13) ∨ 13 < k := by omega
  rcases hq with h | h | h
  all_goals
    first | rw [show tyK k = true from decide_eq_true (by omega)] | rw [show tyK k = false from decide_eq_false (by omega)]
    first | have d0 : decide (10 ≤ k) = true := decide_eq_true (by omega) | have d0 : decide (10 ≤ k) = false := decide_eq_false (by omega)
    first | have d1 : decide (k ≤ 13) = true := decide_eq_true (by omega) | have d1 : decide (k ≤ 13) = false := decide_eq_false (by omega)
    clear h
    go_enter Try.func34, Try.ntmps34
    go_wp2_with fail
    go_ret
    exact ⟨rfl, (Kp.refl w).alloc _⟩
set_option maxHeartbeats 1600000 in
theorem c_isExpression (h : Hn) (w : World) : Calls Try.prog 33 #[h.val] w fun e w' => e = .returned (.bool (exK h.k)) ∧ Kp w w' := by
  obtain ⟨k, tx, n, at_, la, ll, lc⟩ := h
  simp only
  have hq : k < 30 ∨ (30 ≤ k ∧ k ≤ 40) ∨ 40 < k := by omega
  rcases hq with h | h | h
  all_goals
    first | rw [show exK k = true from decide_eq_true (by omega)] | rw [show exK k = false from decide_eq_false (by omega)]
    first | have d0 : decide (30 ≤ k) = true := decide_eq_true (by omega) | have d0 : decide (30 ≤ k) = false := decide_eq_false (by omega)
    first | have d1 : decide (k ≤ 40) = true := decide_eq_true (by omega) | have d1 : decide (k ≤ 40) = false := decide_eq_false (by omega)
    clear h
    go_enter Try.func33, Try.ntmps33
    go_wp2_with fail
    go_ret
    exact ⟨rfl, (Kp.refl w).alloc _⟩
set_option maxHeartbeats 1600000 in
theorem c_isStatement (h : Hn) (w : World) : Calls Try.prog 32 #[h.val] w fun e w' => e = .returned (.bool (stK h.k)) ∧ Kp w w' := by
  obtain ⟨k, tx, n, at_, la, ll, lc⟩ := h
  simp only
  have hq : k < 20 ∨ (20 ≤ k ∧ k ≤ 29) ∨ (29 < k ∧ k < 41) ∨ k = 41 ∨ k = 42 ∨ 42 < k := by omega
  rcases hq with h | h | h | h | h | h
  all_goals
    first | rw [show stK k = true from decide_eq_true (by omega)] | rw [show stK k = false from decide_eq_false (by omega)]
    first | have d0 : decide (20 ≤ k) = true := decide_eq_true (by omega) | have d0 : decide (20 ≤ k) = false := decide_eq_false (by omega)
    first | have d1 : decide (k ≤ 29) = true := decide_eq_true (by omega) | have d1 : decide (k ≤ 29) = false := decide_eq_false (by omega)
    first | have e0 : (k == 41) = true := beq_iff_eq.2 (by omega) | have e0 : (k == 41) = false := beq_eq_false_iff_ne.2 (by omega)
    first | have e1 : (k == 42) = true := beq_iff_eq.2 (by omega) | have e1 : (k == 42) = false := beq_eq_false_iff_ne.2 (by omega)
    clear h
    go_enter Try.func32, Try.ntmps32
    go_wp2_with fail
    go_ret
    exact ⟨rfl, (Kp.refl w).alloc _⟩
set_option maxHeartbeats 1600000 in
theorem c_isInBrackets (h : Hn) (w : World) : Calls Try.prog 65 #[h.val] w fun e w' => e = .returned (.bool (brK h.k)) ∧ Kp w w' := by
  obtain ⟨k, tx, n, at_, la, ll, lc⟩ := h
  simp only
  have hq : k < 11 ∨ k = 11 ∨ k = 12 ∨ (12 < k ∧ k < 30) ∨ (30 ≤ k ∧ k ≤ 40) ∨ 40 < k := by omega
  rcases hq with h | h | h | h | h | h
  all_goals
    first | rw [show brK k = true from decide_eq_true (by omega)] | rw [show brK k = false from decide_eq_false (by omega)]
    first | have HX := Lib.hid (show exK k = true from decide_eq_true (by omega)) | have HX := Lib.hid (show exK k = false from decide_eq_false (by omega))
    first | have e0 : (k == 11) = true := beq_iff_eq.2 (by omega) | have e0 : (k == 11) = false := beq_eq_false_iff_ne.2 (by omega)
    first | have e1 : (k == 12) = true := beq_iff_eq.2 (by omega) | have e1 : (k == 12) = false := beq_eq_false_iff_ne.2 (by omega)
    clear h
    go_enter Try.func65, Try.ntmps65
    go_wp2_with (first | (go_at_call 33; (with_reducible refine (c_isExpression ⟨k, tx, n, at_, la, ll, lc⟩ _).mono ?_); rintro e w' ⟨rfl, hk⟩; simp only [HX.out]; obtain ⟨g0, _, _, _, _, _⟩ := boxed (w := w) (h := ⟨k, tx, n, at_, la, ll, lc⟩) hk; simp only at g0))
    go_ret
    exact ⟨rfl, ((Kp.refl w).alloc _).trans hk⟩

/-- No text and no number. -/
noncomputable def bareB (tx : ByteArray) (n : Int) : Bool := @decide (tx = ⟨#[]⟩ ∧ n = 0) (Classical.propDecidable _)
noncomputable def namedB (tx : ByteArray) (n : Int) : Bool := nameB tx && decide (n = 0)
noncomputable def eitherB (tx : ByteArray) (n : Int) : Bool := @decide (tx = ⟨#[]⟩ ∧ n ≤ 1) (Classical.propDecidable _)
theorem dec_yes {p : Prop} (h : p) : @decide p (Classical.propDecidable _) = true := @decide_eq_true _ (Classical.propDecidable _) h
theorem dec_no {p : Prop} (h : ¬ p) : @decide p (Classical.propDecidable _) = false := @decide_eq_false _ (Classical.propDecidable _) h
theorem tx_cases (tx : ByteArray) : tx = ⟨#[]⟩ ∨ (tx ≠ ⟨#[]⟩ ∧ (tx.toList = []) = False ∧ tx.toList.isEmpty = false ∧ (tx.toList == []) = false) := by
  by_cases h : tx.size = 0
  · exact .inl (em_yes h)
  · obtain ⟨a, b⟩ := em_no h
    exact .inr ⟨fun e => h (by rw [e]; rfl), a, b, by cases hl : tx.toList with | nil => simp [hl] at a | cons x l => rfl⟩
set_option maxHeartbeats 1600000 in
theorem c_isBare (h : Hn) (w : World) : Calls Try.prog 59 #[h.val] w fun e w' => e = .returned (.bool (bareB h.tx h.n)) ∧ Kp w w' := by
  obtain ⟨k, tx, n, at_, la, ll, lc⟩ := h
  simp only
  rcases tx_cases tx with rfl | ⟨t0, t1, t2, t3⟩
  · have hq : n = 0 ∨ n ≠ 0 := by omega
    rcases hq with h | h
    all_goals
      unfold bareB
      first | rw [dec_yes (by exact ⟨rfl, h⟩)] | rw [dec_no (by intro hh; have := hh.2; omega)]
      first | have e0 : (n == 0) = true := beq_iff_eq.2 (by omega) | have e0 : (n == 0) = false := beq_eq_false_iff_ne.2 (by omega)
      clear h
      go_enter Try.func59, Try.ntmps59
      go_wp2_with fail
      go_ret
      exact ⟨rfl, (Kp.refl w).alloc _⟩
  · unfold bareB
    rw [dec_no (by intro hh; exact t0 hh.1)]
    go_enter Try.func59, Try.ntmps59
    go_wp2_with fail
    go_ret
    exact ⟨rfl, (Kp.refl w).alloc _⟩
set_option maxHeartbeats 1600000 in
theorem c_isEither (h : Hn) (w : World) : Calls Try.prog 60 #[h.val] w fun e w' => e = .returned (.bool (eitherB h.tx h.n)) ∧ Kp w w' := by
  obtain ⟨k, tx, n, at_, la, ll, lc⟩ := h
  simp only
  rcases tx_cases tx with rfl | ⟨t0, t1, t2, t3⟩
  · have hq : n ≤ 1 ∨ 1 < n := by omega
    rcases hq with h | h
    all_goals
      unfold eitherB
      first | rw [dec_yes (by exact ⟨rfl, h⟩)] | rw [dec_no (by intro hh; have := hh.2; omega)]
      first | have e0 : decide (n ≤ 1) = true := decide_eq_true (by omega) | have e0 : decide (n ≤ 1) = false := decide_eq_false (by omega)
      clear h
      go_enter Try.func60, Try.ntmps60
      go_wp2_with fail
      go_ret
      exact ⟨rfl, (Kp.refl w).alloc _⟩
  · unfold eitherB
    rw [dec_no (by intro hh; exact t0 hh.1)]
    go_enter Try.func60, Try.ntmps60
    go_wp2_with fail
    go_ret
    exact ⟨rfl, (Kp.refl w).alloc _⟩
set_option maxHeartbeats 1600000 in
theorem c_isNamed (h : Hn) (w : World) (hs : h.tx.size ≤ 140737488351232) : Calls Try.prog 57 #[h.val] w fun e w' => e = .returned (.bool (namedB h.tx h.n)) ∧ Kp w w' := by
  obtain ⟨k, tx, n, at_, la, ll, lc⟩ := h
  simp only at hs ⊢
  unfold namedB
  cases hn : nameB tx with
  | false =>
    go_enter Try.func57, Try.ntmps57
    go_wp2_with (first | (go_at_call 67; (with_reducible refine (c_scanName tx _ hs).mono ?_); rintro e w' ⟨rfl, hk⟩; rw [hn]))
    go_ret
    exact ⟨rfl, ((Kp.refl w).alloc _).trans hk⟩
  | true =>
    have hq : n = 0 ∨ n ≠ 0 := by omega
    rcases hq with h | h
    all_goals
      first | rw [show decide (n = 0) = true from decide_eq_true h] | rw [show decide (n = 0) = false from decide_eq_false h]
      first | have e0 : (n == 0) = true := beq_iff_eq.2 (by omega) | have e0 : (n == 0) = false := beq_eq_false_iff_ne.2 (by omega)
      clear h
      go_enter Try.func57, Try.ntmps57
      go_wp2_with (first | (go_at_call 67; (with_reducible refine (c_scanName tx _ hs).mono ?_); rintro e w' ⟨rfl, hk⟩; rw [hn]; obtain ⟨_, _, g2, _, _, _⟩ := boxed (w := w) (h := ⟨k, tx, n, at_, la, ll, lc⟩) hk; simp only at g2))
      go_ret
      exact ⟨rfl, ((Kp.refl w).alloc _).trans hk⟩
end Go.Proofs.Ytgamenimbkafjaa
