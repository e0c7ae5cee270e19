/- Letters and names, in package letter and in the reference: the same plain functions. No condition. -/
import Derived.Test.YtgamenimbkafjaaChecked
import Derived.Test.YtgamenimbkafjaaT0
import Derived.Handy
import Derived.Lib.Hide
import Derived.WalkLawsBesides
import Derived.Outline
namespace Go.Proofs.Ytgamenimbkafjaa
open Go.RowKit
set_option linter.unusedVariables false
set_option linter.unusedSimpArgs false

/-- A letter of names. -/
def lt (c : Int) : Bool := decide ((65 ≤ c ∧ c ≤ 90) ∨ (97 ≤ c ∧ c ≤ 122) ∨ c = 95 ∨ (192 ≤ c ∧ c ≤ 591 ∧ c ≠ 215 ∧ c ≠ 247))
/-- A character that may stand at a place of a name. -/
def okC (pos : Nat) (c : Int) : Bool := lt c || decide (0 < pos ∧ 48 ≤ c ∧ c ≤ 57)
/-- From a place on only such characters stand; b: so many at most are to come. -/
def okFrom (s : ByteArray) : Nat → Nat → Bool
  | 0, _ => true
  | b + 1, pos => if pos < s.size then okC pos (Utf8.decode s pos).1 && okFrom s b (pos + (Utf8.decode s pos).2) else true
/-- A name. -/
def nmB (s : ByteArray) : Bool := decide (1 ≤ s.size ∧ s.size ≤ 64) && okFrom s s.size 0
theorem okFrom_end (s : ByteArray) (b pos : Nat) (h : ¬ pos < s.size) : okFrom s b pos = true := by
  cases b with
  | zero => rfl
  | succ b => simp [okFrom, h]
theorem width_pos (s : ByteArray) (pos : Nat) (h : pos < s.size) : 1 ≤ (Utf8.decode s pos).2 := by
  by_cases ha : (s[pos]'h).toNat < 128
  · rw [decode_ascii s pos h ha]
    exact Nat.le_refl _
  · exact (decode_high s pos h (by omega)).2
theorem ret_boolA {a b : Bool} (h : a = b) : Ending.returned (.bool a) = .returned (.bool b) := by rw [h]
theorem cases_c (c : Int) : c < 65 ∨ (65 ≤ c ∧ c ≤ 90) ∨ (90 < c ∧ c < 95) ∨ c = 95 ∨ c = 96 ∨ (97 ≤ c ∧ c ≤ 122) ∨ (122 < c ∧ c < 192) ∨ (192 ≤ c ∧ c < 215) ∨ c = 215 ∨ (215 < c ∧ c < 247) ∨ c = 247 ∨ (247 < c ∧ c ≤ 591) ∨ 591 < c := by omega

set_option maxHeartbeats 2000000 in
theorem c_isLetter (c : Int) (w : World) : Calls Try.prog 72 #[.int .i32 c] w fun e w' => e = .returned (.bool (lt c)) ∧ w = w' := by
  rcases cases_c c with h | ⟨h, h'⟩ | ⟨h, h'⟩ | rfl | rfl | ⟨h, h'⟩ | ⟨h, h'⟩ | ⟨h, h'⟩ | rfl | ⟨h, h'⟩ | rfl | ⟨h, h'⟩ | h
  · rw [show lt c = false from by (unfold lt; simp <;> omega)]; (first | (have d0 : decide (c ≤ 90) = true := decide_eq_true (by omega)) | (have d0 : decide (c ≤ 90) = false := decide_eq_false (by omega))); (first | (have d1 : decide (c ≤ 122) = true := decide_eq_true (by omega)) | (have d1 : decide (c ≤ 122) = false := decide_eq_false (by omega))); (first | (have d2 : decide (c ≤ 591) = true := decide_eq_true (by omega)) | (have d2 : decide (c ≤ 591) = false := decide_eq_false (by omega))); have g0 : (c != 95) = true := bne_iff_ne.2 (by omega); have g1 : (c != 215) = true := bne_iff_ne.2 (by omega); have g2 : (c != 247) = true := bne_iff_ne.2 (by omega); have f0 : (c == 95) = false := beq_eq_false_iff_ne.2 (by omega); have f1 : (c == 215) = false := beq_eq_false_iff_ne.2 (by omega); have f2 : (c == 247) = false := beq_eq_false_iff_ne.2 (by omega); go_enter Try.func72, Try.ntmps72; go_wp2; go_ret; exact ⟨rfl, rfl⟩
  · rw [show lt c = true from by (unfold lt; simp <;> omega)]; (first | (have d0 : decide (c ≤ 90) = true := decide_eq_true (by omega)) | (have d0 : decide (c ≤ 90) = false := decide_eq_false (by omega))); (first | (have d1 : decide (c ≤ 122) = true := decide_eq_true (by omega)) | (have d1 : decide (c ≤ 122) = false := decide_eq_false (by omega))); (first | (have d2 : decide (c ≤ 591) = true := decide_eq_true (by omega)) | (have d2 : decide (c ≤ 591) = false := decide_eq_false (by omega))); have g0 : (c != 95) = true := bne_iff_ne.2 (by omega); have g1 : (c != 215) = true := bne_iff_ne.2 (by omega); have g2 : (c != 247) = true := bne_iff_ne.2 (by omega); have f0 : (c == 95) = false := beq_eq_false_iff_ne.2 (by omega); have f1 : (c == 215) = false := beq_eq_false_iff_ne.2 (by omega); have f2 : (c == 247) = false := beq_eq_false_iff_ne.2 (by omega); go_enter Try.func72, Try.ntmps72; go_wp2; go_ret; exact ⟨rfl, rfl⟩
  · rw [show lt c = false from by (unfold lt; simp <;> omega)]; (first | (have d0 : decide (c ≤ 90) = true := decide_eq_true (by omega)) | (have d0 : decide (c ≤ 90) = false := decide_eq_false (by omega))); (first | (have d1 : decide (c ≤ 122) = true := decide_eq_true (by omega)) | (have d1 : decide (c ≤ 122) = false := decide_eq_false (by omega))); (first | (have d2 : decide (c ≤ 591) = true := decide_eq_true (by omega)) | (have d2 : decide (c ≤ 591) = false := decide_eq_false (by omega))); have g0 : (c != 95) = true := bne_iff_ne.2 (by omega); have g1 : (c != 215) = true := bne_iff_ne.2 (by omega); have g2 : (c != 247) = true := bne_iff_ne.2 (by omega); have f0 : (c == 95) = false := beq_eq_false_iff_ne.2 (by omega); have f1 : (c == 215) = false := beq_eq_false_iff_ne.2 (by omega); have f2 : (c == 247) = false := beq_eq_false_iff_ne.2 (by omega); go_enter Try.func72, Try.ntmps72; go_wp2; go_ret; exact ⟨rfl, rfl⟩
  · rw [show lt 95 = true from by decide]; go_enter Try.func72, Try.ntmps72; go_wp2; go_ret; exact ⟨rfl, rfl⟩
  · rw [show lt 96 = false from by decide]; go_enter Try.func72, Try.ntmps72; go_wp2; go_ret; exact ⟨rfl, rfl⟩
  · rw [show lt c = true from by (unfold lt; simp <;> omega)]; (first | (have d0 : decide (c ≤ 90) = true := decide_eq_true (by omega)) | (have d0 : decide (c ≤ 90) = false := decide_eq_false (by omega))); (first | (have d1 : decide (c ≤ 122) = true := decide_eq_true (by omega)) | (have d1 : decide (c ≤ 122) = false := decide_eq_false (by omega))); (first | (have d2 : decide (c ≤ 591) = true := decide_eq_true (by omega)) | (have d2 : decide (c ≤ 591) = false := decide_eq_false (by omega))); have g0 : (c != 95) = true := bne_iff_ne.2 (by omega); have g1 : (c != 215) = true := bne_iff_ne.2 (by omega); have g2 : (c != 247) = true := bne_iff_ne.2 (by omega); have f0 : (c == 95) = false := beq_eq_false_iff_ne.2 (by omega); have f1 : (c == 215) = false := beq_eq_false_iff_ne.2 (by omega); have f2 : (c == 247) = false := beq_eq_false_iff_ne.2 (by omega); go_enter Try.func72, Try.ntmps72; go_wp2; go_ret; exact ⟨rfl, rfl⟩
  · rw [show lt c = false from by (unfold lt; simp <;> omega)]; (first | (have d0 : decide (c ≤ 90) = true := decide_eq_true (by omega)) | (have d0 : decide (c ≤ 90) = false := decide_eq_false (by omega))); (first | (have d1 : decide (c ≤ 122) = true := decide_eq_true (by omega)) | (have d1 : decide (c ≤ 122) = false := decide_eq_false (by omega))); (first | (have d2 : decide (c ≤ 591) = true := decide_eq_true (by omega)) | (have d2 : decide (c ≤ 591) = false := decide_eq_false (by omega))); have g0 : (c != 95) = true := bne_iff_ne.2 (by omega); have g1 : (c != 215) = true := bne_iff_ne.2 (by omega); have g2 : (c != 247) = true := bne_iff_ne.2 (by omega); have f0 : (c == 95) = false := beq_eq_false_iff_ne.2 (by omega); have f1 : (c == 215) = false := beq_eq_false_iff_ne.2 (by omega); have f2 : (c == 247) = false := beq_eq_false_iff_ne.2 (by omega); go_enter Try.func72, Try.ntmps72; go_wp2; go_ret; exact ⟨rfl, rfl⟩
  · rw [show lt c = true from by (unfold lt; simp <;> omega)]; (first | (have d0 : decide (c ≤ 90) = true := decide_eq_true (by omega)) | (have d0 : decide (c ≤ 90) = false := decide_eq_false (by omega))); (first | (have d1 : decide (c ≤ 122) = true := decide_eq_true (by omega)) | (have d1 : decide (c ≤ 122) = false := decide_eq_false (by omega))); (first | (have d2 : decide (c ≤ 591) = true := decide_eq_true (by omega)) | (have d2 : decide (c ≤ 591) = false := decide_eq_false (by omega))); have g0 : (c != 95) = true := bne_iff_ne.2 (by omega); have g1 : (c != 215) = true := bne_iff_ne.2 (by omega); have g2 : (c != 247) = true := bne_iff_ne.2 (by omega); have f0 : (c == 95) = false := beq_eq_false_iff_ne.2 (by omega); have f1 : (c == 215) = false := beq_eq_false_iff_ne.2 (by omega); have f2 : (c == 247) = false := beq_eq_false_iff_ne.2 (by omega); go_enter Try.func72, Try.ntmps72; go_wp2; go_ret; exact ⟨rfl, rfl⟩
  · rw [show lt 215 = false from by decide]; go_enter Try.func72, Try.ntmps72; go_wp2; go_ret; exact ⟨rfl, rfl⟩
  · rw [show lt c = true from by (unfold lt; simp <;> omega)]; (first | (have d0 : decide (c ≤ 90) = true := decide_eq_true (by omega)) | (have d0 : decide (c ≤ 90) = false := decide_eq_false (by omega))); (first | (have d1 : decide (c ≤ 122) = true := decide_eq_true (by omega)) | (have d1 : decide (c ≤ 122) = false := decide_eq_false (by omega))); (first | (have d2 : decide (c ≤ 591) = true := decide_eq_true (by omega)) | (have d2 : decide (c ≤ 591) = false := decide_eq_false (by omega))); have g0 : (c != 95) = true := bne_iff_ne.2 (by omega); have g1 : (c != 215) = true := bne_iff_ne.2 (by omega); have g2 : (c != 247) = true := bne_iff_ne.2 (by omega); have f0 : (c == 95) = false := beq_eq_false_iff_ne.2 (by omega); have f1 : (c == 215) = false := beq_eq_false_iff_ne.2 (by omega); have f2 : (c == 247) = false := beq_eq_false_iff_ne.2 (by omega); go_enter Try.func72, Try.ntmps72; go_wp2; go_ret; exact ⟨rfl, rfl⟩
  · rw [show lt 247 = false from by decide]; go_enter Try.func72, Try.ntmps72; go_wp2; go_ret; exact ⟨rfl, rfl⟩
  · rw [show lt c = true from by (unfold lt; simp <;> omega)]; (first | (have d0 : decide (c ≤ 90) = true := decide_eq_true (by omega)) | (have d0 : decide (c ≤ 90) = false := decide_eq_false (by omega))); (first | (have d1 : decide (c ≤ 122) = true := decide_eq_true (by omega)) | (have d1 : decide (c ≤ 122) = false := decide_eq_false (by omega))); (first | (have d2 : decide (c ≤ 591) = true := decide_eq_true (by omega)) | (have d2 : decide (c ≤ 591) = false := decide_eq_false (by omega))); have g0 : (c != 95) = true := bne_iff_ne.2 (by omega); have g1 : (c != 215) = true := bne_iff_ne.2 (by omega); have g2 : (c != 247) = true := bne_iff_ne.2 (by omega); have f0 : (c == 95) = false := beq_eq_false_iff_ne.2 (by omega); have f1 : (c == 215) = false := beq_eq_false_iff_ne.2 (by omega); have f2 : (c == 247) = false := beq_eq_false_iff_ne.2 (by omega); go_enter Try.func72, Try.ntmps72; go_wp2; go_ret; exact ⟨rfl, rfl⟩
  · rw [show lt c = false from by (unfold lt; simp <;> omega)]; (first | (have d0 : decide (c ≤ 90) = true := decide_eq_true (by omega)) | (have d0 : decide (c ≤ 90) = false := decide_eq_false (by omega))); (first | (have d1 : decide (c ≤ 122) = true := decide_eq_true (by omega)) | (have d1 : decide (c ≤ 122) = false := decide_eq_false (by omega))); (first | (have d2 : decide (c ≤ 591) = true := decide_eq_true (by omega)) | (have d2 : decide (c ≤ 591) = false := decide_eq_false (by omega))); have g0 : (c != 95) = true := bne_iff_ne.2 (by omega); have g1 : (c != 215) = true := bne_iff_ne.2 (by omega); have g2 : (c != 247) = true := bne_iff_ne.2 (by omega); have f0 : (c == 95) = false := beq_eq_false_iff_ne.2 (by omega); have f1 : (c == 215) = false := beq_eq_false_iff_ne.2 (by omega); have f2 : (c == 247) = false := beq_eq_false_iff_ne.2 (by omega); go_enter Try.func72, Try.ntmps72; go_wp2; go_ret; exact ⟨rfl, rfl⟩
set_option maxHeartbeats 2000000 in
theorem c_Letter (c : Int) (w : World) : Calls Try.prog 68 #[.int .i32 c] w fun e w' => e = .returned (.bool (lt c)) ∧ w = w' := by
  rcases cases_c c with h | ⟨h, h'⟩ | ⟨h, h'⟩ | rfl | rfl | ⟨h, h'⟩ | ⟨h, h'⟩ | ⟨h, h'⟩ | rfl | ⟨h, h'⟩ | rfl | ⟨h, h'⟩ | h
  · rw [show lt c = false from by (unfold lt; simp <;> omega)]; (first | (have d0 : decide (c ≤ 90) = true := decide_eq_true (by omega)) | (have d0 : decide (c ≤ 90) = false := decide_eq_false (by omega))); (first | (have d1 : decide (c ≤ 122) = true := decide_eq_true (by omega)) | (have d1 : decide (c ≤ 122) = false := decide_eq_false (by omega))); (first | (have d2 : decide (c ≤ 591) = true := decide_eq_true (by omega)) | (have d2 : decide (c ≤ 591) = false := decide_eq_false (by omega))); have g0 : (c != 95) = true := bne_iff_ne.2 (by omega); have g1 : (c != 215) = true := bne_iff_ne.2 (by omega); have g2 : (c != 247) = true := bne_iff_ne.2 (by omega); have f0 : (c == 95) = false := beq_eq_false_iff_ne.2 (by omega); have f1 : (c == 215) = false := beq_eq_false_iff_ne.2 (by omega); have f2 : (c == 247) = false := beq_eq_false_iff_ne.2 (by omega); go_enter Try.func68, Try.ntmps68; go_wp2; go_ret; exact ⟨rfl, rfl⟩
  · rw [show lt c = true from by (unfold lt; simp <;> omega)]; (first | (have d0 : decide (c ≤ 90) = true := decide_eq_true (by omega)) | (have d0 : decide (c ≤ 90) = false := decide_eq_false (by omega))); (first | (have d1 : decide (c ≤ 122) = true := decide_eq_true (by omega)) | (have d1 : decide (c ≤ 122) = false := decide_eq_false (by omega))); (first | (have d2 : decide (c ≤ 591) = true := decide_eq_true (by omega)) | (have d2 : decide (c ≤ 591) = false := decide_eq_false (by omega))); have g0 : (c != 95) = true := bne_iff_ne.2 (by omega); have g1 : (c != 215) = true := bne_iff_ne.2 (by omega); have g2 : (c != 247) = true := bne_iff_ne.2 (by omega); have f0 : (c == 95) = false := beq_eq_false_iff_ne.2 (by omega); have f1 : (c == 215) = false := beq_eq_false_iff_ne.2 (by omega); have f2 : (c == 247) = false := beq_eq_false_iff_ne.2 (by omega); go_enter Try.func68, Try.ntmps68; go_wp2; go_ret; exact ⟨rfl, rfl⟩
  · rw [show lt c = false from by (unfold lt; simp <;> omega)]; (first | (have d0 : decide (c ≤ 90) = true := decide_eq_true (by omega)) | (have d0 : decide (c ≤ 90) = false := decide_eq_false (by omega))); (first | (have d1 : decide (c ≤ 122) = true := decide_eq_true (by omega)) | (have d1 : decide (c ≤ 122) = false := decide_eq_false (by omega))); (first | (have d2 : decide (c ≤ 591) = true := decide_eq_true (by omega)) | (have d2 : decide (c ≤ 591) = false := decide_eq_false (by omega))); have g0 : (c != 95) = true := bne_iff_ne.2 (by omega); have g1 : (c != 215) = true := bne_iff_ne.2 (by omega); have g2 : (c != 247) = true := bne_iff_ne.2 (by omega); have f0 : (c == 95) = false := beq_eq_false_iff_ne.2 (by omega); have f1 : (c == 215) = false := beq_eq_false_iff_ne.2 (by omega); have f2 : (c == 247) = false := beq_eq_false_iff_ne.2 (by omega); go_enter Try.func68, Try.ntmps68; go_wp2; go_ret; exact ⟨rfl, rfl⟩
  · rw [show lt 95 = true from by decide]; go_enter Try.func68, Try.ntmps68; go_wp2; go_ret; exact ⟨rfl, rfl⟩
  · rw [show lt 96 = false from by decide]; go_enter Try.func68, Try.ntmps68; go_wp2; go_ret; exact ⟨rfl, rfl⟩
  · rw [show lt c = true from by (unfold lt; simp <;> omega)]; (first | (have d0 : decide (c ≤ 90) = true := decide_eq_true (by omega)) | (have d0 : decide (c ≤ 90) = false := decide_eq_false (by omega))); (first | (have d1 : decide (c ≤ 122) = true := decide_eq_true (by omega)) | (have d1 : decide (c ≤ 122) = false := decide_eq_false (by omega))); (first | (have d2 : decide (c ≤ 591) = true := decide_eq_true (by omega)) | (have d2 : decide (c ≤ 591) = false := decide_eq_false (by omega))); have g0 : (c != 95) = true := bne_iff_ne.2 (by omega); have g1 : (c != 215) = true := bne_iff_ne.2 (by omega); have g2 : (c != 247) = true := bne_iff_ne.2 (by omega); have f0 : (c == 95) = false := beq_eq_false_iff_ne.2 (by omega); have f1 : (c == 215) = false := beq_eq_false_iff_ne.2 (by omega); have f2 : (c == 247) = false := beq_eq_false_iff_ne.2 (by omega); go_enter Try.func68, Try.ntmps68; go_wp2; go_ret; exact ⟨rfl, rfl⟩
  · rw [show lt c = false from by (unfold lt; simp <;> omega)]; (first | (have d0 : decide (c ≤ 90) = true := decide_eq_true (by omega)) | (have d0 : decide (c ≤ 90) = false := decide_eq_false (by omega))); (first | (have d1 : decide (c ≤ 122) = true := decide_eq_true (by omega)) | (have d1 : decide (c ≤ 122) = false := decide_eq_false (by omega))); (first | (have d2 : decide (c ≤ 591) = true := decide_eq_true (by omega)) | (have d2 : decide (c ≤ 591) = false := decide_eq_false (by omega))); have g0 : (c != 95) = true := bne_iff_ne.2 (by omega); have g1 : (c != 215) = true := bne_iff_ne.2 (by omega); have g2 : (c != 247) = true := bne_iff_ne.2 (by omega); have f0 : (c == 95) = false := beq_eq_false_iff_ne.2 (by omega); have f1 : (c == 215) = false := beq_eq_false_iff_ne.2 (by omega); have f2 : (c == 247) = false := beq_eq_false_iff_ne.2 (by omega); go_enter Try.func68, Try.ntmps68; go_wp2; go_ret; exact ⟨rfl, rfl⟩
  · rw [show lt c = true from by (unfold lt; simp <;> omega)]; (first | (have d0 : decide (c ≤ 90) = true := decide_eq_true (by omega)) | (have d0 : decide (c ≤ 90) = false := decide_eq_false (by omega))); (first | (have d1 : decide (c ≤ 122) = true := decide_eq_true (by omega)) | (have d1 : decide (c ≤ 122) = false := decide_eq_false (by omega))); (first | (have d2 : decide (c ≤ 591) = true := decide_eq_true (by omega)) | (have d2 : decide (c ≤ 591) = false := decide_eq_false (by omega))); have g0 : (c != 95) = true := bne_iff_ne.2 (by omega); have g1 : (c != 215) = true := bne_iff_ne.2 (by omega); have g2 : (c != 247) = true := bne_iff_ne.2 (by omega); have f0 : (c == 95) = false := beq_eq_false_iff_ne.2 (by omega); have f1 : (c == 215) = false := beq_eq_false_iff_ne.2 (by omega); have f2 : (c == 247) = false := beq_eq_false_iff_ne.2 (by omega); go_enter Try.func68, Try.ntmps68; go_wp2; go_ret; exact ⟨rfl, rfl⟩
  · rw [show lt 215 = false from by decide]; go_enter Try.func68, Try.ntmps68; go_wp2; go_ret; exact ⟨rfl, rfl⟩
  · rw [show lt c = true from by (unfold lt; simp <;> omega)]; (first | (have d0 : decide (c ≤ 90) = true := decide_eq_true (by omega)) | (have d0 : decide (c ≤ 90) = false := decide_eq_false (by omega))); (first | (have d1 : decide (c ≤ 122) = true := decide_eq_true (by omega)) | (have d1 : decide (c ≤ 122) = false := decide_eq_false (by omega))); (first | (have d2 : decide (c ≤ 591) = true := decide_eq_true (by omega)) | (have d2 : decide (c ≤ 591) = false := decide_eq_false (by omega))); have g0 : (c != 95) = true := bne_iff_ne.2 (by omega); have g1 : (c != 215) = true := bne_iff_ne.2 (by omega); have g2 : (c != 247) = true := bne_iff_ne.2 (by omega); have f0 : (c == 95) = false := beq_eq_false_iff_ne.2 (by omega); have f1 : (c == 215) = false := beq_eq_false_iff_ne.2 (by omega); have f2 : (c == 247) = false := beq_eq_false_iff_ne.2 (by omega); go_enter Try.func68, Try.ntmps68; go_wp2; go_ret; exact ⟨rfl, rfl⟩
  · rw [show lt 247 = false from by decide]; go_enter Try.func68, Try.ntmps68; go_wp2; go_ret; exact ⟨rfl, rfl⟩
  · rw [show lt c = true from by (unfold lt; simp <;> omega)]; (first | (have d0 : decide (c ≤ 90) = true := decide_eq_true (by omega)) | (have d0 : decide (c ≤ 90) = false := decide_eq_false (by omega))); (first | (have d1 : decide (c ≤ 122) = true := decide_eq_true (by omega)) | (have d1 : decide (c ≤ 122) = false := decide_eq_false (by omega))); (first | (have d2 : decide (c ≤ 591) = true := decide_eq_true (by omega)) | (have d2 : decide (c ≤ 591) = false := decide_eq_false (by omega))); have g0 : (c != 95) = true := bne_iff_ne.2 (by omega); have g1 : (c != 215) = true := bne_iff_ne.2 (by omega); have g2 : (c != 247) = true := bne_iff_ne.2 (by omega); have f0 : (c == 95) = false := beq_eq_false_iff_ne.2 (by omega); have f1 : (c == 215) = false := beq_eq_false_iff_ne.2 (by omega); have f2 : (c == 247) = false := beq_eq_false_iff_ne.2 (by omega); go_enter Try.func68, Try.ntmps68; go_wp2; go_ret; exact ⟨rfl, rfl⟩
  · rw [show lt c = false from by (unfold lt; simp <;> omega)]; (first | (have d0 : decide (c ≤ 90) = true := decide_eq_true (by omega)) | (have d0 : decide (c ≤ 90) = false := decide_eq_false (by omega))); (first | (have d1 : decide (c ≤ 122) = true := decide_eq_true (by omega)) | (have d1 : decide (c ≤ 122) = false := decide_eq_false (by omega))); (first | (have d2 : decide (c ≤ 591) = true := decide_eq_true (by omega)) | (have d2 : decide (c ≤ 591) = false := decide_eq_false (by omega))); have g0 : (c != 95) = true := bne_iff_ne.2 (by omega); have g1 : (c != 215) = true := bne_iff_ne.2 (by omega); have g2 : (c != 247) = true := bne_iff_ne.2 (by omega); have f0 : (c == 95) = false := beq_eq_false_iff_ne.2 (by omega); have f1 : (c == 215) = false := beq_eq_false_iff_ne.2 (by omega); have f2 : (c == 247) = false := beq_eq_false_iff_ne.2 (by omega); go_enter Try.func68, Try.ntmps68; go_wp2; go_ret; exact ⟨rfl, rfl⟩

theorem Kp.iter {a w : World} (h : Kp a w) (s : ByteArray) (pos : Nat) : Kp a (w.iter s pos) := h.alloc _
theorem ok_step {s : ByteArray} {b pos : Nat} {c : Int} {v : Bool} (hp : pos < s.size) (hb : s.size ≤ pos + b) (hc : okFrom s b pos = v) (hcc : c = (Utf8.decode s pos).1) (ho : okC pos c = true) :
    ∃ pos' b', pos' = pos + (Utf8.decode s pos).2 ∧ okFrom s b' pos' = v ∧ s.size ≤ pos' + b' := by
  have := width_pos s pos hp
  cases b with
  | zero => omega
  | succ b =>
    refine ⟨_, b, rfl, ?_, by omega⟩
    subst hcc
    rw [okFrom, if_pos hp, ho, Bool.true_and] at hc
    exact hc
theorem ok_stop {s : ByteArray} {b pos : Nat} {c : Int} {v : Bool} (hp : pos < s.size) (hb : s.size ≤ pos + b) (hc : okFrom s b pos = v) (hcc : c = (Utf8.decode s pos).1) (ho : okC pos c = false) : v = false := by
  cases b with
  | zero => omega
  | succ b =>
    subst hcc
    rw [okFrom, if_pos hp, ho, Bool.false_and] at hc
    exact hc.symm
theorem nmB_no {s : ByteArray} (h : okFrom s s.size 0 = false) : nmB s = false := by unfold nmB; rw [h, Bool.and_false]
theorem nmB_ok {s : ByteArray} (h : okFrom s s.size 0 = true) : nmB s = decide (1 ≤ s.size ∧ s.size ≤ 64) := by unfold nmB; rw [h, Bool.and_true]
/-- What a round of a walk over a name asks of a character. -/
theorem okC_cases (pos : Nat) (c : Int) : (okC pos c = true ∧ (lt c = true ∨ (lt c = false ∧ 0 < pos ∧ 48 ≤ c ∧ c ≤ 57))) ∨ (okC pos c = false ∧ lt c = false ∧ (pos = 0 ∨ (0 < pos ∧ c < 48) ∨ (0 < pos ∧ 57 < c ∧ 48 ≤ c))) := by
  unfold okC
  cases lt c with
  | true => simp
  | false =>
    by_cases h : 0 < pos ∧ 48 ≤ c ∧ c ≤ 57
    · left; simp [h]
    · right; simp at h ⊢; omega
set_option maxRecDepth 1000000 in
set_option maxHeartbeats 1000000 in
theorem c_Name (s : ByteArray) (w : World) (hs : s.size ≤ 140737488351232) : Calls Try.prog 55 #[.string s] w fun e w' => e = .returned (.bool (nmB s)) ∧ Kp w w' := by
  go_enter Try.func55, Try.ntmps55
  go_wp2_with fail
  go_loopw [3] (fun _ w' => ∃ (pos b : Nat), w' = w.iter s pos ∧ okFrom s b pos = okFrom s s.size 0 ∧ s.size ≤ pos + b) (fun _ w' => s.size - w'.iterPos w.heap.size)
  case atStart => exact ⟨0, s.size, rfl, rfl, by omega⟩
  case round =>
    obtain ⟨pos, b, rfl, hc, hb⟩ := hrel
    have HC := Lib.hid hc
    clear hc
    by_cases hp : pos < s.size
    · have hwd := width_pos s pos hp
      obtain ⟨c, hcc⟩ : ∃ c : Int, c = (Utf8.decode s pos).1 := ⟨_, rfl⟩
      have hnx : ∀ ty, (Instr.next (.pointer (some ⟨w.heap.size, 0, none⟩)) true ty).run Try.prog (w.iter s pos) = .ok (.tuple #[.bool true, .int .i64 pos, .int .i32 c]) (w.iter s (pos + (Utf8.decode s pos).2)) := fun ty => by
        rw [hcc]; exact run_next_any w s pos ty hp
      have HCC := Lib.hid hcc
      clear hcc
      rcases okC_cases pos c with ⟨ho, h | ⟨h, h1, h2, h3⟩⟩ | ⟨ho, h, h1 | ⟨h1, h2⟩ | ⟨h1, h2, h3⟩⟩
      · have HO := Lib.hid ho
        clear ho
        go_wp2_with (go_at_call 68; (with_reducible refine (c_Letter _ _).mono ?_); rintro e w' ⟨rfl, rfl⟩)
        go_roundw
        case rel => obtain ⟨p', b', rfl, a1, a2⟩ := ok_step hp hb HC.out HCC.out HO.out; exact ⟨_, b', rfl, a1, a2⟩
        case measure => simp; omega
      · have HO := Lib.hid ho
        clear ho
        go_wp2_with (go_at_call 68; (with_reducible refine (c_Letter _ _).mono ?_); rintro e w' ⟨rfl, rfl⟩)
        go_roundw
        case rel => obtain ⟨p', b', rfl, a1, a2⟩ := ok_step hp hb HC.out HCC.out HO.out; exact ⟨_, b', rfl, a1, a2⟩
        case measure => simp; omega
      all_goals
        have HO := Lib.hid ho
        clear ho
        (try (obtain rfl := h1))
        go_wp2_with (go_at_call 68; (with_reducible refine (c_Letter _ _).mono ?_); rintro e w' ⟨rfl, rfl⟩)
        go_ret
        exact ⟨ret_boolA (nmB_no (ok_stop hp hb HC.out HCC.out HO.out)).symm, (Kp.refl w).iter _ _⟩
    · have hnx : ∀ ty, (Instr.next (.pointer (some ⟨w.heap.size, 0, none⟩)) true ty).run Try.prog (w.iter s pos) = _ := fun ty => run_next_end w s pos ty hp
      have HN := Lib.hid (nmB_ok (HC.out.symm.trans (okFrom_end s b pos hp)))
      clear HC
      by_cases h1 : 1 ≤ s.size
      · go_wp2_with fail
        go_ret
        exact ⟨ret_boolA (by rw [HN.out]; first | (simp [h1]; done) | (simp [h1]; omega)), (Kp.refl w).iter _ _⟩
      · go_wp2_with fail
        go_ret
        exact ⟨ret_boolA (by rw [HN.out]; first | (simp [h1]; done) | (simp [h1]; omega)), (Kp.refl w).iter _ _⟩
/-- The forms in which a walk asks whether a text is empty. -/
theorem em_no {s : ByteArray} (h : s.size ≠ 0) : (s.toList = []) = False ∧ s.toList.isEmpty = false := by
  have he : (s.toList = []) = False := by
    simp only [eq_iff_iff, iff_false]
    intro h'
    have e : s.toList.length = s.size := by rw [ByteArray.toList_eq]; exact Array.length_toList
    rw [h'] at e
    simp at e; omega
  exact ⟨he, by simp [he]⟩
theorem em_yes {s : ByteArray} (h : s.size = 0) : s = ⟨#[]⟩ := by
  obtain ⟨d⟩ := s
  congr
  exact Array.eq_empty_of_size_eq_zero h
theorem c_isDigit (c : Int) (w : World) : Calls Try.prog 73 #[.int .i32 c] w fun e w' => e = .returned (.bool (decide (48 ≤ c ∧ c ≤ 57))) ∧ w = w' := by
  by_cases h1 : 48 ≤ c
  · by_cases h2 : c ≤ 57
    · rw [decide_eq_true (show 48 ≤ c ∧ c ≤ 57 from ⟨h1, h2⟩)]
      have d0 : decide (c ≤ 57) = true := decide_eq_true h2
      go_enter Try.func73, Try.ntmps73; go_wp2; go_ret; exact ⟨rfl, rfl⟩
    · rw [decide_eq_false (show ¬ (48 ≤ c ∧ c ≤ 57) by omega)]
      have d0 : decide (c ≤ 57) = false := decide_eq_false h2
      go_enter Try.func73, Try.ntmps73; go_wp2; go_ret; exact ⟨rfl, rfl⟩
  · rw [decide_eq_false (show ¬ (48 ≤ c ∧ c ≤ 57) by omega)]
    go_enter Try.func73, Try.ntmps73; go_wp2; go_ret; exact ⟨rfl, rfl⟩
set_option maxRecDepth 1000000 in
set_option maxHeartbeats 1000000 in
theorem c_isName (s : ByteArray) (w : World) (hs : s.size ≤ 140737488351232) : Calls Try.prog 70 #[.string s] w fun e w' => e = .returned (.bool (nmB s)) ∧ Kp w w' := by
  by_cases hn : 1 ≤ s.size ∧ s.size ≤ 64
  · obtain ⟨he, hne⟩ := em_no (s := s) (by omega)
    have h64 := hn.2
    have HN := Lib.hid hn
    clear hn
    go_enter Try.func70, Try.ntmps70
    go_wp2_with fail
    go_loopw [3] (fun _ w' => ∃ (pos b : Nat), w' = w.iter s pos ∧ okFrom s b pos = okFrom s s.size 0 ∧ s.size ≤ pos + b) (fun _ w' => s.size - w'.iterPos w.heap.size)
    case atStart => exact ⟨0, s.size, rfl, rfl, by omega⟩
    case round =>
      obtain ⟨pos, b, rfl, hc, hb⟩ := hrel
      have HC := Lib.hid hc
      clear hc
      by_cases hp : pos < s.size
      · have hwd := width_pos s pos hp
        obtain ⟨c, hcc⟩ : ∃ c : Int, c = (Utf8.decode s pos).1 := ⟨_, rfl⟩
        have hnx : ∀ ty, (Instr.next (.pointer (some ⟨w.heap.size, 0, none⟩)) true ty).run Try.prog (w.iter s pos) = .ok (.tuple #[.bool true, .int .i64 pos, .int .i32 c]) (w.iter s (pos + (Utf8.decode s pos).2)) := fun ty => by
          rw [hcc]; exact run_next_any w s pos ty hp
        have HCC := Lib.hid hcc
        clear hcc
        rcases okC_cases pos c with ⟨ho, h | ⟨h, h1, h2, h3⟩⟩ | ⟨ho, h, h1 | ⟨h1, h2⟩ | ⟨h1, h2, h3⟩⟩
        · have HO := Lib.hid ho
          clear ho
          go_wp2_with (go_at_call 72; (with_reducible refine (c_isLetter _ _).mono ?_); rintro e w' ⟨rfl, rfl⟩)
          go_roundw
          case rel => obtain ⟨p', b', rfl, a1, a2⟩ := ok_step hp hb HC.out HCC.out HO.out; exact ⟨_, b', rfl, a1, a2⟩
          case measure => simp; omega
        · have HO := Lib.hid ho
          have hz : ((pos : Int) == 0) = false := beq_eq_false_iff_ne.2 (by omega)
          clear ho
          have HDG := Lib.hid (show decide (48 ≤ c ∧ c ≤ 57) = true from decide_eq_true ⟨h2, h3⟩)
          go_wp2_with (first | (go_at_call 72; (with_reducible refine (c_isLetter _ _).mono ?_); rintro e w' ⟨rfl, rfl⟩) | (go_at_call 73; (with_reducible refine (c_isDigit _ _).mono ?_); rintro e w' ⟨rfl, rfl⟩; rw [HDG.out]))
          go_roundw
          case rel => obtain ⟨p', b', rfl, a1, a2⟩ := ok_step hp hb HC.out HCC.out HO.out; exact ⟨_, b', rfl, a1, a2⟩
          case measure => simp; omega
        · have HO := Lib.hid ho
          clear ho
          obtain rfl := h1
          go_wp2_with (go_at_call 72; (with_reducible refine (c_isLetter _ _).mono ?_); rintro e w' ⟨rfl, rfl⟩)
          go_ret
          exact ⟨ret_boolA (nmB_no (ok_stop hp hb HC.out HCC.out HO.out)).symm, (Kp.refl w).iter _ _⟩
        all_goals
          have HO := Lib.hid ho
          have hz : ((pos : Int) == 0) = false := beq_eq_false_iff_ne.2 (by omega)
          clear ho
          have HDG := Lib.hid (show decide (48 ≤ c ∧ c ≤ 57) = false from decide_eq_false (by omega))
          go_wp2_with (first | (go_at_call 72; (with_reducible refine (c_isLetter _ _).mono ?_); rintro e w' ⟨rfl, rfl⟩) | (go_at_call 73; (with_reducible refine (c_isDigit _ _).mono ?_); rintro e w' ⟨rfl, rfl⟩; rw [HDG.out]))
          go_ret
          exact ⟨ret_boolA (nmB_no (ok_stop hp hb HC.out HCC.out HO.out)).symm, (Kp.refl w).iter _ _⟩
      · have hnx : ∀ ty, (Instr.next (.pointer (some ⟨w.heap.size, 0, none⟩)) true ty).run Try.prog (w.iter s pos) = _ := fun ty => run_next_end w s pos ty hp
        have HK := Lib.hid (nmB_ok (HC.out.symm.trans (okFrom_end s b pos hp)))
        clear HC
        go_wp2_with fail
        go_ret
        exact ⟨ret_boolA (by rw [HK.out]; simp [HN.out]), (Kp.refl w).iter _ _⟩
  · have HN := Lib.hid (show nmB s = false by unfold nmB; rw [decide_eq_false hn]; rfl)
    by_cases h0 : s.size = 0
    · obtain rfl := em_yes h0
      clear hn h0 hs
      go_enter Try.func70, Try.ntmps70
      go_wp2_with fail
      go_ret
      exact ⟨ret_boolA HN.out.symm, Kp.refl w⟩
    · obtain ⟨he, hne⟩ := em_no h0
      have h64 : 64 < s.size := by omega
      clear hn h0
      go_enter Try.func70, Try.ntmps70
      go_wp2_with fail
      go_ret
      exact ⟨ret_boolA HN.out.symm, Kp.refl w⟩
end Go.Proofs.Ytgamenimbkafjaa
