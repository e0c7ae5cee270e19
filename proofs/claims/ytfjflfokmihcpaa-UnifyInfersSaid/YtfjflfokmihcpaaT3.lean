/- What a type's head must be: the reference's bare and shape. No condition. -/
import Derived.Test.YtfjflfokmihcpaaT1
import Derived.Test.YtfjflfokmihcpaaT2
import Derived.Deep.QuietTactic
import Derived.BigQuiet
namespace Go.Proofs.Ytfjflfokmihcpaa
open Go.RowKit
set_option linter.unusedVariables false
set_option linter.unusedSimpArgs false

/-- All that is not marked is empty. -/
def bareB (h : Hd) (a b c d e : Bool) : Bool := (a || decide (h.nm.size = 0)) && (b || decide (h.con = 0)) && (c || decide (h.fl = 0)) && (d || decide (h.ll = 0)) && (e || decide (h.rl = 0))
/-- The forms in which a walk asks whether a number is 0. -/
theorem z_no {n : Nat} (h : n ≠ 0) : ((n : Int) == 0) = false := beq_eq_false_iff_ne.2 (by omega)
theorem z_yes {n : Nat} (h : n = 0) : ((n : Int) == 0) = true := beq_iff_eq.2 (by omega)
theorem em_or (s : ByteArray) : (s.size = 0 ∧ (s.toList = []) = True ∧ s.toList.isEmpty = true) ∨ (s.size ≠ 0 ∧ (s.toList = []) = False ∧ s.toList.isEmpty = false) := by
  by_cases h : s.size = 0
  · left
    have e : s.toList = [] := by
      rw [ByteArray.toList_eq]
      exact List.eq_nil_of_length_eq_zero (by simpa using h)
    exact ⟨h, by simp [e], by simp [e]⟩
  · exact .inr ⟨h, em_no h⟩
set_option maxHeartbeats 1000000 in
theorem c_bare8 (h : Hd) (w : World) : Calls Try.prog 57 #[h.val, .bool true, .bool false, .bool true, .bool false, .bool false] w fun x w' => x = .returned (.bool (bareB h true false true false false)) ∧ Kp w w' := by
  by_cases n1 : h.con = 0
  case neg =>
    have b1 : (h.con == 0) = false := beq_eq_false_iff_ne.2 n1
    rw [show bareB h true false true false false = false from by simp [bareB, n1]]; clear n1; go_enter Try.func57, Try.ntmps57; go_wp2; go_ret; exact ⟨rfl, (Kp.refl w).alloc _⟩
  have b1 : (h.con == 0) = true := beq_iff_eq.2 n1
  by_cases n3 : h.ll = 0
  case neg =>
    have b3 : ((h.ll : Int) == 0) = false := z_no n3
    rw [show bareB h true false true false false = false from by simp [bareB, n1, n3]]; clear n1 n3; go_enter Try.func57, Try.ntmps57; go_wp2; go_ret; exact ⟨rfl, (Kp.refl w).alloc _⟩
  have b3 : ((h.ll : Int) == 0) = true := z_yes n3
  by_cases n4 : h.rl = 0
  case neg =>
    have b4 : ((h.rl : Int) == 0) = false := z_no n4
    rw [show bareB h true false true false false = false from by simp [bareB, n1, n3, n4]]; clear n1 n3 n4; go_enter Try.func57, Try.ntmps57; go_wp2; go_ret; exact ⟨rfl, (Kp.refl w).alloc _⟩
  have b4 : ((h.rl : Int) == 0) = true := z_yes n4
  rw [show bareB h true false true false false = true from by simp [bareB, n1, n3, n4]]; clear n1 n3 n4; go_enter Try.func57, Try.ntmps57; go_wp2; go_ret; exact ⟨rfl, (Kp.refl w).alloc _⟩
set_option maxHeartbeats 1000000 in
theorem c_bare9 (h : Hd) (w : World) : Calls Try.prog 57 #[h.val, .bool false, .bool false, .bool false, .bool true, .bool false] w fun x w' => x = .returned (.bool (bareB h false false false true false)) ∧ Kp w w' := by
  rcases em_or h.nm with ⟨n0, y1, x1⟩ | ⟨n0, y1, x1⟩
  case inr =>
    rw [show bareB h false false false true false = false from by simp [bareB, n0]]; clear n0; go_enter Try.func57, Try.ntmps57; go_wp2; go_ret; exact ⟨rfl, (Kp.refl w).alloc _⟩
  by_cases n1 : h.con = 0
  case neg =>
    have b1 : (h.con == 0) = false := beq_eq_false_iff_ne.2 n1
    rw [show bareB h false false false true false = false from by simp [bareB, n0, n1]]; clear n0 n1; go_enter Try.func57, Try.ntmps57; go_wp2; go_ret; exact ⟨rfl, (Kp.refl w).alloc _⟩
  have b1 : (h.con == 0) = true := beq_iff_eq.2 n1
  by_cases n2 : h.fl = 0
  case neg =>
    have b2 : ((h.fl : Int) == 0) = false := z_no n2
    rw [show bareB h false false false true false = false from by simp [bareB, n0, n1, n2]]; clear n0 n1 n2; go_enter Try.func57, Try.ntmps57; go_wp2; go_ret; exact ⟨rfl, (Kp.refl w).alloc _⟩
  have b2 : ((h.fl : Int) == 0) = true := z_yes n2
  by_cases n4 : h.rl = 0
  case neg =>
    have b4 : ((h.rl : Int) == 0) = false := z_no n4
    rw [show bareB h false false false true false = false from by simp [bareB, n0, n1, n2, n4]]; clear n0 n1 n2 n4; go_enter Try.func57, Try.ntmps57; go_wp2; go_ret; exact ⟨rfl, (Kp.refl w).alloc _⟩
  have b4 : ((h.rl : Int) == 0) = true := z_yes n4
  rw [show bareB h false false false true false = true from by simp [bareB, n0, n1, n2, n4]]; clear n0 n1 n2 n4; go_enter Try.func57, Try.ntmps57; go_wp2; go_ret; exact ⟨rfl, (Kp.refl w).alloc _⟩
set_option maxHeartbeats 1000000 in
theorem c_bare11 (h : Hd) (w : World) : Calls Try.prog 57 #[h.val, .bool false, .bool false, .bool false, .bool true, .bool true] w fun x w' => x = .returned (.bool (bareB h false false false true true)) ∧ Kp w w' := by
  rcases em_or h.nm with ⟨n0, y1, x1⟩ | ⟨n0, y1, x1⟩
  case inr =>
    rw [show bareB h false false false true true = false from by simp [bareB, n0]]; clear n0; go_enter Try.func57, Try.ntmps57; go_wp2; go_ret; exact ⟨rfl, (Kp.refl w).alloc _⟩
  by_cases n1 : h.con = 0
  case neg =>
    have b1 : (h.con == 0) = false := beq_eq_false_iff_ne.2 n1
    rw [show bareB h false false false true true = false from by simp [bareB, n0, n1]]; clear n0 n1; go_enter Try.func57, Try.ntmps57; go_wp2; go_ret; exact ⟨rfl, (Kp.refl w).alloc _⟩
  have b1 : (h.con == 0) = true := beq_iff_eq.2 n1
  by_cases n2 : h.fl = 0
  case neg =>
    have b2 : ((h.fl : Int) == 0) = false := z_no n2
    rw [show bareB h false false false true true = false from by simp [bareB, n0, n1, n2]]; clear n0 n1 n2; go_enter Try.func57, Try.ntmps57; go_wp2; go_ret; exact ⟨rfl, (Kp.refl w).alloc _⟩
  have b2 : ((h.fl : Int) == 0) = true := z_yes n2
  rw [show bareB h false false false true true = true from by simp [bareB, n0, n1, n2]]; clear n0 n1 n2; go_enter Try.func57, Try.ntmps57; go_wp2; go_ret; exact ⟨rfl, (Kp.refl w).alloc _⟩
set_option maxHeartbeats 1000000 in
theorem c_bare12 (h : Hd) (w : World) : Calls Try.prog 57 #[h.val, .bool true, .bool true, .bool false, .bool false, .bool false] w fun x w' => x = .returned (.bool (bareB h true true false false false)) ∧ Kp w w' := by
  by_cases n2 : h.fl = 0
  case neg =>
    have b2 : ((h.fl : Int) == 0) = false := z_no n2
    rw [show bareB h true true false false false = false from by simp [bareB, n2]]; clear n2; go_enter Try.func57, Try.ntmps57; go_wp2; go_ret; exact ⟨rfl, (Kp.refl w).alloc _⟩
  have b2 : ((h.fl : Int) == 0) = true := z_yes n2
  by_cases n3 : h.ll = 0
  case neg =>
    have b3 : ((h.ll : Int) == 0) = false := z_no n3
    rw [show bareB h true true false false false = false from by simp [bareB, n2, n3]]; clear n2 n3; go_enter Try.func57, Try.ntmps57; go_wp2; go_ret; exact ⟨rfl, (Kp.refl w).alloc _⟩
  have b3 : ((h.ll : Int) == 0) = true := z_yes n3
  by_cases n4 : h.rl = 0
  case neg =>
    have b4 : ((h.rl : Int) == 0) = false := z_no n4
    rw [show bareB h true true false false false = false from by simp [bareB, n2, n3, n4]]; clear n2 n3 n4; go_enter Try.func57, Try.ntmps57; go_wp2; go_ret; exact ⟨rfl, (Kp.refl w).alloc _⟩
  have b4 : ((h.rl : Int) == 0) = true := z_yes n4
  rw [show bareB h true true false false false = true from by simp [bareB, n2, n3, n4]]; clear n2 n3 n4; go_enter Try.func57, Try.ntmps57; go_wp2; go_ret; exact ⟨rfl, (Kp.refl w).alloc _⟩
set_option maxHeartbeats 1000000 in
theorem c_bare1 (h : Hd) (w : World) : Calls Try.prog 57 #[h.val, .bool false, .bool false, .bool false, .bool false, .bool false] w fun x w' => x = .returned (.bool (bareB h false false false false false)) ∧ Kp w w' := by
  rcases em_or h.nm with ⟨n0, y1, x1⟩ | ⟨n0, y1, x1⟩
  case inr =>
    rw [show bareB h false false false false false = false from by simp [bareB, n0]]; clear n0; go_enter Try.func57, Try.ntmps57; go_wp2; go_ret; exact ⟨rfl, (Kp.refl w).alloc _⟩
  by_cases n1 : h.con = 0
  case neg =>
    have b1 : (h.con == 0) = false := beq_eq_false_iff_ne.2 n1
    rw [show bareB h false false false false false = false from by simp [bareB, n0, n1]]; clear n0 n1; go_enter Try.func57, Try.ntmps57; go_wp2; go_ret; exact ⟨rfl, (Kp.refl w).alloc _⟩
  have b1 : (h.con == 0) = true := beq_iff_eq.2 n1
  by_cases n2 : h.fl = 0
  case neg =>
    have b2 : ((h.fl : Int) == 0) = false := z_no n2
    rw [show bareB h false false false false false = false from by simp [bareB, n0, n1, n2]]; clear n0 n1 n2; go_enter Try.func57, Try.ntmps57; go_wp2; go_ret; exact ⟨rfl, (Kp.refl w).alloc _⟩
  have b2 : ((h.fl : Int) == 0) = true := z_yes n2
  by_cases n3 : h.ll = 0
  case neg =>
    have b3 : ((h.ll : Int) == 0) = false := z_no n3
    rw [show bareB h false false false false false = false from by simp [bareB, n0, n1, n2, n3]]; clear n0 n1 n2 n3; go_enter Try.func57, Try.ntmps57; go_wp2; go_ret; exact ⟨rfl, (Kp.refl w).alloc _⟩
  have b3 : ((h.ll : Int) == 0) = true := z_yes n3
  by_cases n4 : h.rl = 0
  case neg =>
    have b4 : ((h.rl : Int) == 0) = false := z_no n4
    rw [show bareB h false false false false false = false from by simp [bareB, n0, n1, n2, n3, n4]]; clear n0 n1 n2 n3 n4; go_enter Try.func57, Try.ntmps57; go_wp2; go_ret; exact ⟨rfl, (Kp.refl w).alloc _⟩
  have b4 : ((h.rl : Int) == 0) = true := z_yes n4
  rw [show bareB h false false false false false = true from by simp [bareB, n0, n1, n2, n3, n4]]; clear n0 n1 n2 n3 n4; go_enter Try.func57, Try.ntmps57; go_wp2; go_ret; exact ⟨rfl, (Kp.refl w).alloc _⟩
end Go.Proofs.Ytfjflfokmihcpaa
