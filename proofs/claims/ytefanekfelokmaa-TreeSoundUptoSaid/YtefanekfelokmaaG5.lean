/- What nodes must stand in a node by its Kind, in the reference: children; lists by letters. Condition: the node lies in memory. -/
import Derived.Test.YtefanekfelokmaaG2
namespace Go.Proofs.Ytefanekfelokmaa
open Go.RowKit
set_option linter.unusedVariables false
set_option linter.unusedSimpArgs false
set_option maxHeartbeats 6400000 in
set_option maxRecDepth 100000 in
theorem kids_3 (ks : List Int) (tx : ByteArray) (n at_ : Int) (la : Option Addr) (ll lc : Nat) (K : Nat → Hn) (w : World) (hL : ListAt w ks la ll lc K) :
    Calls Try.prog 39 #[.agg #[.int .i64 3, .string tx, .int .u64 n, .int .i64 at_, .slice la ll lc]] w fun e w' => e = .returned (.bool (areB ks [(inK [4]), (inK [6]), (inK [7]), (inK [20])])) ∧ Kp w w' := by
  have HL := Lib.hid hL
  have hbl := hL.bl
  clear hL
  go_enter Try.func39, Try.ntmps39
  go_wp2_with (first | (go_at_call 48; (with_reducible refine (list_gpqb _ ks la ll lc K (HL.out.keep (by (repeat (first | with_reducible exact Kp.refl _ | with_reducible refine Kp.alloc ?_ _ | with_reducible refine Kp.drew ?_ | with_reducible refine Kp.back (by assumption) ?_))))).mono ?_); rintro e w1 ⟨rfl, hk1⟩))
  go_ret
  refine ⟨by first | rfl | (simp; done), ?_⟩
  (repeat (first | with_reducible exact Kp.refl _ | with_reducible refine Kp.alloc ?_ _ | with_reducible refine Kp.drew ?_ | with_reducible refine Kp.back (by assumption) ?_))
set_option maxHeartbeats 6400000 in
set_option maxRecDepth 100000 in
theorem kids_5 (ks : List Int) (tx : ByteArray) (n at_ : Int) (la : Option Addr) (ll lc : Nat) (K : Nat → Hn) (w : World) (hL : ListAt w ks la ll lc K) :
    Calls Try.prog 39 #[.agg #[.int .i64 5, .string tx, .int .u64 n, .int .i64 at_, .slice la ll lc]] w fun e w' => e = .returned (.bool (areB ks [tyK])) ∧ Kp w w' := by
  have HL := Lib.hid hL
  have hbl := hL.bl
  clear hL
  go_enter Try.func39, Try.ntmps39
  go_wp2_with (first | (go_at_call 48; (with_reducible refine (list_t _ ks la ll lc K (HL.out.keep (by (repeat (first | with_reducible exact Kp.refl _ | with_reducible refine Kp.alloc ?_ _ | with_reducible refine Kp.drew ?_ | with_reducible refine Kp.back (by assumption) ?_))))).mono ?_); rintro e w1 ⟨rfl, hk1⟩))
  go_ret
  refine ⟨by first | rfl | (simp; done), ?_⟩
  (repeat (first | with_reducible exact Kp.refl _ | with_reducible refine Kp.alloc ?_ _ | with_reducible refine Kp.drew ?_ | with_reducible refine Kp.back (by assumption) ?_))
set_option maxHeartbeats 6400000 in
set_option maxRecDepth 100000 in
theorem kids_11 (ks : List Int) (tx : ByteArray) (n at_ : Int) (la : Option Addr) (ll lc : Nat) (K : Nat → Hn) (w : World) (hL : ListAt w ks la ll lc K) :
    Calls Try.prog 39 #[.agg #[.int .i64 11, .string tx, .int .u64 n, .int .i64 at_, .slice la ll lc]] w fun e w' => e = .returned (.bool (areB ks [tyK])) ∧ Kp w w' := by
  have HL := Lib.hid hL
  have hbl := hL.bl
  clear hL
  go_enter Try.func39, Try.ntmps39
  go_wp2_with (first | (go_at_call 48; (with_reducible refine (list_t _ ks la ll lc K (HL.out.keep (by (repeat (first | with_reducible exact Kp.refl _ | with_reducible refine Kp.alloc ?_ _ | with_reducible refine Kp.drew ?_ | with_reducible refine Kp.back (by assumption) ?_))))).mono ?_); rintro e w1 ⟨rfl, hk1⟩))
  go_ret
  refine ⟨by first | rfl | (simp; done), ?_⟩
  (repeat (first | with_reducible exact Kp.refl _ | with_reducible refine Kp.alloc ?_ _ | with_reducible refine Kp.drew ?_ | with_reducible refine Kp.back (by assumption) ?_))
set_option maxHeartbeats 6400000 in
set_option maxRecDepth 100000 in
theorem kids_12 (ks : List Int) (tx : ByteArray) (n at_ : Int) (la : Option Addr) (ll lc : Nat) (K : Nat → Hn) (w : World) (hL : ListAt w ks la ll lc K) :
    Calls Try.prog 39 #[.agg #[.int .i64 12, .string tx, .int .u64 n, .int .i64 at_, .slice la ll lc]] w fun e w' => e = .returned (.bool (areB ks [tyK])) ∧ Kp w w' := by
  have HL := Lib.hid hL
  have hbl := hL.bl
  clear hL
  go_enter Try.func39, Try.ntmps39
  go_wp2_with (first | (go_at_call 48; (with_reducible refine (list_t _ ks la ll lc K (HL.out.keep (by (repeat (first | with_reducible exact Kp.refl _ | with_reducible refine Kp.alloc ?_ _ | with_reducible refine Kp.drew ?_ | with_reducible refine Kp.back (by assumption) ?_))))).mono ?_); rintro e w1 ⟨rfl, hk1⟩))
  go_ret
  refine ⟨by first | rfl | (simp; done), ?_⟩
  (repeat (first | with_reducible exact Kp.refl _ | with_reducible refine Kp.alloc ?_ _ | with_reducible refine Kp.drew ?_ | with_reducible refine Kp.back (by assumption) ?_))
set_option maxHeartbeats 6400000 in
set_option maxRecDepth 100000 in
theorem kids_22 (ks : List Int) (tx : ByteArray) (n at_ : Int) (la : Option Addr) (ll lc : Nat) (K : Nat → Hn) (w : World) (hL : ListAt w ks la ll lc K) :
    Calls Try.prog 39 #[.agg #[.int .i64 22, .string tx, .int .u64 n, .int .i64 at_, .slice la ll lc]] w fun e w' => e = .returned (.bool (areB ks [tyK])) ∧ Kp w w' := by
  have HL := Lib.hid hL
  have hbl := hL.bl
  clear hL
  go_enter Try.func39, Try.ntmps39
  go_wp2_with (first | (go_at_call 48; (with_reducible refine (list_t _ ks la ll lc K (HL.out.keep (by (repeat (first | with_reducible exact Kp.refl _ | with_reducible refine Kp.alloc ?_ _ | with_reducible refine Kp.drew ?_ | with_reducible refine Kp.back (by assumption) ?_))))).mono ?_); rintro e w1 ⟨rfl, hk1⟩))
  go_ret
  refine ⟨by first | rfl | (simp; done), ?_⟩
  (repeat (first | with_reducible exact Kp.refl _ | with_reducible refine Kp.alloc ?_ _ | with_reducible refine Kp.drew ?_ | with_reducible refine Kp.back (by assumption) ?_))
set_option maxHeartbeats 6400000 in
set_option maxRecDepth 100000 in
theorem kids_7 (ks : List Int) (tx : ByteArray) (n at_ : Int) (la : Option Addr) (ll lc : Nat) (K : Nat → Hn) (w : World) (hL : ListAt w ks la ll lc K) :
    Calls Try.prog 39 #[.agg #[.int .i64 7, .string tx, .int .u64 n, .int .i64 at_, .slice la ll lc]] w fun e w' => e = .returned (.bool (decide (ll = 0) || areB ks [tyK])) ∧ Kp w w' := by
  have HL := Lib.hid hL
  have hbl := hL.bl
  clear hL
  by_cases h0 : ll = 0
  · rw [decide_eq_true h0]
    have e0 : ((ll : Int) == 0) = true := beq_iff_eq.2 (by omega)
    clear h0
    simp only [Bool.true_or]
    go_enter Try.func39, Try.ntmps39
    go_wp2_with (first | fail)
    go_ret
    refine ⟨by first | rfl | (simp; done), ?_⟩
    (repeat (first | with_reducible exact Kp.refl _ | with_reducible refine Kp.alloc ?_ _ | with_reducible refine Kp.drew ?_ | with_reducible refine Kp.back (by assumption) ?_))
  · rw [decide_eq_false h0]
    have e0 : ((ll : Int) == 0) = false := beq_eq_false_iff_ne.2 (by omega)
    clear h0
    simp only [Bool.false_or]
    go_enter Try.func39, Try.ntmps39
    go_wp2_with (first | (go_at_call 48; (with_reducible refine (list_t _ ks la ll lc K (HL.out.keep (by (repeat (first | with_reducible exact Kp.refl _ | with_reducible refine Kp.alloc ?_ _ | with_reducible refine Kp.drew ?_ | with_reducible refine Kp.back (by assumption) ?_))))).mono ?_); rintro e w1 ⟨rfl, hk1⟩))
    go_ret
    refine ⟨by first | rfl | (simp; done), ?_⟩
    (repeat (first | with_reducible exact Kp.refl _ | with_reducible refine Kp.alloc ?_ _ | with_reducible refine Kp.drew ?_ | with_reducible refine Kp.back (by assumption) ?_))
set_option maxHeartbeats 6400000 in
set_option maxRecDepth 100000 in
theorem kids_21 (ks : List Int) (tx : ByteArray) (n at_ : Int) (la : Option Addr) (ll lc : Nat) (K : Nat → Hn) (w : World) (hL : ListAt w ks la ll lc K) :
    Calls Try.prog 39 #[.agg #[.int .i64 21, .string tx, .int .u64 n, .int .i64 at_, .slice la ll lc]] w fun e w' => e = .returned (.bool (areB ks [exK])) ∧ Kp w w' := by
  have HL := Lib.hid hL
  have hbl := hL.bl
  clear hL
  go_enter Try.func39, Try.ntmps39
  go_wp2_with (first | (go_at_call 48; (with_reducible refine (list_e _ ks la ll lc K (HL.out.keep (by (repeat (first | with_reducible exact Kp.refl _ | with_reducible refine Kp.alloc ?_ _ | with_reducible refine Kp.drew ?_ | with_reducible refine Kp.back (by assumption) ?_))))).mono ?_); rintro e w1 ⟨rfl, hk1⟩))
  go_ret
  refine ⟨by first | rfl | (simp; done), ?_⟩
  (repeat (first | with_reducible exact Kp.refl _ | with_reducible refine Kp.alloc ?_ _ | with_reducible refine Kp.drew ?_ | with_reducible refine Kp.back (by assumption) ?_))
set_option maxHeartbeats 6400000 in
set_option maxRecDepth 100000 in
theorem kids_35 (ks : List Int) (tx : ByteArray) (n at_ : Int) (la : Option Addr) (ll lc : Nat) (K : Nat → Hn) (w : World) (hL : ListAt w ks la ll lc K) :
    Calls Try.prog 39 #[.agg #[.int .i64 35, .string tx, .int .u64 n, .int .i64 at_, .slice la ll lc]] w fun e w' => e = .returned (.bool (areB ks [exK])) ∧ Kp w w' := by
  have HL := Lib.hid hL
  have hbl := hL.bl
  clear hL
  go_enter Try.func39, Try.ntmps39
  go_wp2_with (first | (go_at_call 48; (with_reducible refine (list_e _ ks la ll lc K (HL.out.keep (by (repeat (first | with_reducible exact Kp.refl _ | with_reducible refine Kp.alloc ?_ _ | with_reducible refine Kp.drew ?_ | with_reducible refine Kp.back (by assumption) ?_))))).mono ?_); rintro e w1 ⟨rfl, hk1⟩))
  go_ret
  refine ⟨by first | rfl | (simp; done), ?_⟩
  (repeat (first | with_reducible exact Kp.refl _ | with_reducible refine Kp.alloc ?_ _ | with_reducible refine Kp.drew ?_ | with_reducible refine Kp.back (by assumption) ?_))
set_option maxHeartbeats 6400000 in
set_option maxRecDepth 100000 in
theorem kids_39 (ks : List Int) (tx : ByteArray) (n at_ : Int) (la : Option Addr) (ll lc : Nat) (K : Nat → Hn) (w : World) (hL : ListAt w ks la ll lc K) :
    Calls Try.prog 39 #[.agg #[.int .i64 39, .string tx, .int .u64 n, .int .i64 at_, .slice la ll lc]] w fun e w' => e = .returned (.bool (areB ks [exK])) ∧ Kp w w' := by
  have HL := Lib.hid hL
  have hbl := hL.bl
  clear hL
  go_enter Try.func39, Try.ntmps39
  go_wp2_with (first | (go_at_call 48; (with_reducible refine (list_e _ ks la ll lc K (HL.out.keep (by (repeat (first | with_reducible exact Kp.refl _ | with_reducible refine Kp.alloc ?_ _ | with_reducible refine Kp.drew ?_ | with_reducible refine Kp.back (by assumption) ?_))))).mono ?_); rintro e w1 ⟨rfl, hk1⟩))
  go_ret
  refine ⟨by first | rfl | (simp; done), ?_⟩
  (repeat (first | with_reducible exact Kp.refl _ | with_reducible refine Kp.alloc ?_ _ | with_reducible refine Kp.drew ?_ | with_reducible refine Kp.back (by assumption) ?_))
set_option maxHeartbeats 6400000 in
set_option maxRecDepth 100000 in
theorem kids_24 (ks : List Int) (tx : ByteArray) (n at_ : Int) (la : Option Addr) (ll lc : Nat) (K : Nat → Hn) (w : World) (hL : ListAt w ks la ll lc K) :
    Calls Try.prog 39 #[.agg #[.int .i64 24, .string tx, .int .u64 n, .int .i64 at_, .slice la ll lc]] w fun e w' => e = .returned (.bool (areB ks [(inK [34])] || areB ks [(inK [39])])) ∧ Kp w w' := by
  have HL := Lib.hid hL
  have hbl := hL.bl
  clear hL
  cases h0 : areB ks [(inK [34])] with
  | true =>
    simp only [Bool.true_or]
    go_enter Try.func39, Try.ntmps39
    go_wp2_with (first | (go_at_call 48; (with_reducible refine (list_c _ ks la ll lc K (HL.out.keep (by (repeat (first | with_reducible exact Kp.refl _ | with_reducible refine Kp.alloc ?_ _ | with_reducible refine Kp.drew ?_ | with_reducible refine Kp.back (by assumption) ?_))))).mono ?_); rintro e w1 ⟨rfl, hk1⟩; rw [h0]))
    go_ret
    refine ⟨by first | rfl | (simp; done), ?_⟩
    (repeat (first | with_reducible exact Kp.refl _ | with_reducible refine Kp.alloc ?_ _ | with_reducible refine Kp.drew ?_ | with_reducible refine Kp.back (by assumption) ?_))
  | false =>
    simp only [Bool.false_or]
    go_enter Try.func39, Try.ntmps39
    go_wp2_with (first | (go_at_call 48; (with_reducible refine (list_c _ ks la ll lc K (HL.out.keep (by (repeat (first | with_reducible exact Kp.refl _ | with_reducible refine Kp.alloc ?_ _ | with_reducible refine Kp.drew ?_ | with_reducible refine Kp.back (by assumption) ?_))))).mono ?_); rintro e w1 ⟨rfl, hk1⟩; rw [h0]) | (go_at_call 48; (with_reducible refine (list_r _ ks la ll lc K (HL.out.keep (by (repeat (first | with_reducible exact Kp.refl _ | with_reducible refine Kp.alloc ?_ _ | with_reducible refine Kp.drew ?_ | with_reducible refine Kp.back (by assumption) ?_))))).mono ?_); rintro e w1 ⟨rfl, hk1⟩))
    go_ret
    refine ⟨by first | rfl | (simp; done), ?_⟩
    (repeat (first | with_reducible exact Kp.refl _ | with_reducible refine Kp.alloc ?_ _ | with_reducible refine Kp.drew ?_ | with_reducible refine Kp.back (by assumption) ?_))
set_option maxHeartbeats 6400000 in
set_option maxRecDepth 100000 in
theorem kids_25 (ks : List Int) (tx : ByteArray) (n at_ : Int) (la : Option Addr) (ll lc : Nat) (K : Nat → Hn) (w : World) (hL : ListAt w ks la ll lc K) :
    Calls Try.prog 39 #[.agg #[.int .i64 25, .string tx, .int .u64 n, .int .i64 at_, .slice la ll lc]] w fun e w' => e = .returned (.bool (areB ks [exK, (inK [20])] || areB ks [exK, (inK [20]), (inK [20])] || areB ks [exK, (inK [20]), (inK [25])])) ∧ Kp w w' := by
  have HL := Lib.hid hL
  have hbl := hL.bl
  clear hL
  cases h0 : areB ks [exK, (inK [20])] with
  | true =>
    simp only [Bool.true_or]
    go_enter Try.func39, Try.ntmps39
    go_wp2_with (first | (go_at_call 48; (with_reducible refine (list_eb _ ks la ll lc K (HL.out.keep (by (repeat (first | with_reducible exact Kp.refl _ | with_reducible refine Kp.alloc ?_ _ | with_reducible refine Kp.drew ?_ | with_reducible refine Kp.back (by assumption) ?_))))).mono ?_); rintro e w1 ⟨rfl, hk1⟩; rw [h0]))
    go_ret
    refine ⟨by first | rfl | (simp; done), ?_⟩
    (repeat (first | with_reducible exact Kp.refl _ | with_reducible refine Kp.alloc ?_ _ | with_reducible refine Kp.drew ?_ | with_reducible refine Kp.back (by assumption) ?_))
  | false =>
    simp only [Bool.false_or]
    cases h1 : areB ks [exK, (inK [20]), (inK [20])] with
    | true =>
      simp only [Bool.true_or]
      go_enter Try.func39, Try.ntmps39
      go_wp2_with (first | (go_at_call 48; (with_reducible refine (list_eb _ ks la ll lc K (HL.out.keep (by (repeat (first | with_reducible exact Kp.refl _ | with_reducible refine Kp.alloc ?_ _ | with_reducible refine Kp.drew ?_ | with_reducible refine Kp.back (by assumption) ?_))))).mono ?_); rintro e w1 ⟨rfl, hk1⟩; rw [h0]) | (go_at_call 48; (with_reducible refine (list_ebb _ ks la ll lc K (HL.out.keep (by (repeat (first | with_reducible exact Kp.refl _ | with_reducible refine Kp.alloc ?_ _ | with_reducible refine Kp.drew ?_ | with_reducible refine Kp.back (by assumption) ?_))))).mono ?_); rintro e w1 ⟨rfl, hk1⟩; rw [h1]))
      go_ret
      refine ⟨by first | rfl | (simp; done), ?_⟩
      (repeat (first | with_reducible exact Kp.refl _ | with_reducible refine Kp.alloc ?_ _ | with_reducible refine Kp.drew ?_ | with_reducible refine Kp.back (by assumption) ?_))
    | false =>
      simp only [Bool.false_or]
      go_enter Try.func39, Try.ntmps39
      go_wp2_with (first | (go_at_call 48; (with_reducible refine (list_eb _ ks la ll lc K (HL.out.keep (by (repeat (first | with_reducible exact Kp.refl _ | with_reducible refine Kp.alloc ?_ _ | with_reducible refine Kp.drew ?_ | with_reducible refine Kp.back (by assumption) ?_))))).mono ?_); rintro e w1 ⟨rfl, hk1⟩; rw [h0]) | (go_at_call 48; (with_reducible refine (list_ebb _ ks la ll lc K (HL.out.keep (by (repeat (first | with_reducible exact Kp.refl _ | with_reducible refine Kp.alloc ?_ _ | with_reducible refine Kp.drew ?_ | with_reducible refine Kp.back (by assumption) ?_))))).mono ?_); rintro e w1 ⟨rfl, hk1⟩; rw [h1]) | (go_at_call 48; (with_reducible refine (list_ebi _ ks la ll lc K (HL.out.keep (by (repeat (first | with_reducible exact Kp.refl _ | with_reducible refine Kp.alloc ?_ _ | with_reducible refine Kp.drew ?_ | with_reducible refine Kp.back (by assumption) ?_))))).mono ?_); rintro e w1 ⟨rfl, hk1⟩))
      go_ret
      refine ⟨by first | rfl | (simp; done), ?_⟩
      (repeat (first | with_reducible exact Kp.refl _ | with_reducible refine Kp.alloc ?_ _ | with_reducible refine Kp.drew ?_ | with_reducible refine Kp.back (by assumption) ?_))
set_option maxHeartbeats 6400000 in
set_option maxRecDepth 100000 in
theorem kids_26 (ks : List Int) (tx : ByteArray) (n at_ : Int) (la : Option Addr) (ll lc : Nat) (K : Nat → Hn) (w : World) (hL : ListAt w ks la ll lc K) :
    Calls Try.prog 39 #[.agg #[.int .i64 26, .string tx, .int .u64 n, .int .i64 at_, .slice la ll lc]] w fun e w' => e = .returned (.bool (areB ks [exK, (inK [20])])) ∧ Kp w w' := by
  have HL := Lib.hid hL
  have hbl := hL.bl
  clear hL
  go_enter Try.func39, Try.ntmps39
  go_wp2_with (first | (go_at_call 48; (with_reducible refine (list_eb _ ks la ll lc K (HL.out.keep (by (repeat (first | with_reducible exact Kp.refl _ | with_reducible refine Kp.alloc ?_ _ | with_reducible refine Kp.drew ?_ | with_reducible refine Kp.back (by assumption) ?_))))).mono ?_); rintro e w1 ⟨rfl, hk1⟩))
  go_ret
  refine ⟨by first | rfl | (simp; done), ?_⟩
  (repeat (first | with_reducible exact Kp.refl _ | with_reducible refine Kp.alloc ?_ _ | with_reducible refine Kp.drew ?_ | with_reducible refine Kp.back (by assumption) ?_))
set_option maxHeartbeats 6400000 in
set_option maxRecDepth 100000 in
theorem kids_43 (ks : List Int) (tx : ByteArray) (n at_ : Int) (la : Option Addr) (ll lc : Nat) (K : Nat → Hn) (w : World) (hL : ListAt w ks la ll lc K) :
    Calls Try.prog 39 #[.agg #[.int .i64 43, .string tx, .int .u64 n, .int .i64 at_, .slice la ll lc]] w fun e w' => e = .returned (.bool (areB ks [exK, (inK [20])])) ∧ Kp w w' := by
  have HL := Lib.hid hL
  have hbl := hL.bl
  clear hL
  go_enter Try.func39, Try.ntmps39
  go_wp2_with (first | (go_at_call 48; (with_reducible refine (list_eb _ ks la ll lc K (HL.out.keep (by (repeat (first | with_reducible exact Kp.refl _ | with_reducible refine Kp.alloc ?_ _ | with_reducible refine Kp.drew ?_ | with_reducible refine Kp.back (by assumption) ?_))))).mono ?_); rintro e w1 ⟨rfl, hk1⟩))
  go_ret
  refine ⟨by first | rfl | (simp; done), ?_⟩
  (repeat (first | with_reducible exact Kp.refl _ | with_reducible refine Kp.alloc ?_ _ | with_reducible refine Kp.drew ?_ | with_reducible refine Kp.back (by assumption) ?_))
set_option maxHeartbeats 6400000 in
set_option maxRecDepth 100000 in
theorem kids_28 (ks : List Int) (tx : ByteArray) (n at_ : Int) (la : Option Addr) (ll lc : Nat) (K : Nat → Hn) (w : World) (hL : ListAt w ks la ll lc K) :
    Calls Try.prog 39 #[.agg #[.int .i64 28, .string tx, .int .u64 n, .int .i64 at_, .slice la ll lc]] w fun e w' => e = .returned (.bool (decide (ll = 0) || areB ks [exK])) ∧ Kp w w' := by
  have HL := Lib.hid hL
  have hbl := hL.bl
  clear hL
  by_cases h0 : ll = 0
  · rw [decide_eq_true h0]
    have e0 : ((ll : Int) == 0) = true := beq_iff_eq.2 (by omega)
    clear h0
    simp only [Bool.true_or]
    go_enter Try.func39, Try.ntmps39
    go_wp2_with (first | fail)
    go_ret
    refine ⟨by first | rfl | (simp; done), ?_⟩
    (repeat (first | with_reducible exact Kp.refl _ | with_reducible refine Kp.alloc ?_ _ | with_reducible refine Kp.drew ?_ | with_reducible refine Kp.back (by assumption) ?_))
  · rw [decide_eq_false h0]
    have e0 : ((ll : Int) == 0) = false := beq_eq_false_iff_ne.2 (by omega)
    clear h0
    simp only [Bool.false_or]
    go_enter Try.func39, Try.ntmps39
    go_wp2_with (first | (go_at_call 48; (with_reducible refine (list_e _ ks la ll lc K (HL.out.keep (by (repeat (first | with_reducible exact Kp.refl _ | with_reducible refine Kp.alloc ?_ _ | with_reducible refine Kp.drew ?_ | with_reducible refine Kp.back (by assumption) ?_))))).mono ?_); rintro e w1 ⟨rfl, hk1⟩))
    go_ret
    refine ⟨by first | rfl | (simp; done), ?_⟩
    (repeat (first | with_reducible exact Kp.refl _ | with_reducible refine Kp.alloc ?_ _ | with_reducible refine Kp.drew ?_ | with_reducible refine Kp.back (by assumption) ?_))
set_option maxHeartbeats 6400000 in
set_option maxRecDepth 100000 in
theorem kids_29 (ks : List Int) (tx : ByteArray) (n at_ : Int) (la : Option Addr) (ll lc : Nat) (K : Nat → Hn) (w : World) (hL : ListAt w ks la ll lc K) :
    Calls Try.prog 39 #[.agg #[.int .i64 29, .string tx, .int .u64 n, .int .i64 at_, .slice la ll lc]] w fun e w' => e = .returned (.bool (areB ks [(inK [34])])) ∧ Kp w w' := by
  have HL := Lib.hid hL
  have hbl := hL.bl
  clear hL
  go_enter Try.func39, Try.ntmps39
  go_wp2_with (first | (go_at_call 48; (with_reducible refine (list_c _ ks la ll lc K (HL.out.keep (by (repeat (first | with_reducible exact Kp.refl _ | with_reducible refine Kp.alloc ?_ _ | with_reducible refine Kp.drew ?_ | with_reducible refine Kp.back (by assumption) ?_))))).mono ?_); rintro e w1 ⟨rfl, hk1⟩))
  go_ret
  refine ⟨by first | rfl | (simp; done), ?_⟩
  (repeat (first | with_reducible exact Kp.refl _ | with_reducible refine Kp.alloc ?_ _ | with_reducible refine Kp.drew ?_ | with_reducible refine Kp.back (by assumption) ?_))
set_option maxHeartbeats 6400000 in
set_option maxRecDepth 100000 in
theorem kids_33 (ks : List Int) (tx : ByteArray) (n at_ : Int) (la : Option Addr) (ll lc : Nat) (K : Nat → Hn) (w : World) (hL : ListAt w ks la ll lc K) :
    Calls Try.prog 39 #[.agg #[.int .i64 33, .string tx, .int .u64 n, .int .i64 at_, .slice la ll lc]] w fun e w' => e = .returned (.bool (areB ks [exK] || areB ks [exK, exK])) ∧ Kp w w' := by
  have HL := Lib.hid hL
  have hbl := hL.bl
  clear hL
  cases h0 : areB ks [exK] with
  | true =>
    simp only [Bool.true_or]
    go_enter Try.func39, Try.ntmps39
    go_wp2_with (first | (go_at_call 48; (with_reducible refine (list_e _ ks la ll lc K (HL.out.keep (by (repeat (first | with_reducible exact Kp.refl _ | with_reducible refine Kp.alloc ?_ _ | with_reducible refine Kp.drew ?_ | with_reducible refine Kp.back (by assumption) ?_))))).mono ?_); rintro e w1 ⟨rfl, hk1⟩; rw [h0]))
    go_ret
    refine ⟨by first | rfl | (simp; done), ?_⟩
    (repeat (first | with_reducible exact Kp.refl _ | with_reducible refine Kp.alloc ?_ _ | with_reducible refine Kp.drew ?_ | with_reducible refine Kp.back (by assumption) ?_))
  | false =>
    simp only [Bool.false_or]
    go_enter Try.func39, Try.ntmps39
    go_wp2_with (first | (go_at_call 48; (with_reducible refine (list_e _ ks la ll lc K (HL.out.keep (by (repeat (first | with_reducible exact Kp.refl _ | with_reducible refine Kp.alloc ?_ _ | with_reducible refine Kp.drew ?_ | with_reducible refine Kp.back (by assumption) ?_))))).mono ?_); rintro e w1 ⟨rfl, hk1⟩; rw [h0]) | (go_at_call 48; (with_reducible refine (list_ee _ ks la ll lc K (HL.out.keep (by (repeat (first | with_reducible exact Kp.refl _ | with_reducible refine Kp.alloc ?_ _ | with_reducible refine Kp.drew ?_ | with_reducible refine Kp.back (by assumption) ?_))))).mono ?_); rintro e w1 ⟨rfl, hk1⟩))
    go_ret
    refine ⟨by first | rfl | (simp; done), ?_⟩
    (repeat (first | with_reducible exact Kp.refl _ | with_reducible refine Kp.alloc ?_ _ | with_reducible refine Kp.drew ?_ | with_reducible refine Kp.back (by assumption) ?_))
set_option maxHeartbeats 6400000 in
set_option maxRecDepth 100000 in
theorem kids_38 (ks : List Int) (tx : ByteArray) (n at_ : Int) (la : Option Addr) (ll lc : Nat) (K : Nat → Hn) (w : World) (hL : ListAt w ks la ll lc K) :
    Calls Try.prog 39 #[.agg #[.int .i64 38, .string tx, .int .u64 n, .int .i64 at_, .slice la ll lc]] w fun e w' => e = .returned (.bool (areB ks [(inK [6]), (inK [7]), (inK [20])])) ∧ Kp w w' := by
  have HL := Lib.hid hL
  have hbl := hL.bl
  clear hL
  go_enter Try.func39, Try.ntmps39
  go_wp2_with (first | (go_at_call 48; (with_reducible refine (list_pqb _ ks la ll lc K (HL.out.keep (by (repeat (first | with_reducible exact Kp.refl _ | with_reducible refine Kp.alloc ?_ _ | with_reducible refine Kp.drew ?_ | with_reducible refine Kp.back (by assumption) ?_))))).mono ?_); rintro e w1 ⟨rfl, hk1⟩))
  go_ret
  refine ⟨by first | rfl | (simp; done), ?_⟩
  (repeat (first | with_reducible exact Kp.refl _ | with_reducible refine Kp.alloc ?_ _ | with_reducible refine Kp.drew ?_ | with_reducible refine Kp.back (by assumption) ?_))
set_option maxHeartbeats 6400000 in
set_option maxRecDepth 100000 in
theorem kids_40 (ks : List Int) (tx : ByteArray) (n at_ : Int) (la : Option Addr) (ll lc : Nat) (K : Nat → Hn) (w : World) (hL : ListAt w ks la ll lc K) :
    Calls Try.prog 39 #[.agg #[.int .i64 40, .string tx, .int .u64 n, .int .i64 at_, .slice la ll lc]] w fun e w' => e = .returned (.bool (areB ks [tyK, exK])) ∧ Kp w w' := by
  have HL := Lib.hid hL
  have hbl := hL.bl
  clear hL
  go_enter Try.func39, Try.ntmps39
  go_wp2_with (first | (go_at_call 48; (with_reducible refine (list_te _ ks la ll lc K (HL.out.keep (by (repeat (first | with_reducible exact Kp.refl _ | with_reducible refine Kp.alloc ?_ _ | with_reducible refine Kp.drew ?_ | with_reducible refine Kp.back (by assumption) ?_))))).mono ?_); rintro e w1 ⟨rfl, hk1⟩))
  go_ret
  refine ⟨by first | rfl | (simp; done), ?_⟩
  (repeat (first | with_reducible exact Kp.refl _ | with_reducible refine Kp.alloc ?_ _ | with_reducible refine Kp.drew ?_ | with_reducible refine Kp.back (by assumption) ?_))
set_option maxHeartbeats 6400000 in
set_option maxRecDepth 100000 in
theorem kids_41 (ks : List Int) (tx : ByteArray) (n at_ : Int) (la : Option Addr) (ll lc : Nat) (K : Nat → Hn) (w : World) (hL : ListAt w ks la ll lc K) :
    Calls Try.prog 39 #[.agg #[.int .i64 41, .string tx, .int .u64 n, .int .i64 at_, .slice la ll lc]] w fun e w' => e = .returned (.bool (areB ks [exK, exK])) ∧ Kp w w' := by
  have HL := Lib.hid hL
  have hbl := hL.bl
  clear hL
  go_enter Try.func39, Try.ntmps39
  go_wp2_with (first | (go_at_call 48; (with_reducible refine (list_ee _ ks la ll lc K (HL.out.keep (by (repeat (first | with_reducible exact Kp.refl _ | with_reducible refine Kp.alloc ?_ _ | with_reducible refine Kp.drew ?_ | with_reducible refine Kp.back (by assumption) ?_))))).mono ?_); rintro e w1 ⟨rfl, hk1⟩))
  go_ret
  refine ⟨by first | rfl | (simp; done), ?_⟩
  (repeat (first | with_reducible exact Kp.refl _ | with_reducible refine Kp.alloc ?_ _ | with_reducible refine Kp.drew ?_ | with_reducible refine Kp.back (by assumption) ?_))
set_option maxHeartbeats 6400000 in
set_option maxRecDepth 100000 in
theorem kids_44 (ks : List Int) (tx : ByteArray) (n at_ : Int) (la : Option Addr) (ll lc : Nat) (K : Nat → Hn) (w : World) (hL : ListAt w ks la ll lc K) :
    Calls Try.prog 39 #[.agg #[.int .i64 44, .string tx, .int .u64 n, .int .i64 at_, .slice la ll lc]] w fun e w' => e = .returned (.bool (areB ks [exK, exK, (inK [20])])) ∧ Kp w w' := by
  have HL := Lib.hid hL
  have hbl := hL.bl
  clear hL
  go_enter Try.func39, Try.ntmps39
  go_wp2_with (first | (go_at_call 48; (with_reducible refine (list_eeb _ ks la ll lc K (HL.out.keep (by (repeat (first | with_reducible exact Kp.refl _ | with_reducible refine Kp.alloc ?_ _ | with_reducible refine Kp.drew ?_ | with_reducible refine Kp.back (by assumption) ?_))))).mono ?_); rintro e w1 ⟨rfl, hk1⟩))
  go_ret
  refine ⟨by first | rfl | (simp; done), ?_⟩
  (repeat (first | with_reducible exact Kp.refl _ | with_reducible refine Kp.alloc ?_ _ | with_reducible refine Kp.drew ?_ | with_reducible refine Kp.back (by assumption) ?_))
set_option maxHeartbeats 6400000 in
set_option maxRecDepth 100000 in
theorem kids_45 (ks : List Int) (tx : ByteArray) (n at_ : Int) (la : Option Addr) (ll lc : Nat) (K : Nat → Hn) (w : World) (hL : ListAt w ks la ll lc K) :
    Calls Try.prog 39 #[.agg #[.int .i64 45, .string tx, .int .u64 n, .int .i64 at_, .slice la ll lc]] w fun e w' => e = .returned (.bool (areB ks [(inK [20])])) ∧ Kp w w' := by
  have HL := Lib.hid hL
  have hbl := hL.bl
  clear hL
  go_enter Try.func39, Try.ntmps39
  go_wp2_with (first | (go_at_call 48; (with_reducible refine (list_b _ ks la ll lc K (HL.out.keep (by (repeat (first | with_reducible exact Kp.refl _ | with_reducible refine Kp.alloc ?_ _ | with_reducible refine Kp.drew ?_ | with_reducible refine Kp.back (by assumption) ?_))))).mono ?_); rintro e w1 ⟨rfl, hk1⟩))
  go_ret
  refine ⟨by first | rfl | (simp; done), ?_⟩
  (repeat (first | with_reducible exact Kp.refl _ | with_reducible refine Kp.alloc ?_ _ | with_reducible refine Kp.drew ?_ | with_reducible refine Kp.back (by assumption) ?_))
set_option maxHeartbeats 6400000 in
set_option maxRecDepth 100000 in
theorem kids_8 (ks : List Int) (tx : ByteArray) (n at_ : Int) (la : Option Addr) (ll lc : Nat) (K : Nat → Hn) (w : World) (hL : ListAt w ks la ll lc K) :
    Calls Try.prog 39 #[.agg #[.int .i64 8, .string tx, .int .u64 n, .int .i64 at_, .slice la ll lc]] w fun e w' => e = .returned (.bool (decide (ll = 0))) ∧ Kp w w' := by
  have HL := Lib.hid hL
  have hbl := hL.bl
  clear hL
  by_cases h0 : ll = 0
  · rw [decide_eq_true h0]
    have e0 : ((ll : Int) == 0) = true := beq_iff_eq.2 (by omega)
    clear h0
    go_enter Try.func39, Try.ntmps39
    go_wp2_with (first | fail)
    go_ret
    refine ⟨by first | rfl | (simp; done), ?_⟩
    (repeat (first | with_reducible exact Kp.refl _ | with_reducible refine Kp.alloc ?_ _ | with_reducible refine Kp.drew ?_ | with_reducible refine Kp.back (by assumption) ?_))
  · rw [decide_eq_false h0]
    have e0 : ((ll : Int) == 0) = false := beq_eq_false_iff_ne.2 (by omega)
    clear h0
    go_enter Try.func39, Try.ntmps39
    go_wp2_with (first | fail)
    go_ret
    refine ⟨by first | rfl | (simp; done), ?_⟩
    (repeat (first | with_reducible exact Kp.refl _ | with_reducible refine Kp.alloc ?_ _ | with_reducible refine Kp.drew ?_ | with_reducible refine Kp.back (by assumption) ?_))
set_option maxHeartbeats 6400000 in
set_option maxRecDepth 100000 in
theorem kids_10 (ks : List Int) (tx : ByteArray) (n at_ : Int) (la : Option Addr) (ll lc : Nat) (K : Nat → Hn) (w : World) (hL : ListAt w ks la ll lc K) :
    Calls Try.prog 39 #[.agg #[.int .i64 10, .string tx, .int .u64 n, .int .i64 at_, .slice la ll lc]] w fun e w' => e = .returned (.bool (decide (ll = 0))) ∧ Kp w w' := by
  have HL := Lib.hid hL
  have hbl := hL.bl
  clear hL
  by_cases h0 : ll = 0
  · rw [decide_eq_true h0]
    have e0 : ((ll : Int) == 0) = true := beq_iff_eq.2 (by omega)
    clear h0
    go_enter Try.func39, Try.ntmps39
    go_wp2_with (first | fail)
    go_ret
    refine ⟨by first | rfl | (simp; done), ?_⟩
    (repeat (first | with_reducible exact Kp.refl _ | with_reducible refine Kp.alloc ?_ _ | with_reducible refine Kp.drew ?_ | with_reducible refine Kp.back (by assumption) ?_))
  · rw [decide_eq_false h0]
    have e0 : ((ll : Int) == 0) = false := beq_eq_false_iff_ne.2 (by omega)
    clear h0
    go_enter Try.func39, Try.ntmps39
    go_wp2_with (first | fail)
    go_ret
    refine ⟨by first | rfl | (simp; done), ?_⟩
    (repeat (first | with_reducible exact Kp.refl _ | with_reducible refine Kp.alloc ?_ _ | with_reducible refine Kp.drew ?_ | with_reducible refine Kp.back (by assumption) ?_))
set_option maxHeartbeats 6400000 in
set_option maxRecDepth 100000 in
theorem kids_27 (ks : List Int) (tx : ByteArray) (n at_ : Int) (la : Option Addr) (ll lc : Nat) (K : Nat → Hn) (w : World) (hL : ListAt w ks la ll lc K) :
    Calls Try.prog 39 #[.agg #[.int .i64 27, .string tx, .int .u64 n, .int .i64 at_, .slice la ll lc]] w fun e w' => e = .returned (.bool (decide (ll = 0))) ∧ Kp w w' := by
  have HL := Lib.hid hL
  have hbl := hL.bl
  clear hL
  by_cases h0 : ll = 0
  · rw [decide_eq_true h0]
    have e0 : ((ll : Int) == 0) = true := beq_iff_eq.2 (by omega)
    clear h0
    go_enter Try.func39, Try.ntmps39
    go_wp2_with (first | fail)
    go_ret
    refine ⟨by first | rfl | (simp; done), ?_⟩
    (repeat (first | with_reducible exact Kp.refl _ | with_reducible refine Kp.alloc ?_ _ | with_reducible refine Kp.drew ?_ | with_reducible refine Kp.back (by assumption) ?_))
  · rw [decide_eq_false h0]
    have e0 : ((ll : Int) == 0) = false := beq_eq_false_iff_ne.2 (by omega)
    clear h0
    go_enter Try.func39, Try.ntmps39
    go_wp2_with (first | fail)
    go_ret
    refine ⟨by first | rfl | (simp; done), ?_⟩
    (repeat (first | with_reducible exact Kp.refl _ | with_reducible refine Kp.alloc ?_ _ | with_reducible refine Kp.drew ?_ | with_reducible refine Kp.back (by assumption) ?_))
set_option maxHeartbeats 6400000 in
set_option maxRecDepth 100000 in
theorem kids_30 (ks : List Int) (tx : ByteArray) (n at_ : Int) (la : Option Addr) (ll lc : Nat) (K : Nat → Hn) (w : World) (hL : ListAt w ks la ll lc K) :
    Calls Try.prog 39 #[.agg #[.int .i64 30, .string tx, .int .u64 n, .int .i64 at_, .slice la ll lc]] w fun e w' => e = .returned (.bool (decide (ll = 0))) ∧ Kp w w' := by
  have HL := Lib.hid hL
  have hbl := hL.bl
  clear hL
  by_cases h0 : ll = 0
  · rw [decide_eq_true h0]
    have e0 : ((ll : Int) == 0) = true := beq_iff_eq.2 (by omega)
    clear h0
    go_enter Try.func39, Try.ntmps39
    go_wp2_with (first | fail)
    go_ret
    refine ⟨by first | rfl | (simp; done), ?_⟩
    (repeat (first | with_reducible exact Kp.refl _ | with_reducible refine Kp.alloc ?_ _ | with_reducible refine Kp.drew ?_ | with_reducible refine Kp.back (by assumption) ?_))
  · rw [decide_eq_false h0]
    have e0 : ((ll : Int) == 0) = false := beq_eq_false_iff_ne.2 (by omega)
    clear h0
    go_enter Try.func39, Try.ntmps39
    go_wp2_with (first | fail)
    go_ret
    refine ⟨by first | rfl | (simp; done), ?_⟩
    (repeat (first | with_reducible exact Kp.refl _ | with_reducible refine Kp.alloc ?_ _ | with_reducible refine Kp.drew ?_ | with_reducible refine Kp.back (by assumption) ?_))
set_option maxHeartbeats 6400000 in
set_option maxRecDepth 100000 in
theorem kids_31 (ks : List Int) (tx : ByteArray) (n at_ : Int) (la : Option Addr) (ll lc : Nat) (K : Nat → Hn) (w : World) (hL : ListAt w ks la ll lc K) :
    Calls Try.prog 39 #[.agg #[.int .i64 31, .string tx, .int .u64 n, .int .i64 at_, .slice la ll lc]] w fun e w' => e = .returned (.bool (decide (ll = 0))) ∧ Kp w w' := by
  have HL := Lib.hid hL
  have hbl := hL.bl
  clear hL
  by_cases h0 : ll = 0
  · rw [decide_eq_true h0]
    have e0 : ((ll : Int) == 0) = true := beq_iff_eq.2 (by omega)
    clear h0
    go_enter Try.func39, Try.ntmps39
    go_wp2_with (first | fail)
    go_ret
    refine ⟨by first | rfl | (simp; done), ?_⟩
    (repeat (first | with_reducible exact Kp.refl _ | with_reducible refine Kp.alloc ?_ _ | with_reducible refine Kp.drew ?_ | with_reducible refine Kp.back (by assumption) ?_))
  · rw [decide_eq_false h0]
    have e0 : ((ll : Int) == 0) = false := beq_eq_false_iff_ne.2 (by omega)
    clear h0
    go_enter Try.func39, Try.ntmps39
    go_wp2_with (first | fail)
    go_ret
    refine ⟨by first | rfl | (simp; done), ?_⟩
    (repeat (first | with_reducible exact Kp.refl _ | with_reducible refine Kp.alloc ?_ _ | with_reducible refine Kp.drew ?_ | with_reducible refine Kp.back (by assumption) ?_))
set_option maxHeartbeats 6400000 in
set_option maxRecDepth 100000 in
theorem kids_32 (ks : List Int) (tx : ByteArray) (n at_ : Int) (la : Option Addr) (ll lc : Nat) (K : Nat → Hn) (w : World) (hL : ListAt w ks la ll lc K) :
    Calls Try.prog 39 #[.agg #[.int .i64 32, .string tx, .int .u64 n, .int .i64 at_, .slice la ll lc]] w fun e w' => e = .returned (.bool (decide (ll = 0))) ∧ Kp w w' := by
  have HL := Lib.hid hL
  have hbl := hL.bl
  clear hL
  by_cases h0 : ll = 0
  · rw [decide_eq_true h0]
    have e0 : ((ll : Int) == 0) = true := beq_iff_eq.2 (by omega)
    clear h0
    go_enter Try.func39, Try.ntmps39
    go_wp2_with (first | fail)
    go_ret
    refine ⟨by first | rfl | (simp; done), ?_⟩
    (repeat (first | with_reducible exact Kp.refl _ | with_reducible refine Kp.alloc ?_ _ | with_reducible refine Kp.drew ?_ | with_reducible refine Kp.back (by assumption) ?_))
  · rw [decide_eq_false h0]
    have e0 : ((ll : Int) == 0) = false := beq_eq_false_iff_ne.2 (by omega)
    clear h0
    go_enter Try.func39, Try.ntmps39
    go_wp2_with (first | fail)
    go_ret
    refine ⟨by first | rfl | (simp; done), ?_⟩
    (repeat (first | with_reducible exact Kp.refl _ | with_reducible refine Kp.alloc ?_ _ | with_reducible refine Kp.drew ?_ | with_reducible refine Kp.back (by assumption) ?_))
set_option maxHeartbeats 6400000 in
set_option maxRecDepth 100000 in
theorem kids_2 (ks : List Int) (tx : ByteArray) (n at_ : Int) (la : Option Addr) (ll lc : Nat) (K : Nat → Hn) (w : World) (hL : ListAt w ks la ll lc K) :
    Calls Try.prog 39 #[.agg #[.int .i64 2, .string tx, .int .u64 n, .int .i64 at_, .slice la ll lc]] w fun e w' => e = .returned (.bool (allB ks (fun k => k == 5) && decide (ll ≤ 16))) ∧ Kp w w' := by
  have HL := Lib.hid hL
  have hbl := hL.bl
  clear hL
  cases hq : allB ks (fun k => k == 5) with
  | false =>
    rw [Bool.false_and]
    go_enter Try.func39, Try.ntmps39
    go_wp2_with (first | (go_at_call 47; (with_reducible refine (c_same _ ks la ll lc K (HL.out.keep (by (repeat (first | with_reducible exact Kp.refl _ | with_reducible refine Kp.alloc ?_ _ | with_reducible refine Kp.drew ?_ | with_reducible refine Kp.back (by assumption) ?_)))) 5).mono ?_); rintro e w1 ⟨rfl, hk1⟩; rw [hq]))
    go_ret
    refine ⟨by first | rfl | (simp; done), ?_⟩
    (repeat (first | with_reducible exact Kp.refl _ | with_reducible refine Kp.alloc ?_ _ | with_reducible refine Kp.drew ?_ | with_reducible refine Kp.back (by assumption) ?_))
  | true =>
    rw [Bool.true_and]
    by_cases h0 : ll ≤ 16
    · rw [decide_eq_true h0]
      have e0 : decide ((ll : Int) ≤ 16) = true := decide_eq_true (by omega)
      clear h0
      go_enter Try.func39, Try.ntmps39
      go_wp2_with (first | (go_at_call 47; (with_reducible refine (c_same _ ks la ll lc K (HL.out.keep (by (repeat (first | with_reducible exact Kp.refl _ | with_reducible refine Kp.alloc ?_ _ | with_reducible refine Kp.drew ?_ | with_reducible refine Kp.back (by assumption) ?_)))) 5).mono ?_); rintro e w1 ⟨rfl, hk1⟩; rw [hq]))
      go_ret
      refine ⟨by first | rfl | (simp; done), ?_⟩
      (repeat (first | with_reducible exact Kp.refl _ | with_reducible refine Kp.alloc ?_ _ | with_reducible refine Kp.drew ?_ | with_reducible refine Kp.back (by assumption) ?_))
    · rw [decide_eq_false h0]
      have e0 : decide ((ll : Int) ≤ 16) = false := decide_eq_false (by omega)
      clear h0
      go_enter Try.func39, Try.ntmps39
      go_wp2_with (first | (go_at_call 47; (with_reducible refine (c_same _ ks la ll lc K (HL.out.keep (by (repeat (first | with_reducible exact Kp.refl _ | with_reducible refine Kp.alloc ?_ _ | with_reducible refine Kp.drew ?_ | with_reducible refine Kp.back (by assumption) ?_)))) 5).mono ?_); rintro e w1 ⟨rfl, hk1⟩; rw [hq]))
      go_ret
      refine ⟨by first | rfl | (simp; done), ?_⟩
      (repeat (first | with_reducible exact Kp.refl _ | with_reducible refine Kp.alloc ?_ _ | with_reducible refine Kp.drew ?_ | with_reducible refine Kp.back (by assumption) ?_))
set_option maxHeartbeats 6400000 in
set_option maxRecDepth 100000 in
theorem kids_6 (ks : List Int) (tx : ByteArray) (n at_ : Int) (la : Option Addr) (ll lc : Nat) (K : Nat → Hn) (w : World) (hL : ListAt w ks la ll lc K) :
    Calls Try.prog 39 #[.agg #[.int .i64 6, .string tx, .int .u64 n, .int .i64 at_, .slice la ll lc]] w fun e w' => e = .returned (.bool (allB ks (fun k => k == 5) && decide (ll ≤ 16))) ∧ Kp w w' := by
  have HL := Lib.hid hL
  have hbl := hL.bl
  clear hL
  cases hq : allB ks (fun k => k == 5) with
  | false =>
    rw [Bool.false_and]
    go_enter Try.func39, Try.ntmps39
    go_wp2_with (first | (go_at_call 47; (with_reducible refine (c_same _ ks la ll lc K (HL.out.keep (by (repeat (first | with_reducible exact Kp.refl _ | with_reducible refine Kp.alloc ?_ _ | with_reducible refine Kp.drew ?_ | with_reducible refine Kp.back (by assumption) ?_)))) 5).mono ?_); rintro e w1 ⟨rfl, hk1⟩; rw [hq]))
    go_ret
    refine ⟨by first | rfl | (simp; done), ?_⟩
    (repeat (first | with_reducible exact Kp.refl _ | with_reducible refine Kp.alloc ?_ _ | with_reducible refine Kp.drew ?_ | with_reducible refine Kp.back (by assumption) ?_))
  | true =>
    rw [Bool.true_and]
    by_cases h0 : ll ≤ 16
    · rw [decide_eq_true h0]
      have e0 : decide ((ll : Int) ≤ 16) = true := decide_eq_true (by omega)
      clear h0
      go_enter Try.func39, Try.ntmps39
      go_wp2_with (first | (go_at_call 47; (with_reducible refine (c_same _ ks la ll lc K (HL.out.keep (by (repeat (first | with_reducible exact Kp.refl _ | with_reducible refine Kp.alloc ?_ _ | with_reducible refine Kp.drew ?_ | with_reducible refine Kp.back (by assumption) ?_)))) 5).mono ?_); rintro e w1 ⟨rfl, hk1⟩; rw [hq]))
      go_ret
      refine ⟨by first | rfl | (simp; done), ?_⟩
      (repeat (first | with_reducible exact Kp.refl _ | with_reducible refine Kp.alloc ?_ _ | with_reducible refine Kp.drew ?_ | with_reducible refine Kp.back (by assumption) ?_))
    · rw [decide_eq_false h0]
      have e0 : decide ((ll : Int) ≤ 16) = false := decide_eq_false (by omega)
      clear h0
      go_enter Try.func39, Try.ntmps39
      go_wp2_with (first | (go_at_call 47; (with_reducible refine (c_same _ ks la ll lc K (HL.out.keep (by (repeat (first | with_reducible exact Kp.refl _ | with_reducible refine Kp.alloc ?_ _ | with_reducible refine Kp.drew ?_ | with_reducible refine Kp.back (by assumption) ?_)))) 5).mono ?_); rintro e w1 ⟨rfl, hk1⟩; rw [hq]))
      go_ret
      refine ⟨by first | rfl | (simp; done), ?_⟩
      (repeat (first | with_reducible exact Kp.refl _ | with_reducible refine Kp.alloc ?_ _ | with_reducible refine Kp.drew ?_ | with_reducible refine Kp.back (by assumption) ?_))
set_option maxHeartbeats 6400000 in
set_option maxRecDepth 100000 in
theorem kids_4 (ks : List Int) (tx : ByteArray) (n at_ : Int) (la : Option Addr) (ll lc : Nat) (K : Nat → Hn) (w : World) (hL : ListAt w ks la ll lc K) :
    Calls Try.prog 39 #[.agg #[.int .i64 4, .string tx, .int .u64 n, .int .i64 at_, .slice la ll lc]] w fun e w' => e = .returned (.bool (allB ks (fun k => k == 8) && decide (ll ≤ 16))) ∧ Kp w w' := by
  have HL := Lib.hid hL
  have hbl := hL.bl
  clear hL
  cases hq : allB ks (fun k => k == 8) with
  | false =>
    rw [Bool.false_and]
    go_enter Try.func39, Try.ntmps39
    go_wp2_with (first | (go_at_call 47; (with_reducible refine (c_same _ ks la ll lc K (HL.out.keep (by (repeat (first | with_reducible exact Kp.refl _ | with_reducible refine Kp.alloc ?_ _ | with_reducible refine Kp.drew ?_ | with_reducible refine Kp.back (by assumption) ?_)))) 8).mono ?_); rintro e w1 ⟨rfl, hk1⟩; rw [hq]))
    go_ret
    refine ⟨by first | rfl | (simp; done), ?_⟩
    (repeat (first | with_reducible exact Kp.refl _ | with_reducible refine Kp.alloc ?_ _ | with_reducible refine Kp.drew ?_ | with_reducible refine Kp.back (by assumption) ?_))
  | true =>
    rw [Bool.true_and]
    by_cases h0 : ll ≤ 16
    · rw [decide_eq_true h0]
      have e0 : decide ((ll : Int) ≤ 16) = true := decide_eq_true (by omega)
      clear h0
      go_enter Try.func39, Try.ntmps39
      go_wp2_with (first | (go_at_call 47; (with_reducible refine (c_same _ ks la ll lc K (HL.out.keep (by (repeat (first | with_reducible exact Kp.refl _ | with_reducible refine Kp.alloc ?_ _ | with_reducible refine Kp.drew ?_ | with_reducible refine Kp.back (by assumption) ?_)))) 8).mono ?_); rintro e w1 ⟨rfl, hk1⟩; rw [hq]))
      go_ret
      refine ⟨by first | rfl | (simp; done), ?_⟩
      (repeat (first | with_reducible exact Kp.refl _ | with_reducible refine Kp.alloc ?_ _ | with_reducible refine Kp.drew ?_ | with_reducible refine Kp.back (by assumption) ?_))
    · rw [decide_eq_false h0]
      have e0 : decide ((ll : Int) ≤ 16) = false := decide_eq_false (by omega)
      clear h0
      go_enter Try.func39, Try.ntmps39
      go_wp2_with (first | (go_at_call 47; (with_reducible refine (c_same _ ks la ll lc K (HL.out.keep (by (repeat (first | with_reducible exact Kp.refl _ | with_reducible refine Kp.alloc ?_ _ | with_reducible refine Kp.drew ?_ | with_reducible refine Kp.back (by assumption) ?_)))) 8).mono ?_); rintro e w1 ⟨rfl, hk1⟩; rw [hq]))
      go_ret
      refine ⟨by first | rfl | (simp; done), ?_⟩
      (repeat (first | with_reducible exact Kp.refl _ | with_reducible refine Kp.alloc ?_ _ | with_reducible refine Kp.drew ?_ | with_reducible refine Kp.back (by assumption) ?_))
set_option maxHeartbeats 6400000 in
set_option maxRecDepth 100000 in
theorem kids_37 (ks : List Int) (tx : ByteArray) (n at_ : Int) (la : Option Addr) (ll lc : Nat) (K : Nat → Hn) (w : World) (hL : ListAt w ks la ll lc K) :
    Calls Try.prog 39 #[.agg #[.int .i64 37, .string tx, .int .u64 n, .int .i64 at_, .slice la ll lc]] w fun e w' => e = .returned (.bool (allB ks (fun k => sortL k == 101) && decide (ll ≤ 16))) ∧ Kp w w' := by
  have HL := Lib.hid hL
  have hbl := hL.bl
  clear hL
  cases hq : allB ks (fun k => sortL k == 101) with
  | false =>
    rw [Bool.false_and]
    go_enter Try.func39, Try.ntmps39
    go_wp2_with (first | (go_at_call 49; (with_reducible refine (c_run _ ks la ll lc K (HL.out.keep (by (repeat (first | with_reducible exact Kp.refl _ | with_reducible refine Kp.alloc ?_ _ | with_reducible refine Kp.drew ?_ | with_reducible refine Kp.back (by assumption) ?_)))) 101).mono ?_); rintro e w1 ⟨rfl, hk1⟩; rw [hq]))
    go_ret
    refine ⟨by first | rfl | (simp; done), ?_⟩
    (repeat (first | with_reducible exact Kp.refl _ | with_reducible refine Kp.alloc ?_ _ | with_reducible refine Kp.drew ?_ | with_reducible refine Kp.back (by assumption) ?_))
  | true =>
    rw [Bool.true_and]
    by_cases h0 : ll ≤ 16
    · rw [decide_eq_true h0]
      have e0 : decide ((ll : Int) ≤ 16) = true := decide_eq_true (by omega)
      clear h0
      go_enter Try.func39, Try.ntmps39
      go_wp2_with (first | (go_at_call 49; (with_reducible refine (c_run _ ks la ll lc K (HL.out.keep (by (repeat (first | with_reducible exact Kp.refl _ | with_reducible refine Kp.alloc ?_ _ | with_reducible refine Kp.drew ?_ | with_reducible refine Kp.back (by assumption) ?_)))) 101).mono ?_); rintro e w1 ⟨rfl, hk1⟩; rw [hq]))
      go_ret
      refine ⟨by first | rfl | (simp; done), ?_⟩
      (repeat (first | with_reducible exact Kp.refl _ | with_reducible refine Kp.alloc ?_ _ | with_reducible refine Kp.drew ?_ | with_reducible refine Kp.back (by assumption) ?_))
    · rw [decide_eq_false h0]
      have e0 : decide ((ll : Int) ≤ 16) = false := decide_eq_false (by omega)
      clear h0
      go_enter Try.func39, Try.ntmps39
      go_wp2_with (first | (go_at_call 49; (with_reducible refine (c_run _ ks la ll lc K (HL.out.keep (by (repeat (first | with_reducible exact Kp.refl _ | with_reducible refine Kp.alloc ?_ _ | with_reducible refine Kp.drew ?_ | with_reducible refine Kp.back (by assumption) ?_)))) 101).mono ?_); rintro e w1 ⟨rfl, hk1⟩; rw [hq]))
      go_ret
      refine ⟨by first | rfl | (simp; done), ?_⟩
      (repeat (first | with_reducible exact Kp.refl _ | with_reducible refine Kp.alloc ?_ _ | with_reducible refine Kp.drew ?_ | with_reducible refine Kp.back (by assumption) ?_))
set_option maxHeartbeats 6400000 in
set_option maxRecDepth 100000 in
theorem kids_20 (ks : List Int) (tx : ByteArray) (n at_ : Int) (la : Option Addr) (ll lc : Nat) (K : Nat → Hn) (w : World) (hL : ListAt w ks la ll lc K) :
    Calls Try.prog 39 #[.agg #[.int .i64 20, .string tx, .int .u64 n, .int .i64 at_, .slice la ll lc]] w fun e w' => e = .returned (.bool (allB ks (fun k => sortL k == 115))) ∧ Kp w w' := by
  have HL := Lib.hid hL
  have hbl := hL.bl
  clear hL
  cases hq : allB ks (fun k => sortL k == 115) with
  | _ =>
    go_enter Try.func39, Try.ntmps39
    go_wp2_with (first | (go_at_call 49; (with_reducible refine (c_run _ ks la ll lc K (HL.out.keep (by (repeat (first | with_reducible exact Kp.refl _ | with_reducible refine Kp.alloc ?_ _ | with_reducible refine Kp.drew ?_ | with_reducible refine Kp.back (by assumption) ?_)))) 115).mono ?_); rintro e w1 ⟨rfl, hk1⟩; rw [hq]))
    go_ret
    refine ⟨by first | rfl | (simp; done), ?_⟩
    (repeat (first | with_reducible exact Kp.refl _ | with_reducible refine Kp.alloc ?_ _ | with_reducible refine Kp.drew ?_ | with_reducible refine Kp.back (by assumption) ?_))
end Go.Proofs.Ytefanekfelokmaa
