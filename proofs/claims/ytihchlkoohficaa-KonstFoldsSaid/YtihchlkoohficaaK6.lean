/- What Fold, Unary and Compare of package konst answer. Condition: a size is between 0 and 2 to the 64. -/
import Derived.Test.YtihchlkoohficaaK5
namespace Go.Proofs.Ytihchlkoohficaa
open Go.RowKit Plain
set_option linter.unusedVariables false
def isf (op : ByteArray) : Bool := op.toList == [43] || op.toList == [45] || op.toList == [42] || op.toList == [47] || op.toList == [37] || op.toList == [60, 60] || op.toList == [62, 62] || op.toList == [38] || op.toList == [124] || op.toList == [94] || op.toList == [38, 94]
theorem c_isFold (op : ByteArray) (w : World) : Calls Try.prog 20 #[.string op] w fun e w' => e = .returned (.bool (isf op)) ∧ w = w' := by
  cases x0 : (op.toList == [43]) with
  | true =>
    have e : isf op = true := by unfold isf; rw [x0]; simp
    rw [e]; clear e
    go_enter Try.func20, Try.ntmps20
    go_wp2; go_ret; exact ⟨rfl, rfl⟩
  | false =>
    cases x1 : (op.toList == [45]) with
    | true =>
      have e : isf op = true := by unfold isf; rw [x0, x1]; simp
      rw [e]; clear e
      go_enter Try.func20, Try.ntmps20
      go_wp2; go_ret; exact ⟨rfl, rfl⟩
    | false =>
      cases x2 : (op.toList == [42]) with
      | true =>
        have e : isf op = true := by unfold isf; rw [x0, x1, x2]; simp
        rw [e]; clear e
        go_enter Try.func20, Try.ntmps20
        go_wp2; go_ret; exact ⟨rfl, rfl⟩
      | false =>
        cases x3 : (op.toList == [47]) with
        | true =>
          have e : isf op = true := by unfold isf; rw [x0, x1, x2, x3]; simp
          rw [e]; clear e
          go_enter Try.func20, Try.ntmps20
          go_wp2; go_ret; exact ⟨rfl, rfl⟩
        | false =>
          cases x4 : (op.toList == [37]) with
          | true =>
            have e : isf op = true := by unfold isf; rw [x0, x1, x2, x3, x4]; simp
            rw [e]; clear e
            go_enter Try.func20, Try.ntmps20
            go_wp2; go_ret; exact ⟨rfl, rfl⟩
          | false =>
            cases x5 : (op.toList == [60, 60]) with
            | true =>
              have e : isf op = true := by unfold isf; rw [x0, x1, x2, x3, x4, x5]; simp
              rw [e]; clear e
              go_enter Try.func20, Try.ntmps20
              go_wp2; go_ret; exact ⟨rfl, rfl⟩
            | false =>
              cases x6 : (op.toList == [62, 62]) with
              | true =>
                have e : isf op = true := by unfold isf; rw [x0, x1, x2, x3, x4, x5, x6]; simp
                rw [e]; clear e
                go_enter Try.func20, Try.ntmps20
                go_wp2; go_ret; exact ⟨rfl, rfl⟩
              | false =>
                cases x7 : (op.toList == [38]) with
                | true =>
                  have e : isf op = true := by unfold isf; rw [x0, x1, x2, x3, x4, x5, x6, x7]; simp
                  rw [e]; clear e
                  go_enter Try.func20, Try.ntmps20
                  go_wp2; go_ret; exact ⟨rfl, rfl⟩
                | false =>
                  cases x8 : (op.toList == [124]) with
                  | true =>
                    have e : isf op = true := by unfold isf; rw [x0, x1, x2, x3, x4, x5, x6, x7, x8]; simp
                    rw [e]; clear e
                    go_enter Try.func20, Try.ntmps20
                    go_wp2; go_ret; exact ⟨rfl, rfl⟩
                  | false =>
                    cases x9 : (op.toList == [94]) with
                    | true =>
                      have e : isf op = true := by unfold isf; rw [x0, x1, x2, x3, x4, x5, x6, x7, x8, x9]; simp
                      rw [e]; clear e
                      go_enter Try.func20, Try.ntmps20
                      go_wp2; go_ret; exact ⟨rfl, rfl⟩
                    | false =>
                      cases x10 : (op.toList == [38, 94]) with
                      | true =>
                        have e : isf op = true := by unfold isf; rw [x0, x1, x2, x3, x4, x5, x6, x7, x8, x9, x10]; simp
                        rw [e]; clear e
                        go_enter Try.func20, Try.ntmps20
                        go_wp2; go_ret; exact ⟨rfl, rfl⟩
                      | false =>
                        have e : isf op = false := by unfold isf; rw [x0, x1, x2, x3, x4, x5, x6, x7, x8, x9, x10]; rfl
                        rw [e]; clear e
                        go_enter Try.func20, Try.ntmps20
                        go_wp2; go_ret; exact ⟨rfl, rfl⟩
def isc (op : ByteArray) : Bool := op.toList == [61, 61] || op.toList == [33, 61] || op.toList == [60] || op.toList == [60, 61] || op.toList == [62] || op.toList == [62, 61]
theorem c_isCompare (op : ByteArray) (w : World) : Calls Try.prog 32 #[.string op] w fun e w' => e = .returned (.bool (isc op)) ∧ w = w' := by
  cases x0 : (op.toList == [61, 61]) with
  | true =>
    have e : isc op = true := by unfold isc; rw [x0]; simp
    rw [e]; clear e
    go_enter Try.func32, Try.ntmps32
    go_wp2; go_ret; exact ⟨rfl, rfl⟩
  | false =>
    cases x1 : (op.toList == [33, 61]) with
    | true =>
      have e : isc op = true := by unfold isc; rw [x0, x1]; simp
      rw [e]; clear e
      go_enter Try.func32, Try.ntmps32
      go_wp2; go_ret; exact ⟨rfl, rfl⟩
    | false =>
      cases x2 : (op.toList == [60]) with
      | true =>
        have e : isc op = true := by unfold isc; rw [x0, x1, x2]; simp
        rw [e]; clear e
        go_enter Try.func32, Try.ntmps32
        go_wp2; go_ret; exact ⟨rfl, rfl⟩
      | false =>
        cases x3 : (op.toList == [60, 61]) with
        | true =>
          have e : isc op = true := by unfold isc; rw [x0, x1, x2, x3]; simp
          rw [e]; clear e
          go_enter Try.func32, Try.ntmps32
          go_wp2; go_ret; exact ⟨rfl, rfl⟩
        | false =>
          cases x4 : (op.toList == [62]) with
          | true =>
            have e : isc op = true := by unfold isc; rw [x0, x1, x2, x3, x4]; simp
            rw [e]; clear e
            go_enter Try.func32, Try.ntmps32
            go_wp2; go_ret; exact ⟨rfl, rfl⟩
          | false =>
            cases x5 : (op.toList == [62, 61]) with
            | true =>
              have e : isc op = true := by unfold isc; rw [x0, x1, x2, x3, x4, x5]; simp
              rw [e]; clear e
              go_enter Try.func32, Try.ntmps32
              go_wp2; go_ret; exact ⟨rfl, rfl⟩
            | false =>
              have e : isc op = false := by unfold isc; rw [x0, x1, x2, x3, x4, x5]; rfl
              rw [e]; clear e
              go_enter Try.func32, Try.ntmps32
              go_wp2; go_ret; exact ⟨rfl, rfl⟩
set_option maxHeartbeats 1600000 in
theorem f_noop (op : ByteArray) (a : Bool) (m : Int) (b : Bool) (n : Int) (w : World) (hf : isf op = false) :
    Calls Try.prog 9 #[.string op, .bool a, .int .u64 m, .bool b, .int .u64 n] w fun e w' => e = .returned (.tuple #[.bool false, .int .u64 0, .int .i64 2]) ∧ Kp w w' := by
  go_enter Try.func9, Try.ntmps9
  go_wp2_with (first | ((go_at_call 20; with_reducible refine (c_isFold _ _).mono ?_; rintro e w1 ⟨rfl, rfl⟩)))
  go_returns
  exact ⟨rfl, (by (repeat (first | exact Kp.refl _ | refine kback (by assumption) ?_ | refine Kp.setCell ?_ (by first | omega | (simp; done) | (simp; omega)) _ | refine Kp.alloc ?_ _ _ | refine Kp.drewN ?_ _ | refine Kp.drew ?_)))⟩
set_option maxHeartbeats 1600000 in
theorem f_badA (op : ByteArray) (a : Bool) (m : Int) (b : Bool) (n : Int) (w : World) (hf : isf op = true) (ka : kc a m = false) :
    Calls Try.prog 9 #[.string op, .bool a, .int .u64 m, .bool b, .int .u64 n] w fun e w' => e = .returned (.tuple #[.bool false, .int .u64 0, .int .i64 1]) ∧ Kp w w' := by
  go_enter Try.func9, Try.ntmps9
  go_wp2_with (first | ((go_at_call 20; with_reducible refine (c_isFold _ _).mono ?_; rintro e w1 ⟨rfl, rfl⟩)) | ((go_at_call 21; with_reducible refine (c_sound a m _).mono ?_; rintro e w1 ⟨rfl, hk⟩; have hc00 := keepc hk (b := w.heap.size) (o := 0) (v := .bool a) (by first | assumption | simp [go_sem]); have hc01 := keepc hk (b := w.heap.size) (o := 1) (v := .int .u64 m) (by first | assumption | simp [go_sem]); have hc10 := keepc hk (b := w.heap.size + 1) (o := 0) (v := .bool b) (by first | assumption | simp [go_sem]); have hc11 := keepc hk (b := w.heap.size + 1) (o := 1) (v := .int .u64 n) (by first | assumption | simp [go_sem]))))
  go_returns
  exact ⟨rfl, (by (repeat (first | exact Kp.refl _ | refine kback (by assumption) ?_ | refine Kp.setCell ?_ (by first | omega | (simp; done) | (simp; omega)) _ | refine Kp.alloc ?_ _ _ | refine Kp.drewN ?_ _ | refine Kp.drew ?_)))⟩
set_option maxHeartbeats 1600000 in
theorem f_badB (op : ByteArray) (a : Bool) (m : Int) (b : Bool) (n : Int) (w : World) (hf : isf op = true) (ka : kc a m = true) (kb : kc b n = false) :
    Calls Try.prog 9 #[.string op, .bool a, .int .u64 m, .bool b, .int .u64 n] w fun e w' => e = .returned (.tuple #[.bool false, .int .u64 0, .int .i64 1]) ∧ Kp w w' := by
  go_enter Try.func9, Try.ntmps9
  go_wp2_with (first | ((go_at_call 20; with_reducible refine (c_isFold _ _).mono ?_; rintro e w1 ⟨rfl, rfl⟩)) | ((go_at_call 21; with_reducible refine (c_sound a m _).mono ?_; rintro e w1 ⟨rfl, hk⟩; have hc00 := keepc hk (b := w.heap.size) (o := 0) (v := .bool a) (by first | assumption | simp [go_sem]); have hc01 := keepc hk (b := w.heap.size) (o := 1) (v := .int .u64 m) (by first | assumption | simp [go_sem]); have hc10 := keepc hk (b := w.heap.size + 1) (o := 0) (v := .bool b) (by first | assumption | simp [go_sem]); have hc11 := keepc hk (b := w.heap.size + 1) (o := 1) (v := .int .u64 n) (by first | assumption | simp [go_sem]))) | ((go_at_call 21; with_reducible refine (c_sound b n _).mono ?_; rintro e w1 ⟨rfl, hk⟩; have hc00 := keepc hk (b := w.heap.size) (o := 0) (v := .bool a) (by first | assumption | simp [go_sem]); have hc01 := keepc hk (b := w.heap.size) (o := 1) (v := .int .u64 m) (by first | assumption | simp [go_sem]); have hc10 := keepc hk (b := w.heap.size + 1) (o := 0) (v := .bool b) (by first | assumption | simp [go_sem]); have hc11 := keepc hk (b := w.heap.size + 1) (o := 1) (v := .int .u64 n) (by first | assumption | simp [go_sem]))))
  go_returns
  exact ⟨rfl, (by (repeat (first | exact Kp.refl _ | refine kback (by assumption) ?_ | refine Kp.setCell ?_ (by first | omega | (simp; done) | (simp; omega)) _ | refine Kp.alloc ?_ _ _ | refine Kp.drewN ?_ _ | refine Kp.drew ?_)))⟩
set_option maxHeartbeats 1600000 in
theorem f_forb (op : ByteArray) (a : Bool) (m : Int) (b : Bool) (n : Int) (w : World) (hf : isf op = true) (ka : kc a m = true) (kb : kc b n = true) (v : Int) (hv : (v != 0) = true) (h1 : ∀ w, Calls Try.prog 22 #[.string op, .agg #[.bool a, .int .u64 m], .agg #[.bool b, .int .u64 n]] w fun e w' => e = .returned (.int .i64 v) ∧ Kp w w') :
    Calls Try.prog 9 #[.string op, .bool a, .int .u64 m, .bool b, .int .u64 n] w fun e w' => e = .returned (.tuple #[.bool false, .int .u64 0, .int .i64 v]) ∧ Kp w w' := by
  have H1 := Lib.hid h1
  clear h1
  go_enter Try.func9, Try.ntmps9
  go_wp2_with (first | ((go_at_call 20; with_reducible refine (c_isFold _ _).mono ?_; rintro e w1 ⟨rfl, rfl⟩)) | ((go_at_call 21; with_reducible refine (c_sound a m _).mono ?_; rintro e w1 ⟨rfl, hk⟩; have hc00 := keepc hk (b := w.heap.size) (o := 0) (v := .bool a) (by first | assumption | simp [go_sem]); have hc01 := keepc hk (b := w.heap.size) (o := 1) (v := .int .u64 m) (by first | assumption | simp [go_sem]); have hc10 := keepc hk (b := w.heap.size + 1) (o := 0) (v := .bool b) (by first | assumption | simp [go_sem]); have hc11 := keepc hk (b := w.heap.size + 1) (o := 1) (v := .int .u64 n) (by first | assumption | simp [go_sem]))) | ((go_at_call 21; with_reducible refine (c_sound b n _).mono ?_; rintro e w1 ⟨rfl, hk⟩; have hc00 := keepc hk (b := w.heap.size) (o := 0) (v := .bool a) (by first | assumption | simp [go_sem]); have hc01 := keepc hk (b := w.heap.size) (o := 1) (v := .int .u64 m) (by first | assumption | simp [go_sem]); have hc10 := keepc hk (b := w.heap.size + 1) (o := 0) (v := .bool b) (by first | assumption | simp [go_sem]); have hc11 := keepc hk (b := w.heap.size + 1) (o := 1) (v := .int .u64 n) (by first | assumption | simp [go_sem]))) | ((go_at_call 22; with_reducible refine (H1.out _).mono ?_; rintro e w1 ⟨rfl, hk⟩; have hc00 := keepc hk (b := w.heap.size) (o := 0) (v := .bool a) (by first | assumption | simp [go_sem]); have hc01 := keepc hk (b := w.heap.size) (o := 1) (v := .int .u64 m) (by first | assumption | simp [go_sem]); have hc10 := keepc hk (b := w.heap.size + 1) (o := 0) (v := .bool b) (by first | assumption | simp [go_sem]); have hc11 := keepc hk (b := w.heap.size + 1) (o := 1) (v := .int .u64 n) (by first | assumption | simp [go_sem]))))
  go_returns
  exact ⟨rfl, (by (repeat (first | exact Kp.refl _ | refine kback (by assumption) ?_ | refine Kp.setCell ?_ (by first | omega | (simp; done) | (simp; omega)) _ | refine Kp.alloc ?_ _ _ | refine Kp.drewN ?_ _ | refine Kp.drew ?_)))⟩
set_option maxHeartbeats 1600000 in
theorem f_good (op : ByteArray) (a : Bool) (m : Int) (b : Bool) (n : Int) (w : World) (hf : isf op = true) (ka : kc a m = true) (kb : kc b n = true) (B : Bool) (N : Int) (K : Bool) (hN : 0 ≤ N ∧ N < 18446744073709551616) (h1 : ∀ w, Calls Try.prog 22 #[.string op, .agg #[.bool a, .int .u64 m], .agg #[.bool b, .int .u64 n]] w fun e w' => e = .returned (.int .i64 0) ∧ Kp w w') (h2 : ∀ w, Calls Try.prog 24 #[.string op, .agg #[.bool a, .int .u64 m], .agg #[.bool b, .int .u64 n]] w fun e w' => e = .returned (.tuple #[.agg #[.bool B, .int .u64 N], .bool K]) ∧ Kp w w') :
    Calls Try.prog 9 #[.string op, .bool a, .int .u64 m, .bool b, .int .u64 n] w fun e w' => e = .returned (.tuple #[.bool (rn (tv B N K)), .int .u64 (rs (tv B N K)), .int .i64 (re (tv B N K))]) ∧ Kp w w' := by
  have H1 := Lib.hid h1
  have H2 := Lib.hid h2
  have HNN := Lib.hid hN
  clear h1 h2 hN
  go_enter Try.func9, Try.ntmps9
  go_wp2_with (first | ((go_at_call 20; with_reducible refine (c_isFold _ _).mono ?_; rintro e w1 ⟨rfl, rfl⟩)) | ((go_at_call 21; with_reducible refine (c_sound a m _).mono ?_; rintro e w1 ⟨rfl, hk⟩; have hc00 := keepc hk (b := w.heap.size) (o := 0) (v := .bool a) (by first | assumption | simp [go_sem]); have hc01 := keepc hk (b := w.heap.size) (o := 1) (v := .int .u64 m) (by first | assumption | simp [go_sem]); have hc10 := keepc hk (b := w.heap.size + 1) (o := 0) (v := .bool b) (by first | assumption | simp [go_sem]); have hc11 := keepc hk (b := w.heap.size + 1) (o := 1) (v := .int .u64 n) (by first | assumption | simp [go_sem]))) | ((go_at_call 21; with_reducible refine (c_sound b n _).mono ?_; rintro e w1 ⟨rfl, hk⟩; have hc00 := keepc hk (b := w.heap.size) (o := 0) (v := .bool a) (by first | assumption | simp [go_sem]); have hc01 := keepc hk (b := w.heap.size) (o := 1) (v := .int .u64 m) (by first | assumption | simp [go_sem]); have hc10 := keepc hk (b := w.heap.size + 1) (o := 0) (v := .bool b) (by first | assumption | simp [go_sem]); have hc11 := keepc hk (b := w.heap.size + 1) (o := 1) (v := .int .u64 n) (by first | assumption | simp [go_sem]))) | ((go_at_call 22; with_reducible refine (H1.out _).mono ?_; rintro e w1 ⟨rfl, hk⟩; have hc00 := keepc hk (b := w.heap.size) (o := 0) (v := .bool a) (by first | assumption | simp [go_sem]); have hc01 := keepc hk (b := w.heap.size) (o := 1) (v := .int .u64 m) (by first | assumption | simp [go_sem]); have hc10 := keepc hk (b := w.heap.size + 1) (o := 0) (v := .bool b) (by first | assumption | simp [go_sem]); have hc11 := keepc hk (b := w.heap.size + 1) (o := 1) (v := .int .u64 n) (by first | assumption | simp [go_sem]))) | ((go_at_call 24; with_reducible refine (H2.out _).mono ?_; rintro e w1 ⟨rfl, hk⟩; have hc00 := keepc hk (b := w.heap.size) (o := 0) (v := .bool a) (by first | assumption | simp [go_sem]); have hc01 := keepc hk (b := w.heap.size) (o := 1) (v := .int .u64 m) (by first | assumption | simp [go_sem]); have hc10 := keepc hk (b := w.heap.size + 1) (o := 0) (v := .bool b) (by first | assumption | simp [go_sem]); have hc11 := keepc hk (b := w.heap.size + 1) (o := 1) (v := .int .u64 n) (by first | assumption | simp [go_sem]))) | ((go_at_call 23; with_reducible refine (c_tell B K N _ HNN.out).mono ?_; rintro e w1 ⟨rfl, hk⟩; have hc00 := keepc hk (b := w.heap.size) (o := 0) (v := .bool a) (by first | assumption | simp [go_sem]); have hc01 := keepc hk (b := w.heap.size) (o := 1) (v := .int .u64 m) (by first | assumption | simp [go_sem]); have hc10 := keepc hk (b := w.heap.size + 1) (o := 0) (v := .bool b) (by first | assumption | simp [go_sem]); have hc11 := keepc hk (b := w.heap.size + 1) (o := 1) (v := .int .u64 n) (by first | assumption | simp [go_sem]))))
  go_returns
  exact ⟨rfl, (by (repeat (first | exact Kp.refl _ | refine kback (by assumption) ?_ | refine Kp.setCell ?_ (by first | omega | (simp; done) | (simp; omega)) _ | refine Kp.alloc ?_ _ _ | refine Kp.drewN ?_ _ | refine Kp.drew ?_)))⟩
set_option maxHeartbeats 1600000 in
theorem u_noop (op : ByteArray) (a : Bool) (m : Int) (w : World) (x0 : (op.toList == [45]) = false) (x1 : (op.toList == [94]) = false) (y0 : (op.toList != [45]) = true) (y1 : (op.toList != [94]) = true) :
    Calls Try.prog 12 #[.string op, .bool a, .int .u64 m] w fun e w' => e = .returned (.tuple #[.bool false, .int .u64 0, .int .i64 2]) ∧ Kp w w' := by
  go_enter Try.func12, Try.ntmps12
  go_wp2_with (first | ((go_at_call 21; with_reducible refine (c_sound a m _).mono ?_; rintro e w1 ⟨rfl, hk⟩; have hc00 := keepc hk (b := w.heap.size) (o := 0) (v := .bool a) (by first | assumption | simp [go_sem]); have hc01 := keepc hk (b := w.heap.size) (o := 1) (v := .int .u64 m) (by first | assumption | simp [go_sem]))))
  go_returns
  exact ⟨rfl, (by (repeat (first | exact Kp.refl _ | refine kback (by assumption) ?_ | refine Kp.setCell ?_ (by first | omega | (simp; done) | (simp; omega)) _ | refine Kp.alloc ?_ _ _ | refine Kp.drewN ?_ _ | refine Kp.drew ?_)))⟩
set_option maxHeartbeats 1600000 in
theorem u_bad_m (a : Bool) (m : Int) (w : World) (ka : kc a m = false) :
    Calls Try.prog 12 #[.string ⟨#[45]⟩, .bool a, .int .u64 m] w fun e w' => e = .returned (.tuple #[.bool false, .int .u64 0, .int .i64 1]) ∧ Kp w w' := by
  go_enter Try.func12, Try.ntmps12
  go_wp2_with (first | ((go_at_call 21; with_reducible refine (c_sound a m _).mono ?_; rintro e w1 ⟨rfl, hk⟩; have hc00 := keepc hk (b := w.heap.size) (o := 0) (v := .bool a) (by first | assumption | simp [go_sem]); have hc01 := keepc hk (b := w.heap.size) (o := 1) (v := .int .u64 m) (by first | assumption | simp [go_sem]))))
  go_returns
  exact ⟨rfl, (by (repeat (first | exact Kp.refl _ | refine kback (by assumption) ?_ | refine Kp.setCell ?_ (by first | omega | (simp; done) | (simp; omega)) _ | refine Kp.alloc ?_ _ _ | refine Kp.drewN ?_ _ | refine Kp.drew ?_)))⟩
set_option maxHeartbeats 1600000 in
theorem u_bad_x (a : Bool) (m : Int) (w : World) (ka : kc a m = false) :
    Calls Try.prog 12 #[.string ⟨#[94]⟩, .bool a, .int .u64 m] w fun e w' => e = .returned (.tuple #[.bool false, .int .u64 0, .int .i64 1]) ∧ Kp w w' := by
  go_enter Try.func12, Try.ntmps12
  go_wp2_with (first | ((go_at_call 21; with_reducible refine (c_sound a m _).mono ?_; rintro e w1 ⟨rfl, hk⟩; have hc00 := keepc hk (b := w.heap.size) (o := 0) (v := .bool a) (by first | assumption | simp [go_sem]); have hc01 := keepc hk (b := w.heap.size) (o := 1) (v := .int .u64 m) (by first | assumption | simp [go_sem]))))
  go_returns
  exact ⟨rfl, (by (repeat (first | exact Kp.refl _ | refine kback (by assumption) ?_ | refine Kp.setCell ?_ (by first | omega | (simp; done) | (simp; omega)) _ | refine Kp.alloc ?_ _ _ | refine Kp.drewN ?_ _ | refine Kp.drew ?_)))⟩
set_option maxHeartbeats 1600000 in
theorem u_minus (a : Bool) (m : Int) (w : World) (ka : kc a m = true) (hm : 0 ≤ m ∧ m < 18446744073709551616) :
    Calls Try.prog 12 #[.string ⟨#[45]⟩, .bool a, .int .u64 m] w fun e w' => e = .returned (.tuple #[.bool (rn (tv (!a) m true)), .int .u64 (rs (tv (!a) m true)), .int .i64 (re (tv (!a) m true))]) ∧ Kp w w' := by
  have HM := Lib.hid hm
  clear hm
  go_enter Try.func12, Try.ntmps12
  go_wp2_with (first | ((go_at_call 21; with_reducible refine (c_sound a m _).mono ?_; rintro e w1 ⟨rfl, hk⟩; have hc00 := keepc hk (b := w.heap.size) (o := 0) (v := .bool a) (by first | assumption | simp [go_sem]); have hc01 := keepc hk (b := w.heap.size) (o := 1) (v := .int .u64 m) (by first | assumption | simp [go_sem]))) | ((go_at_call 30; with_reducible refine (c_minus a m _).mono ?_; rintro e w1 ⟨rfl, hk⟩; have hc00 := keepc hk (b := w.heap.size) (o := 0) (v := .bool a) (by first | assumption | simp [go_sem]); have hc01 := keepc hk (b := w.heap.size) (o := 1) (v := .int .u64 m) (by first | assumption | simp [go_sem]))) | ((go_at_call 23; with_reducible refine (c_tell (!a) true m _ HM.out).mono ?_; rintro e w1 ⟨rfl, hk⟩; have hc00 := keepc hk (b := w.heap.size) (o := 0) (v := .bool a) (by first | assumption | simp [go_sem]); have hc01 := keepc hk (b := w.heap.size) (o := 1) (v := .int .u64 m) (by first | assumption | simp [go_sem]))))
  go_returns
  exact ⟨rfl, (by (repeat (first | exact Kp.refl _ | refine kback (by assumption) ?_ | refine Kp.setCell ?_ (by first | omega | (simp; done) | (simp; omega)) _ | refine Kp.alloc ?_ _ _ | refine Kp.drewN ?_ _ | refine Kp.drew ?_)))⟩
set_option maxHeartbeats 1600000 in
theorem u_turn (a : Bool) (m : Int) (w : World) (ka : kc a m = true) (hm : 0 ≤ m ∧ m < 18446744073709551616) :
    Calls Try.prog 12 #[.string ⟨#[94]⟩, .bool a, .int .u64 m] w fun e w' => e = .returned (.tuple #[.bool (rn (tv (aB (!a) m true 1) (aN (!a) m true 1) (aK (!a) m true 1))), .int .u64 (rs (tv (aB (!a) m true 1) (aN (!a) m true 1) (aK (!a) m true 1))), .int .i64 (re (tv (aB (!a) m true 1) (aN (!a) m true 1) (aK (!a) m true 1)))]) ∧ Kp w w' := by
  have HM := Lib.hid hm
  have HA := Lib.hid (add_r (a := !a) (b := true) hm (show (0 : Int) ≤ 1 ∧ (1 : Int) < 18446744073709551616 by omega))
  clear hm
  go_enter Try.func12, Try.ntmps12
  go_wp2_with (first | ((go_at_call 21; with_reducible refine (c_sound a m _).mono ?_; rintro e w1 ⟨rfl, hk⟩; have hc00 := keepc hk (b := w.heap.size) (o := 0) (v := .bool a) (by first | assumption | simp [go_sem]); have hc01 := keepc hk (b := w.heap.size) (o := 1) (v := .int .u64 m) (by first | assumption | simp [go_sem]))) | ((go_at_call 30; with_reducible refine (c_minus a m _).mono ?_; rintro e w1 ⟨rfl, hk⟩; have hc00 := keepc hk (b := w.heap.size) (o := 0) (v := .bool a) (by first | assumption | simp [go_sem]); have hc01 := keepc hk (b := w.heap.size) (o := 1) (v := .int .u64 m) (by first | assumption | simp [go_sem]))) | ((go_at_call 31; with_reducible refine (c_add (!a) m true 1 _ HM.out (by omega)).mono ?_; rintro e w1 ⟨rfl, hk⟩; have hc00 := keepc hk (b := w.heap.size) (o := 0) (v := .bool a) (by first | assumption | simp [go_sem]); have hc01 := keepc hk (b := w.heap.size) (o := 1) (v := .int .u64 m) (by first | assumption | simp [go_sem]))) | ((go_at_call 23; with_reducible refine (c_tell (aB (!a) m true 1) (aK (!a) m true 1) (aN (!a) m true 1) _ HA.out).mono ?_; rintro e w1 ⟨rfl, hk⟩; have hc00 := keepc hk (b := w.heap.size) (o := 0) (v := .bool a) (by first | assumption | simp [go_sem]); have hc01 := keepc hk (b := w.heap.size) (o := 1) (v := .int .u64 m) (by first | assumption | simp [go_sem]))))
  go_returns
  exact ⟨rfl, (by (repeat (first | exact Kp.refl _ | refine kback (by assumption) ?_ | refine Kp.setCell ?_ (by first | omega | (simp; done) | (simp; omega)) _ | refine Kp.alloc ?_ _ _ | refine Kp.drewN ?_ _ | refine Kp.drew ?_)))⟩
end Go.Proofs.Ytihchlkoohficaa
