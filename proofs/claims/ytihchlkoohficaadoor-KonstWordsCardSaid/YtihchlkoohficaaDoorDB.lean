/- What the functions of package konst answer that KonstWords calls. Condition: a size is between 0 and 2 to the 64. -/
import Derived.Test.YtihchlkoohficaaDoorDA
import Derived.Test.YtihchlkoohficaaDoorKP
import Derived.Deep.QuietTactic
import Derived.BigQuiet
import Derived.Laws.Externs
import Derived.Deep.RegionHeld3
namespace Go.Proofs.YtihchlkoohficaaDoor
open Go.RowKit Plain
set_option linter.unusedVariables false
set_option linter.unusedSimpArgs false

theorem ret_bool {a b : Bool} (h : a = b) : Ending.returned (.bool a) = .returned (.bool b) := by rw [h]
theorem c_sound (b : Bool) (n : Int) (w : World) : Calls Tryd.prog 16 #[.agg #[.bool b, .int .u64 n]] w fun e w' => e = .returned (.bool (kc b n)) ∧ Kp w w' := by
  cases b with
  | false =>
    have e : kc false n = true := rfl
    rw [e]; clear e
    go_enter Tryd.func16, Tryd.ntmps16
    go_wp2_with fail
    go_ret
    exact ⟨rfl, (Kp.refl w).alloc _ _⟩
  | true =>
    by_cases h1 : 1 ≤ n
    · have e : kc true n = decide (n ≤ 9223372036854775808) := by simp [kc, h1]
      rw [e]; clear e
      go_enter Tryd.func16, Tryd.ntmps16
      go_wp2_with fail
      go_ret
      exact ⟨rfl, (Kp.refl w).alloc _ _⟩
    · have e : kc true n = false := by simp [kc, h1]
      rw [e]; clear e
      go_enter Tryd.func16, Tryd.ntmps16
      go_wp2_with fail
      go_ret
      exact ⟨rfl, (Kp.refl w).alloc _ _⟩
theorem c_minus (b : Bool) (n : Int) (w : World) : Calls Tryd.prog 38 #[.agg #[.bool b, .int .u64 n]] w fun e w' => e = .returned (.agg #[.bool (!b), .int .u64 n]) ∧ Kp w w' := by
  go_enter Tryd.func38, Tryd.ntmps38
  go_wp2_with fail
  go_returns
  exact ⟨rfl, (by (repeat (first | exact Kp.refl _ | refine kback (by assumption) ?_ | refine Kp.setCell ?_ (by simp) _ | refine Kp.alloc ?_ _ _ | refine Kp.drewN ?_ _ | refine Kp.drew ?_)))⟩
/-- tell -/
theorem c_tell (b ok : Bool) (n : Int) (w : World) (hn : 0 ≤ n ∧ n < 18446744073709551616) : Calls Tryd.prog 20 #[.agg #[.bool b, .int .u64 n], .bool ok] w fun e w' =>
    e = .returned (.tuple #[.bool (rn (tv b n ok)), .int .u64 (rs (tv b n ok)), .int .i64 (re (tv b n ok))]) ∧ Kp w w' := by
  cases ok with
  | false =>
    have t := tv_no b n
    rw [t.1, t.2.1, t.2.2]; clear t hn
    cases b with
    | false =>
      go_enter Tryd.func20, Tryd.ntmps20
      go_wp2_with fail
      go_returns
      exact ⟨rfl, (by (repeat (first | exact Kp.refl _ | refine kback (by assumption) ?_ | refine Kp.setCell ?_ (by simp) _ | refine Kp.alloc ?_ _ _ | refine Kp.drewN ?_ _ | refine Kp.drew ?_)))⟩
    | true =>
      go_enter Tryd.func20, Tryd.ntmps20
      go_wp2_with fail
      go_returns
      exact ⟨rfl, (by (repeat (first | exact Kp.refl _ | refine kback (by assumption) ?_ | refine Kp.setCell ?_ (by simp) _ | refine Kp.alloc ?_ _ _ | refine Kp.drewN ?_ _ | refine Kp.drew ?_)))⟩
  | true =>
    cases b with
    | false =>
      have t := tv_pos hn
      have k : kc false n = true := rfl
      rw [t.1, t.2.1, t.2.2]; clear t hn
      go_enter Tryd.func20, Tryd.ntmps20
      go_wp2_with ((go_at_call 16; with_reducible refine (c_sound _ _ _).mono ?_; rintro e w' ⟨rfl, hk⟩; have hc0 := keepc hk (b := w.heap.size) (o := 0) (v := .bool false) (by simp [go_sem]); have hc1 := keepc hk (b := w.heap.size) (o := 1) (v := .int .u64 n) (by simp [go_sem])))
      go_quiet (fail)
      go_wp2_with fail
      go_returns
      exact ⟨rfl, (by (repeat (first | exact Kp.refl _ | refine kback (by assumption) ?_ | refine Kp.setCell ?_ (by simp) _ | refine Kp.alloc ?_ _ _ | refine Kp.drewN ?_ _ | refine Kp.drew ?_)))⟩
    | true =>
      by_cases h0 : n = 0
      · subst h0
        have t := tv_zero
        have k : kc false 0 = true := rfl
        rw [t.1, t.2.1, t.2.2]; clear t hn
        go_enter Tryd.func20, Tryd.ntmps20
        go_wp2_with ((go_at_call 16; with_reducible refine (c_sound _ _ _).mono ?_; rintro e w' ⟨rfl, hk⟩; have hc0 := keepc hk (b := w.heap.size) (o := 0) (v := .bool false) (by simp [go_sem]); have hc1 := keepc hk (b := w.heap.size) (o := 1) (v := .int .u64 0) (by simp [go_sem])))
        go_quiet (fail)
        go_wp2_with fail
        go_returns
        exact ⟨rfl, (by (repeat (first | exact Kp.refl _ | refine kback (by assumption) ?_ | refine Kp.setCell ?_ (by simp) _ | refine Kp.alloc ?_ _ _ | refine Kp.drewN ?_ _ | refine Kp.drew ?_)))⟩
      · have z1 : (n != 0) = true := by simp [h0]
        by_cases h1 : n ≤ 9223372036854775808
        · have t := tv_neg (n := n) (by omega)
          have k : kc true n = true := by simp [kc]; omega
          rw [t.1, t.2.1, t.2.2]; clear t hn h0 h1
          go_enter Tryd.func20, Tryd.ntmps20
          go_wp2_with ((go_at_call 16; with_reducible refine (c_sound _ _ _).mono ?_; rintro e w' ⟨rfl, hk⟩; have hc0 := keepc hk (b := w.heap.size) (o := 0) (v := .bool true) (by simp [go_sem]); have hc1 := keepc hk (b := w.heap.size) (o := 1) (v := .int .u64 n) (by simp [go_sem])))
          go_quiet (fail)
          go_wp2_with fail
          go_returns
          exact ⟨rfl, (by (repeat (first | exact Kp.refl _ | refine kback (by assumption) ?_ | refine Kp.setCell ?_ (by simp) _ | refine Kp.alloc ?_ _ _ | refine Kp.drewN ?_ _ | refine Kp.drew ?_)))⟩
        · have t := tv_low (n := n) (by omega)
          have k : kc true n = false := by simp [kc]; omega
          rw [t.1, t.2.1, t.2.2]; clear t hn h0 h1
          go_enter Tryd.func20, Tryd.ntmps20
          go_wp2_with (go_at_call 16; with_reducible refine (c_sound _ _ _).mono ?_; rintro e w' ⟨rfl, hk⟩)
          go_returns
          exact ⟨rfl, (by (repeat (first | exact Kp.refl _ | refine kback (by assumption) ?_ | refine Kp.setCell ?_ (by simp) _ | refine Kp.alloc ?_ _ _ | refine Kp.drewN ?_ _ | refine Kp.drew ?_)))⟩
/-! ### math/bits -/
theorem add64 (x y : Int) (hx : 0 ≤ x ∧ x < 18446744073709551616) (hy : 0 ≤ y ∧ y < 18446744073709551616) (w : World) :
    (callFunc 47 #[.int .u64 x, .int .u64 y, .int .u64 0]).run Tryd.prog w =
      .ok (.value (.tuple #[.int .u64 ((x + y) % 18446744073709551616), .int .u64 ((x + y) / 18446744073709551616)])) w := by
  obtain ⟨x, rfl⟩ := Int.eq_ofNat_of_zero_le hx.1
  obtain ⟨y, rfl⟩ := Int.eq_ofNat_of_zero_le hy.1
  rw [run_callFunc_extern (P := Tryd.prog) (f := 47) (fn := Tryd.f47) (by kernel_rfl) (by kernel_rfl) (by kernel_rfl) (by kernel_rfl) (e := add64Entry) (by kernel_rfl), run_add64 x y 0 (by omega) (by omega) (by omega) (by omega)]
  simp only [Result.andThen]
  congr 5 <;> omega
theorem add_cc {m n : Int} (hm : 0 ≤ m ∧ m < 18446744073709551616) (hn : 0 ≤ n ∧ n < 18446744073709551616) : decide (m + n < 18446744073709551616) = ((m + n) / 18446744073709551616 == 0) := by
  rw [Bool.eq_iff_iff]; simp; omega
theorem ret_agg {a b : Bool} {x y : Int} {k l : Bool} (h1 : a = b) (h2 : x = y) (h3 : k = l) : Ending.returned (.tuple #[.agg #[.bool a, .int .u64 x], .bool k]) = .returned (.tuple #[.agg #[.bool b, .int .u64 y], .bool l]) := by rw [h1, h2, h3]
theorem c_add (a : Bool) (m : Int) (b : Bool) (n : Int) (w : World) (hm : 0 ≤ m ∧ m < 18446744073709551616) (hn : 0 ≤ n ∧ n < 18446744073709551616) : Calls Tryd.prog 37 #[.agg #[.bool a, .int .u64 m], .agg #[.bool b, .int .u64 n]] w fun e w' =>
    e = .returned (.tuple #[.agg #[.bool (aB a m b n), .int .u64 (aN a m b n)], .bool (aK a m b n)]) ∧ Kp w w' := by
  have HM := Lib.hid hm
  have HN := Lib.hid hn
  by_cases hab : a = b
  · subst hab
    have e1 : aB a m a n = a := by simp [aB]
    have e2 : aN a m a n = (m + n) % 18446744073709551616 := by simp [aN]
    have e3 : aK a m a n = ((m + n) / 18446744073709551616 == 0) := by rw [← add_cc hm hn]; simp [aK]
    rw [e1, e2, e3]; clear e1 e2 e3 hm hn
    cases a with
    | false =>
      go_enter Tryd.func37, Tryd.ntmps37
      go_wp2_with (simp only [add64 _ _ HM.out HN.out])
      go_returns
      exact ⟨rfl, (by (repeat (first | exact Kp.refl _ | refine kback (by assumption) ?_ | refine Kp.setCell ?_ (by simp) _ | refine Kp.alloc ?_ _ _ | refine Kp.drewN ?_ _ | refine Kp.drew ?_)))⟩
    | true =>
      go_enter Tryd.func37, Tryd.ntmps37
      go_wp2_with (simp only [add64 _ _ HM.out HN.out])
      go_returns
      exact ⟨rfl, (by (repeat (first | exact Kp.refl _ | refine kback (by assumption) ?_ | refine Kp.setCell ?_ (by simp) _ | refine Kp.alloc ?_ _ _ | refine Kp.drewN ?_ _ | refine Kp.drew ?_)))⟩
  · have e3 : aK a m b n = true := by simp [aK, hab]
    by_cases hl : m < n
    · have e1 : aB a m b n = b := by simp [aB, hab, hl]
      have e2 : aN a m b n = n - m := by simp [aN, hab, hl]
      have hw : IntKind.u64.wrap (n - m) = n - m := u64_id (by omega)
      rw [e1, e2, e3]; clear e1 e2 e3 hm hn
      cases a <;> cases b <;> (try exact absurd rfl hab)
      · clear hab
        go_enter Tryd.func37, Tryd.ntmps37
        go_wp2_with fail
        go_returns
        exact ⟨rfl, (by (repeat (first | exact Kp.refl _ | refine kback (by assumption) ?_ | refine Kp.setCell ?_ (by simp) _ | refine Kp.alloc ?_ _ _ | refine Kp.drewN ?_ _ | refine Kp.drew ?_)))⟩
      · clear hab
        go_enter Tryd.func37, Tryd.ntmps37
        go_wp2_with fail
        go_returns
        exact ⟨rfl, (by (repeat (first | exact Kp.refl _ | refine kback (by assumption) ?_ | refine Kp.setCell ?_ (by simp) _ | refine Kp.alloc ?_ _ _ | refine Kp.drewN ?_ _ | refine Kp.drew ?_)))⟩
    · have e1 : aB a m b n = a := by simp [aB, hab, hl]
      have e2 : aN a m b n = m - n := by simp [aN, hab, hl]
      have hw : IntKind.u64.wrap (m - n) = m - n := u64_id (by omega)
      rw [e1, e2, e3]; clear e1 e2 e3 hm hn
      cases a <;> cases b <;> (try exact absurd rfl hab)
      · clear hab
        go_enter Tryd.func37, Tryd.ntmps37
        go_wp2_with fail
        go_returns
        exact ⟨rfl, (by (repeat (first | exact Kp.refl _ | refine kback (by assumption) ?_ | refine Kp.setCell ?_ (by simp) _ | refine Kp.alloc ?_ _ _ | refine Kp.drewN ?_ _ | refine Kp.drew ?_)))⟩
      · clear hab
        go_enter Tryd.func37, Tryd.ntmps37
        go_wp2_with fail
        go_returns
        exact ⟨rfl, (by (repeat (first | exact Kp.refl _ | refine kback (by assumption) ?_ | refine Kp.setCell ?_ (by simp) _ | refine Kp.alloc ?_ _ _ | refine Kp.drewN ?_ _ | refine Kp.drew ?_)))⟩
set_option maxHeartbeats 1600000 in
theorem co_sub (a : Bool) (m : Int) (b : Bool) (n : Int) (w : World) (hm : 0 ≤ m ∧ m < 18446744073709551616) (hn : 0 ≤ n ∧ n < 18446744073709551616) : Calls Tryd.prog 32 #[.string ⟨#[45]⟩, .agg #[.bool a, .int .u64 m], .agg #[.bool b, .int .u64 n]] w fun e w' =>
    e = .returned (.tuple #[.agg #[.bool (aB a m (!b) n), .int .u64 (aN a m (!b) n)], .bool (aK a m (!b) n)]) ∧ Kp w w' := by
  have HM := Lib.hid hm
  have HN := Lib.hid hn
  clear hm hn
  go_enter Tryd.func32, Tryd.ntmps32
  go_wp2_with (fail)
  go_region_with (first | ((go_at_call 38; with_reducible refine (c_minus b n _).mono ?_; rintro e w1 ⟨rfl, hk⟩; have hc00 := keepc hk (b := w.heap.size) (o := 0) (v := .bool a) (by first | assumption | simp [go_sem]); have hc01 := keepc hk (b := w.heap.size) (o := 1) (v := .int .u64 m) (by first | assumption | simp [go_sem]); have hc90 := keepc hk (b := w.heap.size + 1) (o := 0) (v := .bool b) (by first | assumption | simp [go_sem]); have hc91 := keepc hk (b := w.heap.size + 1) (o := 1) (v := .int .u64 n) (by first | assumption | simp [go_sem]); have hc10 := keepc hk (b := w.heap.size + 1 + 1) (o := 0) (v := .bool false) (by first | assumption | simp [go_sem]); have hc11 := keepc hk (b := w.heap.size + 1 + 1) (o := 1) (v := .int .u64 0) (by first | assumption | simp [go_sem]); have hf0 : w1.frozen? ⟨w.heap.size + 1 + 1, 0, none⟩ = false := (by rw [hk.frozen]; first | assumption | simp [go_sem]); have hf1 : w1.frozen? ⟨w.heap.size + 1 + 1, 1, none⟩ = false := (by rw [hk.frozen]; first | assumption | simp [go_sem]))) | ((go_at_call 37; with_reducible refine (c_add a m (!b) n _ HM.out HN.out).mono ?_; rintro e w1 ⟨rfl, hk⟩; have hc00 := keepc hk (b := w.heap.size) (o := 0) (v := .bool a) (by first | assumption | simp [go_sem]); have hc01 := keepc hk (b := w.heap.size) (o := 1) (v := .int .u64 m) (by first | assumption | simp [go_sem]); have hc90 := keepc hk (b := w.heap.size + 1) (o := 0) (v := .bool b) (by first | assumption | simp [go_sem]); have hc91 := keepc hk (b := w.heap.size + 1) (o := 1) (v := .int .u64 n) (by first | assumption | simp [go_sem]); have hc10 := keepc hk (b := w.heap.size + 1 + 1) (o := 0) (v := .bool false) (by first | assumption | simp [go_sem]); have hc11 := keepc hk (b := w.heap.size + 1 + 1) (o := 1) (v := .int .u64 0) (by first | assumption | simp [go_sem]); have hf0 : w1.frozen? ⟨w.heap.size + 1 + 1, 0, none⟩ = false := (by rw [hk.frozen]; first | assumption | simp [go_sem]); have hf1 : w1.frozen? ⟨w.heap.size + 1 + 1, 1, none⟩ = false := (by rw [hk.frozen]; first | assumption | simp [go_sem]))))
  all_goals (go_wp2_with fail; refine bodyPost_ret (by simp [results, Tryd.results32, go_sem, hc10, hc11]; try rfl) rfl ?_; exact ⟨rfl, (by (repeat (first | exact Kp.refl _ | refine kback (by assumption) ?_ | refine Kp.setCell ?_ (by first | omega | (simp; done) | (simp; omega)) _ | refine Kp.alloc ?_ _ _ | refine Kp.drewN ?_ _ | refine Kp.drew ?_)))⟩)
 set_option maxHeartbeats 1600000 in
theorem fo_sub (a : Bool) (m : Int) (b : Bool) (n : Int) (w : World) : Calls Tryd.prog 31 #[.string ⟨#[45]⟩, .agg #[.bool a, .int .u64 m], .agg #[.bool b, .int .u64 n]] w fun e w' =>
    e = .returned (.int .i64 0) ∧ Kp w w' := by
  go_enter Tryd.func31, Tryd.ntmps31
  go_wp2_with fail
  go_ret
  exact ⟨rfl, (by (repeat (first | exact Kp.refl _ | refine kback (by assumption) ?_ | refine Kp.setCell ?_ (by first | omega | (simp; done) | (simp; omega)) _ | refine Kp.alloc ?_ _ _ | refine Kp.drewN ?_ _ | refine Kp.drew ?_)))⟩
def isf (op : ByteArray) : Bool := op.toList == [43] || op.toList == [45] || op.toList == [42] || op.toList == [47] || op.toList == [37] || op.toList == [60, 60] || op.toList == [62, 62] || op.toList == [38] || op.toList == [124] || op.toList == [94] || op.toList == [38, 94]
theorem c_isFold (op : ByteArray) (w : World) : Calls Tryd.prog 30 #[.string op] w fun e w' => e = .returned (.bool (isf op)) ∧ w = w' := by
  cases x0 : (op.toList == [43]) with
  | true =>
    have e : isf op = true := by unfold isf; rw [x0]; simp
    rw [e]; clear e
    go_enter Tryd.func30, Tryd.ntmps30
    go_wp2; go_ret; exact ⟨rfl, rfl⟩
  | false =>
    cases x1 : (op.toList == [45]) with
    | true =>
      have e : isf op = true := by unfold isf; rw [x0, x1]; simp
      rw [e]; clear e
      go_enter Tryd.func30, Tryd.ntmps30
      go_wp2; go_ret; exact ⟨rfl, rfl⟩
    | false =>
      cases x2 : (op.toList == [42]) with
      | true =>
        have e : isf op = true := by unfold isf; rw [x0, x1, x2]; simp
        rw [e]; clear e
        go_enter Tryd.func30, Tryd.ntmps30
        go_wp2; go_ret; exact ⟨rfl, rfl⟩
      | false =>
        cases x3 : (op.toList == [47]) with
        | true =>
          have e : isf op = true := by unfold isf; rw [x0, x1, x2, x3]; simp
          rw [e]; clear e
          go_enter Tryd.func30, Tryd.ntmps30
          go_wp2; go_ret; exact ⟨rfl, rfl⟩
        | false =>
          cases x4 : (op.toList == [37]) with
          | true =>
            have e : isf op = true := by unfold isf; rw [x0, x1, x2, x3, x4]; simp
            rw [e]; clear e
            go_enter Tryd.func30, Tryd.ntmps30
            go_wp2; go_ret; exact ⟨rfl, rfl⟩
          | false =>
            cases x5 : (op.toList == [60, 60]) with
            | true =>
              have e : isf op = true := by unfold isf; rw [x0, x1, x2, x3, x4, x5]; simp
              rw [e]; clear e
              go_enter Tryd.func30, Tryd.ntmps30
              go_wp2; go_ret; exact ⟨rfl, rfl⟩
            | false =>
              cases x6 : (op.toList == [62, 62]) with
              | true =>
                have e : isf op = true := by unfold isf; rw [x0, x1, x2, x3, x4, x5, x6]; simp
                rw [e]; clear e
                go_enter Tryd.func30, Tryd.ntmps30
                go_wp2; go_ret; exact ⟨rfl, rfl⟩
              | false =>
                cases x7 : (op.toList == [38]) with
                | true =>
                  have e : isf op = true := by unfold isf; rw [x0, x1, x2, x3, x4, x5, x6, x7]; simp
                  rw [e]; clear e
                  go_enter Tryd.func30, Tryd.ntmps30
                  go_wp2; go_ret; exact ⟨rfl, rfl⟩
                | false =>
                  cases x8 : (op.toList == [124]) with
                  | true =>
                    have e : isf op = true := by unfold isf; rw [x0, x1, x2, x3, x4, x5, x6, x7, x8]; simp
                    rw [e]; clear e
                    go_enter Tryd.func30, Tryd.ntmps30
                    go_wp2; go_ret; exact ⟨rfl, rfl⟩
                  | false =>
                    cases x9 : (op.toList == [94]) with
                    | true =>
                      have e : isf op = true := by unfold isf; rw [x0, x1, x2, x3, x4, x5, x6, x7, x8, x9]; simp
                      rw [e]; clear e
                      go_enter Tryd.func30, Tryd.ntmps30
                      go_wp2; go_ret; exact ⟨rfl, rfl⟩
                    | false =>
                      cases x10 : (op.toList == [38, 94]) with
                      | true =>
                        have e : isf op = true := by unfold isf; rw [x0, x1, x2, x3, x4, x5, x6, x7, x8, x9, x10]; simp
                        rw [e]; clear e
                        go_enter Tryd.func30, Tryd.ntmps30
                        go_wp2; go_ret; exact ⟨rfl, rfl⟩
                      | false =>
                        have e : isf op = false := by unfold isf; rw [x0, x1, x2, x3, x4, x5, x6, x7, x8, x9, x10]; rfl
                        rw [e]; clear e
                        go_enter Tryd.func30, Tryd.ntmps30
                        go_wp2; go_ret; exact ⟨rfl, rfl⟩
set_option maxHeartbeats 1600000 in
theorem f_good (op : ByteArray) (a : Bool) (m : Int) (b : Bool) (n : Int) (w : World) (hf : isf op = true) (ka : kc a m = true) (kb : kc b n = true) (B : Bool) (N : Int) (K : Bool) (hN : 0 ≤ N ∧ N < 18446744073709551616) (h1 : ∀ w, Calls Tryd.prog 31 #[.string op, .agg #[.bool a, .int .u64 m], .agg #[.bool b, .int .u64 n]] w fun e w' => e = .returned (.int .i64 0) ∧ Kp w w') (h2 : ∀ w, Calls Tryd.prog 32 #[.string op, .agg #[.bool a, .int .u64 m], .agg #[.bool b, .int .u64 n]] w fun e w' => e = .returned (.tuple #[.agg #[.bool B, .int .u64 N], .bool K]) ∧ Kp w w') :
    Calls Tryd.prog 22 #[.string op, .bool a, .int .u64 m, .bool b, .int .u64 n] w fun e w' => e = .returned (.tuple #[.bool (rn (tv B N K)), .int .u64 (rs (tv B N K)), .int .i64 (re (tv B N K))]) ∧ Kp w w' := by
  have H1 := Lib.hid h1
  have H2 := Lib.hid h2
  have HNN := Lib.hid hN
  clear h1 h2 hN
  go_enter Tryd.func22, Tryd.ntmps22
  go_wp2_with (first | ((go_at_call 30; with_reducible refine (c_isFold _ _).mono ?_; rintro e w1 ⟨rfl, rfl⟩)) | ((go_at_call 16; with_reducible refine (c_sound a m _).mono ?_; rintro e w1 ⟨rfl, hk⟩; have hc00 := keepc hk (b := w.heap.size) (o := 0) (v := .bool a) (by first | assumption | simp [go_sem]); have hc01 := keepc hk (b := w.heap.size) (o := 1) (v := .int .u64 m) (by first | assumption | simp [go_sem]); have hc10 := keepc hk (b := w.heap.size + 1) (o := 0) (v := .bool b) (by first | assumption | simp [go_sem]); have hc11 := keepc hk (b := w.heap.size + 1) (o := 1) (v := .int .u64 n) (by first | assumption | simp [go_sem]))) | ((go_at_call 16; with_reducible refine (c_sound b n _).mono ?_; rintro e w1 ⟨rfl, hk⟩; have hc00 := keepc hk (b := w.heap.size) (o := 0) (v := .bool a) (by first | assumption | simp [go_sem]); have hc01 := keepc hk (b := w.heap.size) (o := 1) (v := .int .u64 m) (by first | assumption | simp [go_sem]); have hc10 := keepc hk (b := w.heap.size + 1) (o := 0) (v := .bool b) (by first | assumption | simp [go_sem]); have hc11 := keepc hk (b := w.heap.size + 1) (o := 1) (v := .int .u64 n) (by first | assumption | simp [go_sem]))) | ((go_at_call 31; with_reducible refine (H1.out _).mono ?_; rintro e w1 ⟨rfl, hk⟩; have hc00 := keepc hk (b := w.heap.size) (o := 0) (v := .bool a) (by first | assumption | simp [go_sem]); have hc01 := keepc hk (b := w.heap.size) (o := 1) (v := .int .u64 m) (by first | assumption | simp [go_sem]); have hc10 := keepc hk (b := w.heap.size + 1) (o := 0) (v := .bool b) (by first | assumption | simp [go_sem]); have hc11 := keepc hk (b := w.heap.size + 1) (o := 1) (v := .int .u64 n) (by first | assumption | simp [go_sem]))) | ((go_at_call 32; with_reducible refine (H2.out _).mono ?_; rintro e w1 ⟨rfl, hk⟩; have hc00 := keepc hk (b := w.heap.size) (o := 0) (v := .bool a) (by first | assumption | simp [go_sem]); have hc01 := keepc hk (b := w.heap.size) (o := 1) (v := .int .u64 m) (by first | assumption | simp [go_sem]); have hc10 := keepc hk (b := w.heap.size + 1) (o := 0) (v := .bool b) (by first | assumption | simp [go_sem]); have hc11 := keepc hk (b := w.heap.size + 1) (o := 1) (v := .int .u64 n) (by first | assumption | simp [go_sem]))) | ((go_at_call 20; with_reducible refine (c_tell B K N _ HNN.out).mono ?_; rintro e w1 ⟨rfl, hk⟩; have hc00 := keepc hk (b := w.heap.size) (o := 0) (v := .bool a) (by first | assumption | simp [go_sem]); have hc01 := keepc hk (b := w.heap.size) (o := 1) (v := .int .u64 m) (by first | assumption | simp [go_sem]); have hc10 := keepc hk (b := w.heap.size + 1) (o := 0) (v := .bool b) (by first | assumption | simp [go_sem]); have hc11 := keepc hk (b := w.heap.size + 1) (o := 1) (v := .int .u64 n) (by first | assumption | simp [go_sem]))))
  go_returns
  exact ⟨rfl, (by (repeat (first | exact Kp.refl _ | refine kback (by assumption) ?_ | refine Kp.setCell ?_ (by first | omega | (simp; done) | (simp; omega)) _ | refine Kp.alloc ?_ _ _ | refine Kp.drewN ?_ _ | refine Kp.drew ?_)))⟩
/-- The word of a constant. -/
def wd (b : Bool) (n : Int) : Int := if b then IntKind.u64.wrap (-n) else n
theorem wd_r {b : Bool} {n : Int} (hn : 0 ≤ n ∧ n < 18446744073709551616) : 0 ≤ wd b n ∧ wd b n < 18446744073709551616 := by
  unfold wd; split
  · exact u64_r _
  · exact hn
theorem c_wordOf (b : Bool) (n : Int) (w : World) : Calls Tryd.prog 17 #[.agg #[.bool b, .int .u64 n]] w fun e w' => e = .returned (.int .u64 (wd b n)) ∧ Kp w w' := by
  cases b with
  | false =>
    show Calls Tryd.prog 17 #[.agg #[.bool false, .int .u64 n]] w fun e w' => e = .returned (.int .u64 n) ∧ Kp w w'
    go_enter Tryd.func17, Tryd.ntmps17
    go_wp2_with fail
    go_ret
    exact ⟨rfl, (by (repeat (first | exact Kp.refl _ | refine kback (by assumption) ?_ | refine Kp.setCell ?_ (by first | omega | (simp; done) | (simp; omega)) _ | refine Kp.alloc ?_ _ _ | refine Kp.drewN ?_ _ | refine Kp.drew ?_)))⟩
  | true =>
    show Calls Tryd.prog 17 #[.agg #[.bool true, .int .u64 n]] w fun e w' => e = .returned (.int .u64 (IntKind.u64.wrap (-n))) ∧ Kp w w'
    go_enter Tryd.func17, Tryd.ntmps17
    go_wp2_with fail
    go_ret
    exact ⟨rfl, (by (repeat (first | exact Kp.refl _ | refine kback (by assumption) ?_ | refine Kp.setCell ?_ (by first | omega | (simp; done) | (simp; omega)) _ | refine Kp.alloc ?_ _ _ | refine Kp.drewN ?_ _ | refine Kp.drew ?_)))⟩
theorem c_numberOf (k n : Int) (w : World) (hn : 0 ≤ n ∧ n < 18446744073709551616) : Calls Tryd.prog 19 #[.bool (sg k), .int .u64 n] w fun e w' => e = .returned (.agg #[.bool (ng k n), .int .u64 (sz k n)]) ∧ Kp w w' := by
  cases hs : sg k with
  | true =>
    by_cases hb : 9223372036854775808 ≤ n
    · have e1 : ng k n = true := by simp [ng, hs, hb]
      have e2 : sz k n = IntKind.u64.wrap (-n) := by simp [sz, e1, IntKind.wrap_u64]; omega
      have e3 : (n / 9223372036854775808 == 1) = true := by simp; omega
      rw [e1, e2]; clear e1 e2 hn hb
      go_enter Tryd.func19, Tryd.ntmps19
      go_wp2_with fail
      go_returns
      exact ⟨rfl, (by (repeat (first | exact Kp.refl _ | refine kback (by assumption) ?_ | refine Kp.setCell ?_ (by first | omega | (simp; done) | (simp; omega)) _ | refine Kp.alloc ?_ _ _ | refine Kp.drewN ?_ _ | refine Kp.drew ?_)))⟩
    · have e1 : ng k n = false := by simp [ng, hs]; omega
      have e2 : sz k n = n := by simp [sz, e1]
      have e3 : (n / 9223372036854775808 == 1) = false := by simp; omega
      rw [e1, e2]; clear e1 e2 hn hb
      go_enter Tryd.func19, Tryd.ntmps19
      go_wp2_with fail
      go_returns
      exact ⟨rfl, (by (repeat (first | exact Kp.refl _ | refine kback (by assumption) ?_ | refine Kp.setCell ?_ (by first | omega | (simp; done) | (simp; omega)) _ | refine Kp.alloc ?_ _ _ | refine Kp.drewN ?_ _ | refine Kp.drew ?_)))⟩
  | false =>
    have e1 : ng k n = false := by simp [ng, hs]
    have e2 : sz k n = n := by simp [sz, e1]
    rw [e1, e2]; clear e1 e2 hn
    go_enter Tryd.func19, Tryd.ntmps19
    go_wp2_with fail
    go_returns
    exact ⟨rfl, (by (repeat (first | exact Kp.refl _ | refine kback (by assumption) ?_ | refine Kp.setCell ?_ (by first | omega | (simp; done) | (simp; omega)) _ | refine Kp.alloc ?_ _ _ | refine Kp.drewN ?_ _ | refine Kp.drew ?_)))⟩
set_option maxHeartbeats 1600000 in
theorem o_kind (k n : Int) (w : World) (hn : 0 ≤ n ∧ n < 18446744073709551616) (h : wh k = false) :
    Calls Tryd.prog 5 #[.int .i64 k, .int .u64 n] w fun e w' => e = .returned (.tuple #[.bool false, .int .u64 0, .int .i64 2]) ∧ Kp w w' := by
  have HN := Lib.hid hn
  have he : e0 k = 2 := by simp [e0, h]
  clear hn
  go_enter Tryd.func5, Tryd.ntmps5
  go_wp2_with (first | ((go_at_call 15; with_reducible refine (c_Signed _ _).mono ?_; rintro e w1 ⟨rfl, rfl⟩)))
  go_returns
  exact ⟨rfl, (by (repeat (first | exact Kp.refl _ | refine kback (by assumption) ?_ | refine Kp.setCell ?_ (by first | omega | (simp; done) | (simp; omega)) _ | refine Kp.alloc ?_ _ _ | refine Kp.drewN ?_ _ | refine Kp.drew ?_)))⟩
set_option maxHeartbeats 1600000 in
theorem o_form (k n : Int) (w : World) (hn : 0 ≤ n ∧ n < 18446744073709551616) (h : wh k = true) (hi : iz k n = false) :
    Calls Tryd.prog 5 #[.int .i64 k, .int .u64 n] w fun e w' => e = .returned (.tuple #[.bool false, .int .u64 0, .int .i64 1]) ∧ Kp w w' := by
  have HN := Lib.hid hn
  have he : e0 k = 0 := by simp [e0, h]
  clear hn
  go_enter Tryd.func5, Tryd.ntmps5
  go_wp2_with (first | ((go_at_call 15; with_reducible refine (c_Signed _ _).mono ?_; rintro e w1 ⟨rfl, rfl⟩)) | ((go_at_call 18; with_reducible refine (c_Is k n _ HN.out).mono ?_; rintro e w1 ⟨rfl, hk⟩)))
  go_returns
  exact ⟨rfl, (by (repeat (first | exact Kp.refl _ | refine kback (by assumption) ?_ | refine Kp.setCell ?_ (by first | omega | (simp; done) | (simp; omega)) _ | refine Kp.alloc ?_ _ _ | refine Kp.drewN ?_ _ | refine Kp.drew ?_)))⟩
theorem sz_r {k n : Int} (hn : 0 ≤ n ∧ n < 18446744073709551616) : 0 ≤ sz k n ∧ sz k n < 18446744073709551616 := by
  unfold sz ng; split
  · rename_i h; simp at h; omega
  · exact hn
theorem kc_of {k n : Int} (hn : 0 ≤ n ∧ n < 18446744073709551616) : kc (ng k n) (sz k n) = true := by
  cases h : ng k n with
  | false => rfl
  | true =>
    have e : sz k n = 18446744073709551616 - n := by simp [sz, h]
    simp [ng] at h
    rw [e]; simp [kc]; omega
set_option maxHeartbeats 1600000 in
theorem o_good (k n : Int) (w : World) (hn : 0 ≤ n ∧ n < 18446744073709551616) (h : wh k = true) (hi : iz k n = true) :
    Calls Tryd.prog 5 #[.int .i64 k, .int .u64 n] w fun e w' => e = .returned (.tuple #[.bool (ng k n), .int .u64 (sz k n), .int .i64 0]) ∧ Kp w w' := by
  have HN := Lib.hid hn
  have he : e0 k = 0 := by simp [e0, h]
  have HR := Lib.hid (show rn (tv (ng k n) (sz k n) true) = ng k n ∧ rs (tv (ng k n) (sz k n) true) = sz k n ∧ re (tv (ng k n) (sz k n) true) = 0 from kc_rn (kc_of (k := k) hn) (sz_r hn))
  have HZ := Lib.hid (sz_r (k := k) hn)
  clear hn
  go_enter Tryd.func5, Tryd.ntmps5
  go_wp2_with (first | ((go_at_call 15; with_reducible refine (c_Signed _ _).mono ?_; rintro e w1 ⟨rfl, rfl⟩)) | ((go_at_call 18; with_reducible refine (c_Is k n _ HN.out).mono ?_; rintro e w1 ⟨rfl, hk⟩)) | ((go_at_call 19; with_reducible refine (c_numberOf k n _ HN.out).mono ?_; rintro e w1 ⟨rfl, hk⟩)) | ((go_at_call 20; with_reducible refine (c_tell (ng k n) true (sz k n) _ HZ.out).mono ?_; rintro e w1 ⟨rfl, hk⟩)))
  go_returns
  exact ⟨by obtain ⟨h1, h2, h3⟩ := HR.out; rw [h1, h2, h3]; rfl, (by (repeat (first | exact Kp.refl _ | refine kback (by assumption) ?_ | refine Kp.setCell ?_ (by first | omega | (simp; done) | (simp; omega)) _ | refine Kp.alloc ?_ _ _ | refine Kp.drewN ?_ _ | refine Kp.drew ?_)))⟩
set_option maxHeartbeats 1600000 in
theorem t_kind (k : Int) (b : Bool) (n : Int) (w : World) (hn : 0 ≤ n ∧ n < 18446744073709551616) (h : wh k = false) :
    Calls Tryd.prog 4 #[.int .i64 k, .bool b, .int .u64 n] w fun e w' => e = .returned (.tuple #[.int .u64 0, .int .i64 2]) ∧ Kp w w' := by
  have he : e0 k = 2 := by simp [e0, h]
  have HW := Lib.hid (wd_r (b := b) hn)
  clear hn
  go_enter Tryd.func4, Tryd.ntmps4
  go_wp2_with (first | ((go_at_call 15; with_reducible refine (c_Signed _ _).mono ?_; rintro e w1 ⟨rfl, rfl⟩)))
  go_returns
  exact ⟨rfl, (by (repeat (first | exact Kp.refl _ | refine kback (by assumption) ?_ | refine Kp.setCell ?_ (by first | omega | (simp; done) | (simp; omega)) _ | refine Kp.alloc ?_ _ _ | refine Kp.drewN ?_ _ | refine Kp.drew ?_)))⟩
set_option maxHeartbeats 1600000 in
theorem t_form (k : Int) (b : Bool) (n : Int) (w : World) (hn : 0 ≤ n ∧ n < 18446744073709551616) (h : wh k = true) (hk : kc b n = false) :
    Calls Tryd.prog 4 #[.int .i64 k, .bool b, .int .u64 n] w fun e w' => e = .returned (.tuple #[.int .u64 0, .int .i64 1]) ∧ Kp w w' := by
  have he : e0 k = 0 := by simp [e0, h]
  have HW := Lib.hid (wd_r (b := b) hn)
  clear hn
  go_enter Tryd.func4, Tryd.ntmps4
  go_wp2_with (first | ((go_at_call 15; with_reducible refine (c_Signed _ _).mono ?_; rintro e w1 ⟨rfl, rfl⟩)) | ((go_at_call 16; with_reducible refine (c_sound b n _).mono ?_; rintro e w1 ⟨rfl, hk⟩; have hc00 := keepc hk (b := w.heap.size) (o := 0) (v := .bool b) (by first | assumption | (simp [go_sem]; done) | (simp [go_sem]; assumption)); have hc01 := keepc hk (b := w.heap.size) (o := 1) (v := .int .u64 n) (by first | assumption | (simp [go_sem]; done) | (simp [go_sem]; assumption)))))
  go_returns
  exact ⟨rfl, (by (repeat (first | exact Kp.refl _ | refine kback (by assumption) ?_ | refine Kp.setCell ?_ (by first | omega | (simp; done) | (simp; omega)) _ | refine Kp.alloc ?_ _ _ | refine Kp.drewN ?_ _ | refine Kp.drew ?_)))⟩
set_option maxHeartbeats 1600000 in
theorem t_is (k : Int) (b : Bool) (n : Int) (w : World) (hn : 0 ≤ n ∧ n < 18446744073709551616) (h : wh k = true) (hk : kc b n = true) (hi : iz k (wd b n) = false) :
    Calls Tryd.prog 4 #[.int .i64 k, .bool b, .int .u64 n] w fun e w' => e = .returned (.tuple #[.int .u64 0, .int .i64 10]) ∧ Kp w w' := by
  have he : e0 k = 0 := by simp [e0, h]
  have HW := Lib.hid (wd_r (b := b) hn)
  clear hn
  go_enter Tryd.func4, Tryd.ntmps4
  go_wp2_with (first | ((go_at_call 15; with_reducible refine (c_Signed _ _).mono ?_; rintro e w1 ⟨rfl, rfl⟩)) | ((go_at_call 16; with_reducible refine (c_sound b n _).mono ?_; rintro e w1 ⟨rfl, hk⟩; have hc00 := keepc hk (b := w.heap.size) (o := 0) (v := .bool b) (by first | assumption | (simp [go_sem]; done) | (simp [go_sem]; assumption)); have hc01 := keepc hk (b := w.heap.size) (o := 1) (v := .int .u64 n) (by first | assumption | (simp [go_sem]; done) | (simp [go_sem]; assumption)))) | ((go_at_call 17; with_reducible refine (c_wordOf b n _).mono ?_; rintro e w1 ⟨rfl, hk⟩; have hc00 := keepc hk (b := w.heap.size) (o := 0) (v := .bool b) (by first | assumption | (simp [go_sem]; done) | (simp [go_sem]; assumption)); have hc01 := keepc hk (b := w.heap.size) (o := 1) (v := .int .u64 n) (by first | assumption | (simp [go_sem]; done) | (simp [go_sem]; assumption)))))
  refine wp_region_held_drew (S := fun w'' => w''.cell? ⟨w.heap.size, 0, none⟩ = some (.bool b) ∧ w''.cell? ⟨w.heap.size, 1, none⟩ = some (.int .u64 n)) (by kernel_rfl) (by first | exact ⟨by assumption, by assumption⟩ | (simp [go_sem]; exact ⟨by assumption, by assumption⟩)) (fun hHeld0 => ?_)
  refine wpAnyH_take (i := 0) (oi := { dst := some 28, op := Op.move (Operand.tmp 0), type := 3, pos := "konst.go:62", after := #[], guard := none }) (v := ?_) rfl (by kernel_rfl) (by kernel_rfl) (by kernel_rfl) (fun _ _ _ h => h) (Or.inl ⟨by rfl, ?_⟩) (by assumption) ?_
  rotate_left
  · (intro wz hSw; (try dsimp only at hSw); go_simp; first | done | with_reducible rfl)
  try simp only [Act.put, List.setIfInBounds_toArray, List.set_cons_zero, List.set_cons_succ]
  refine wpAnyH_take (i := 1) (oi := { dst := some 29, op := Op.move (Operand.tmp 11), type := 22, pos := "konst.go:62", after := #[], guard := none }) (v := ?_) rfl (by kernel_rfl) (by kernel_rfl) (by kernel_rfl) (fun _ _ _ h => h) (Or.inl ⟨by rfl, ?_⟩) (by assumption) ?_
  rotate_left
  · (intro wz hSw; (try dsimp only at hSw); go_simp; first | done | with_reducible rfl)
  try simp only [Act.put, List.setIfInBounds_toArray, List.set_cons_zero, List.set_cons_succ]
  refine wpAnyH_ready (rs := [2]) (by kernel_rfl) (by simp) ?_
  refine AllReadyH.cons (o := { dst := some 30, op := Op.call { callee := Callee.value (Operand.func 18), args := #[Operand.tmp 28, Operand.tmp 29], argTypes := #[3, 22] }, type := 4, pos := "konst.go:62", after := #[{ on := 0, ground := Ground.data }, { on := 1, ground := Ground.data }], guard := none }) rfl (fun Kw hKw => ?_) AllReadyH.nil
  go_simp
  ((go_at_call 18; with_reducible refine (c_Is k (wd b n) _ HW.out).mono ?_; rintro e w1 ⟨rfl, hk⟩; have hc00 := keepc hk (b := w.heap.size) (o := 0) (v := .bool b) (by first | assumption | (simp [go_sem]; done) | (simp [go_sem]; assumption)); have hc01 := keepc hk (b := w.heap.size) (o := 1) (v := .int .u64 n) (by first | assumption | (simp [go_sem]; done) | (simp [go_sem]; assumption))))
  (try go_wp2_with fail)
  refine hKw.out _ _ ?_ (fun hHeld1 => ?_)
  · exact ⟨hc00, hc01⟩
  clear hKw Kw hHeld0
  try simp only [Act.put, List.setIfInBounds_toArray, List.set_cons_zero, List.set_cons_succ]
  refine wpAnyH_take (i := 3) (oi := { dst := some 31, op := Op.unOp UnOp.not 4 (Operand.tmp 30), type := 4, pos := "konst.go:62", after := #[{ on := 2, ground := Ground.data }], guard := none }) (v := ?_) rfl (by kernel_rfl) (by kernel_rfl) (by kernel_rfl) (fun _ _ _ h => h) (Or.inl ⟨by rfl, ?_⟩) (by assumption) ?_
  rotate_left
  · (intro wz hSw; (try dsimp only at hSw); go_simp; first | done | with_reducible rfl)
  try simp only [Act.put, List.setIfInBounds_toArray, List.set_cons_zero, List.set_cons_succ]
  refine wpAnyH_take (i := 4) (oi := { dst := some 32, op := Op.move (Operand.tmp 31), type := 4, pos := "konst.go:62", after := #[{ on := 3, ground := Ground.data }, { on := 2, ground := Ground.chain }], guard := none }) (v := ?_) rfl (by kernel_rfl) (by kernel_rfl) (by kernel_rfl) (fun _ _ _ h => h) (Or.inl ⟨by rfl, ?_⟩) (by assumption) ?_
  rotate_left
  · (intro wz hSw; (try dsimp only at hSw); go_simp; first | done | with_reducible rfl)
  try simp only [Act.put, List.setIfInBounds_toArray, List.set_cons_zero, List.set_cons_succ]
  refine wpAnyH_take (i := 5) (oi := { dst := some 33, op := Op.move (Operand.tmp 8), type := 4, pos := "konst.go:62", after := #[{ on := 4, ground := Ground.guard }], guard := some (4, false) }) (v := undef) rfl (by kernel_rfl) (by kernel_rfl) (by kernel_rfl) (fun _ _ _ h => h) (Or.inr ⟨by rfl, rfl⟩) (by assumption) ?_
  try simp only [Act.put, List.setIfInBounds_toArray, List.set_cons_zero, List.set_cons_succ]
  refine wpAnyH_take (i := 6) (oi := { dst := some 34, op := Op.move (Operand.tmp 11), type := 22, pos := "konst.go:62", after := #[{ on := 4, ground := Ground.guard }], guard := some (4, false) }) (v := undef) rfl (by kernel_rfl) (by kernel_rfl) (by kernel_rfl) (fun _ _ _ h => h) (Or.inr ⟨by rfl, rfl⟩) (by assumption) ?_
  try simp only [Act.put, List.setIfInBounds_toArray, List.set_cons_zero, List.set_cons_succ]
  refine wpAnyH_take (i := 7) (oi := { dst := some 35, op := Op.call { callee := Callee.value (Operand.func 19), args := #[Operand.tmp 33, Operand.tmp 34], argTypes := #[4, 22] }, type := 44, pos := "konst.go:62", after := #[{ on := 5, ground := Ground.data }, { on := 6, ground := Ground.data }, { on := 4, ground := Ground.chain }, { on := 4, ground := Ground.guard }], guard := some (4, false) }) (v := undef) rfl (by kernel_rfl) (by kernel_rfl) (by kernel_rfl) (fun _ _ _ h => h) (Or.inr ⟨by rfl, rfl⟩) (by assumption) ?_
  try simp only [Act.put, List.setIfInBounds_toArray, List.set_cons_zero, List.set_cons_succ]
  refine wpAnyH_take (i := 8) (oi := { dst := some 36, op := Op.load 44 (Operand.tmp 10), type := 44, pos := "konst.go:62", after := #[{ on := 4, ground := Ground.guard }], guard := some (4, false) }) (v := undef) rfl (by kernel_rfl) (by kernel_rfl) (by kernel_rfl) (fun _ _ _ h => h) (Or.inr ⟨by rfl, rfl⟩) (by assumption) ?_
  try simp only [Act.put, List.setIfInBounds_toArray, List.set_cons_zero, List.set_cons_succ]
  refine wpAnyH_take (i := 9) (oi := { dst := some 37, op := Op.binOp BinOp.neq 44 (Operand.tmp 35) (Operand.tmp 36) 44, type := 4, pos := "konst.go:62", after := #[{ on := 7, ground := Ground.data }, { on := 8, ground := Ground.data }, { on := 4, ground := Ground.guard }], guard := some (4, false) }) (v := undef) rfl (by kernel_rfl) (by kernel_rfl) (by kernel_rfl) (fun _ _ _ h => h) (Or.inr ⟨by rfl, rfl⟩) (by assumption) ?_
  try simp only [Act.put, List.setIfInBounds_toArray, List.set_cons_zero, List.set_cons_succ]
  refine wpAnyH_take (i := 10) (oi := { dst := some 38, op := Op.pick (Operand.tmp 32) (Operand.const (Value.bool true)) (Operand.tmp 37), type := 4, pos := "konst.go:62", after := #[{ on := 4, ground := Ground.data }, { on := 9, ground := Ground.data }], guard := none }) (v := ?_) rfl (by kernel_rfl) (by kernel_rfl) (by kernel_rfl) (fun _ _ _ h => h) (Or.inl ⟨by rfl, ?_⟩) (by assumption) ?_
  rotate_left
  · (intro wz hSw; (try dsimp only at hSw); go_simp; first | done | with_reducible rfl)
  try simp only [Act.put, List.setIfInBounds_toArray, List.set_cons_zero, List.set_cons_succ]
  refine wpAnyH_done (by kernel_rfl) ?_ _
  go_wp2_with fail
  go_returns
  exact ⟨rfl, (by (repeat (first | exact Kp.refl _ | refine kback (by assumption) ?_ | refine Kp.setCell ?_ (by first | omega | (simp; done) | (simp; omega)) _ | refine Kp.alloc ?_ _ _ | refine Kp.drewN ?_ _ | refine Kp.drew ?_)))⟩
set_option maxHeartbeats 1600000 in
theorem t_ng (k : Int) (b : Bool) (n : Int) (w : World) (hn : 0 ≤ n ∧ n < 18446744073709551616) (h : wh k = true) (hk : kc b n = true) (hi : iz k (wd b n) = true) (hg : (ng k (wd b n) == b) = false) :
    Calls Tryd.prog 4 #[.int .i64 k, .bool b, .int .u64 n] w fun e w' => e = .returned (.tuple #[.int .u64 0, .int .i64 10]) ∧ Kp w w' := by
  have he : e0 k = 0 := by simp [e0, h]
  have HW := Lib.hid (wd_r (b := b) hn)
  clear hn
  go_enter Tryd.func4, Tryd.ntmps4
  go_wp2_with (first | ((go_at_call 15; with_reducible refine (c_Signed _ _).mono ?_; rintro e w1 ⟨rfl, rfl⟩)) | ((go_at_call 16; with_reducible refine (c_sound b n _).mono ?_; rintro e w1 ⟨rfl, hk⟩; have hc00 := keepc hk (b := w.heap.size) (o := 0) (v := .bool b) (by first | assumption | (simp [go_sem]; done) | (simp [go_sem]; assumption)); have hc01 := keepc hk (b := w.heap.size) (o := 1) (v := .int .u64 n) (by first | assumption | (simp [go_sem]; done) | (simp [go_sem]; assumption)))) | ((go_at_call 17; with_reducible refine (c_wordOf b n _).mono ?_; rintro e w1 ⟨rfl, hk⟩; have hc00 := keepc hk (b := w.heap.size) (o := 0) (v := .bool b) (by first | assumption | (simp [go_sem]; done) | (simp [go_sem]; assumption)); have hc01 := keepc hk (b := w.heap.size) (o := 1) (v := .int .u64 n) (by first | assumption | (simp [go_sem]; done) | (simp [go_sem]; assumption)))))
  go_region_with (first | ((go_at_call 18; with_reducible refine (c_Is k (wd b n) _ HW.out).mono ?_; rintro e w1 ⟨rfl, hk⟩; have hc00 := keepc hk (b := w.heap.size) (o := 0) (v := .bool b) (by first | assumption | (simp [go_sem]; done) | (simp [go_sem]; assumption)); have hc01 := keepc hk (b := w.heap.size) (o := 1) (v := .int .u64 n) (by first | assumption | (simp [go_sem]; done) | (simp [go_sem]; assumption)))) | ((go_at_call 19; with_reducible refine (c_numberOf k (wd b n) _ HW.out).mono ?_; rintro e w1 ⟨rfl, hk⟩; have hc00 := keepc hk (b := w.heap.size) (o := 0) (v := .bool b) (by first | assumption | (simp [go_sem]; done) | (simp [go_sem]; assumption)); have hc01 := keepc hk (b := w.heap.size) (o := 1) (v := .int .u64 n) (by first | assumption | (simp [go_sem]; done) | (simp [go_sem]; assumption)))))
  all_goals (go_wp2_with fail; go_returns; exact ⟨rfl, (by (repeat (first | exact Kp.refl _ | refine kback (by assumption) ?_ | refine Kp.setCell ?_ (by first | omega | (simp; done) | (simp; omega)) _ | refine Kp.alloc ?_ _ _ | refine Kp.drewN ?_ _ | refine Kp.drew ?_)))⟩)
set_option maxHeartbeats 1600000 in
theorem t_sz (k : Int) (b : Bool) (n : Int) (w : World) (hn : 0 ≤ n ∧ n < 18446744073709551616) (h : wh k = true) (hk : kc b n = true) (hi : iz k (wd b n) = true) (hg : ng k (wd b n) = b) (hz : (sz k (wd b n) == n) = false) :
    Calls Tryd.prog 4 #[.int .i64 k, .bool b, .int .u64 n] w fun e w' => e = .returned (.tuple #[.int .u64 0, .int .i64 10]) ∧ Kp w w' := by
  have he : e0 k = 0 := by simp [e0, h]
  have HW := Lib.hid (wd_r (b := b) hn)
  clear hn
  go_enter Tryd.func4, Tryd.ntmps4
  go_wp2_with (first | ((go_at_call 15; with_reducible refine (c_Signed _ _).mono ?_; rintro e w1 ⟨rfl, rfl⟩)) | ((go_at_call 16; with_reducible refine (c_sound b n _).mono ?_; rintro e w1 ⟨rfl, hk⟩; have hc00 := keepc hk (b := w.heap.size) (o := 0) (v := .bool b) (by first | assumption | (simp [go_sem]; done) | (simp [go_sem]; assumption)); have hc01 := keepc hk (b := w.heap.size) (o := 1) (v := .int .u64 n) (by first | assumption | (simp [go_sem]; done) | (simp [go_sem]; assumption)))) | ((go_at_call 17; with_reducible refine (c_wordOf b n _).mono ?_; rintro e w1 ⟨rfl, hk⟩; have hc00 := keepc hk (b := w.heap.size) (o := 0) (v := .bool b) (by first | assumption | (simp [go_sem]; done) | (simp [go_sem]; assumption)); have hc01 := keepc hk (b := w.heap.size) (o := 1) (v := .int .u64 n) (by first | assumption | (simp [go_sem]; done) | (simp [go_sem]; assumption)))))
  go_region_with (first | ((go_at_call 18; with_reducible refine (c_Is k (wd b n) _ HW.out).mono ?_; rintro e w1 ⟨rfl, hk⟩; have hc00 := keepc hk (b := w.heap.size) (o := 0) (v := .bool b) (by first | assumption | (simp [go_sem]; done) | (simp [go_sem]; assumption)); have hc01 := keepc hk (b := w.heap.size) (o := 1) (v := .int .u64 n) (by first | assumption | (simp [go_sem]; done) | (simp [go_sem]; assumption)))) | ((go_at_call 19; with_reducible refine (c_numberOf k (wd b n) _ HW.out).mono ?_; rintro e w1 ⟨rfl, hk⟩; have hc00 := keepc hk (b := w.heap.size) (o := 0) (v := .bool b) (by first | assumption | (simp [go_sem]; done) | (simp [go_sem]; assumption)); have hc01 := keepc hk (b := w.heap.size) (o := 1) (v := .int .u64 n) (by first | assumption | (simp [go_sem]; done) | (simp [go_sem]; assumption)))))
  all_goals (go_wp2_with fail; go_returns; exact ⟨rfl, (by (repeat (first | exact Kp.refl _ | refine kback (by assumption) ?_ | refine Kp.setCell ?_ (by first | omega | (simp; done) | (simp; omega)) _ | refine Kp.alloc ?_ _ _ | refine Kp.drewN ?_ _ | refine Kp.drew ?_)))⟩)
set_option maxHeartbeats 1600000 in
theorem t_good (k : Int) (b : Bool) (n : Int) (w : World) (hn : 0 ≤ n ∧ n < 18446744073709551616) (h : wh k = true) (hk : kc b n = true) (hi : iz k (wd b n) = true) (hg : ng k (wd b n) = b) (hz : sz k (wd b n) = n) :
    Calls Tryd.prog 4 #[.int .i64 k, .bool b, .int .u64 n] w fun e w' => e = .returned (.tuple #[.int .u64 (wd b n), .int .i64 0]) ∧ Kp w w' := by
  have he : e0 k = 0 := by simp [e0, h]
  have HW := Lib.hid (wd_r (b := b) hn)
  clear hn
  go_enter Tryd.func4, Tryd.ntmps4
  go_wp2_with (first | ((go_at_call 15; with_reducible refine (c_Signed _ _).mono ?_; rintro e w1 ⟨rfl, rfl⟩)) | ((go_at_call 16; with_reducible refine (c_sound b n _).mono ?_; rintro e w1 ⟨rfl, hk⟩; have hc00 := keepc hk (b := w.heap.size) (o := 0) (v := .bool b) (by first | assumption | (simp [go_sem]; done) | (simp [go_sem]; assumption)); have hc01 := keepc hk (b := w.heap.size) (o := 1) (v := .int .u64 n) (by first | assumption | (simp [go_sem]; done) | (simp [go_sem]; assumption)))) | ((go_at_call 17; with_reducible refine (c_wordOf b n _).mono ?_; rintro e w1 ⟨rfl, hk⟩; have hc00 := keepc hk (b := w.heap.size) (o := 0) (v := .bool b) (by first | assumption | (simp [go_sem]; done) | (simp [go_sem]; assumption)); have hc01 := keepc hk (b := w.heap.size) (o := 1) (v := .int .u64 n) (by first | assumption | (simp [go_sem]; done) | (simp [go_sem]; assumption)))))
  go_region_with (first | ((go_at_call 18; with_reducible refine (c_Is k (wd b n) _ HW.out).mono ?_; rintro e w1 ⟨rfl, hk⟩; have hc00 := keepc hk (b := w.heap.size) (o := 0) (v := .bool b) (by first | assumption | (simp [go_sem]; done) | (simp [go_sem]; assumption)); have hc01 := keepc hk (b := w.heap.size) (o := 1) (v := .int .u64 n) (by first | assumption | (simp [go_sem]; done) | (simp [go_sem]; assumption)))) | ((go_at_call 19; with_reducible refine (c_numberOf k (wd b n) _ HW.out).mono ?_; rintro e w1 ⟨rfl, hk⟩; have hc00 := keepc hk (b := w.heap.size) (o := 0) (v := .bool b) (by first | assumption | (simp [go_sem]; done) | (simp [go_sem]; assumption)); have hc01 := keepc hk (b := w.heap.size) (o := 1) (v := .int .u64 n) (by first | assumption | (simp [go_sem]; done) | (simp [go_sem]; assumption)))))
  all_goals (go_wp2_with fail; go_returns; exact ⟨rfl, (by (repeat (first | exact Kp.refl _ | refine kback (by assumption) ?_ | refine Kp.setCell ?_ (by first | omega | (simp; done) | (simp; omega)) _ | refine Kp.alloc ?_ _ _ | refine Kp.drewN ?_ _ | refine Kp.drew ?_)))⟩)
/-- What is told of a number. -/
def told3 (v : Int) : Ending := .returned (.tuple #[.bool (rn v), .int .u64 (rs v), .int .i64 (re v)])
theorem told_eq {u v : Int} (h : u = v ∨ (ft u = false ∧ ft v = false)) : told3 u = told3 v := by
  obtain ⟨h1, h2, h3⟩ := tell_same h
  unfold told3; rw [h1, h2, h3]
theorem c_Const (b : Bool) (n : Int) (w : World) (hn : 0 ≤ n) : Calls Tryd.prog 8 #[.agg #[.bool b, .int .u64 n]] w fun e w' => e = .returned (.bool (kc b n)) ∧ Kp w w' := by
  cases b with
  | false =>
    have e : kc false n = true := rfl
    rw [e]; clear e
    go_enter Tryd.func8, Tryd.ntmps8
    go_wp2_with fail
    go_ret
    exact ⟨rfl, (by (repeat (first | exact Kp.refl _ | refine kback (by assumption) ?_ | refine Kp.setCell ?_ (by first | omega | (simp; done) | (simp; omega)) _ | refine Kp.alloc ?_ _ _ | refine Kp.drewN ?_ _ | refine Kp.drew ?_)))⟩
  | true =>
    by_cases h1 : 0 < n
    · have e : kc true n = decide (n ≤ 9223372036854775808) := by have : 1 ≤ n := h1; simp [kc, this]
      rw [e]; clear e
      go_enter Tryd.func8, Tryd.ntmps8
      go_wp2_with fail
      go_ret
      exact ⟨rfl, (by (repeat (first | exact Kp.refl _ | refine kback (by assumption) ?_ | refine Kp.setCell ?_ (by first | omega | (simp; done) | (simp; omega)) _ | refine Kp.alloc ?_ _ _ | refine Kp.drewN ?_ _ | refine Kp.drew ?_)))⟩
    · have e : kc true n = false := by have : ¬ 1 ≤ n := h1; simp [kc, this]
      rw [e]; clear e
      go_enter Tryd.func8, Tryd.ntmps8
      go_wp2_with fail
      go_ret
      exact ⟨rfl, (by (repeat (first | exact Kp.refl _ | refine kback (by assumption) ?_ | refine Kp.setCell ?_ (by first | omega | (simp; done) | (simp; omega)) _ | refine Kp.alloc ?_ _ _ | refine Kp.drewN ?_ _ | refine Kp.drew ?_)))⟩
theorem v_ans (w : World) : Calls Tryd.prog 22 #[.string ⟨#[45]⟩, .bool false, .int .u64 2, .bool false, .int .u64 5] w fun e w' => e = .returned (.tuple #[.bool true, .int .u64 3, .int .i64 0]) ∧ Kp w w' := by
  have hm : (0 : Int) ≤ 2 ∧ (2 : Int) < 18446744073709551616 := by omega
  have hn : (0 : Int) ≤ 5 ∧ (5 : Int) < 18446744073709551616 := by omega
  refine (f_good _ false 2 false 5 w (by simp [isf, ByteArray.toList_eq]) rfl rfl _ _ _ (add_r hm hn) (fun w => fo_sub false 2 false 5 w) (fun w => co_sub false 2 false 5 w hm hn)).mono ?_
  intro e w' q
  have h1 : rn (tv (aB false 2 (!false) 5) (aN false 2 (!false) 5) (aK false 2 (!false) 5)) = true := by decide
  have h2 : rs (tv (aB false 2 (!false) 5) (aN false 2 (!false) 5) (aK false 2 (!false) 5)) = 3 := by decide
  have h3 : re (tv (aB false 2 (!false) 5) (aN false 2 (!false) 5) (aK false 2 (!false) 5)) = 0 := by decide
  rw [h1, h2, h3] at q
  exact q
theorem c_answers (w : World) : Calls Tryd.prog 7 #[] w fun e w' => e = .returned (.bool true) ∧ Kp w w' := by
  have H := Lib.hid (fun w => v_ans w)
  go_enter Tryd.func7, Tryd.ntmps7
  go_wp2_with ((go_at_call 22; with_reducible refine (H.out _).mono ?_; rintro e w' ⟨rfl, hk⟩))
  go_ret
  exact ⟨rfl, hk⟩
end Go.Proofs.YtihchlkoohficaaDoor
