/- The statement KonstBack, walked: at every input the call returns true, and of what was there nothing has turned. -/
import Derived.Test.YtihchlkoohficaaK8
namespace Go.Proofs.Ytihchlkoohficaa
open Go.RowKit Plain
set_option linter.unusedVariables false
theorem wd_back {k n : Int} (hn : 0 ≤ n ∧ n < 18446744073709551616) : wd (ng k n) (sz k n) = n := by
  unfold wd
  cases h : ng k n with
  | false => simp [sz, h]
  | true => simp [sz, h, IntKind.wrap_u64]; omega
set_option maxRecDepth 100000 in
set_option maxHeartbeats 6400000 in
theorem KonstBack_kind (k o n : Int) (w : World) (hn : 0 ≤ n ∧ n < 18446744073709551616) (h : wh k = false) :
    Calls Try.prog 5 #[.int .i64 k, .int .i64 o, .int .u64 n] w fun e w' => e = .returned (.bool true) ∧ Kp w w' := by
  have HN := Lib.hid hn
  clear hn
  go_enter Try.func5, Try.ntmps5
  go_wp2_with (first | ((go_at_call 11; with_reducible refine (c_answers _).mono ?_; rintro e w1 ⟨rfl, hk⟩)) | ((go_at_call 16; with_reducible refine (o_kind k n _ HN.out h).mono ?_; rintro e w1 ⟨rfl, hk⟩)) | ((go_at_call 17; with_reducible refine (c_rIs k n _ HN.out).mono ?_; rintro e w1 ⟨rfl, rfl⟩)))
  go_ret
  exact ⟨rfl, (by (repeat (first | exact Kp.refl _ | refine kback (by assumption) ?_ | refine Kp.setCell ?_ (by first | omega | (simp; done) | (simp; omega)) _ | refine Kp.alloc ?_ _ _ | refine Kp.drewN ?_ _ | refine Kp.drew ?_)))⟩
set_option maxRecDepth 100000 in
set_option maxHeartbeats 6400000 in
theorem KonstBack_form (k o n : Int) (w : World) (hn : 0 ≤ n ∧ n < 18446744073709551616) (h : wh k = true) (hi : iz k n = false) :
    Calls Try.prog 5 #[.int .i64 k, .int .i64 o, .int .u64 n] w fun e w' => e = .returned (.bool true) ∧ Kp w w' := by
  have HN := Lib.hid hn
  clear hn
  go_enter Try.func5, Try.ntmps5
  go_wp2_with (first | ((go_at_call 11; with_reducible refine (c_answers _).mono ?_; rintro e w1 ⟨rfl, hk⟩)) | ((go_at_call 16; with_reducible refine (o_form k n _ HN.out h hi).mono ?_; rintro e w1 ⟨rfl, hk⟩)) | ((go_at_call 17; with_reducible refine (c_rIs k n _ HN.out).mono ?_; rintro e w1 ⟨rfl, rfl⟩)))
  go_ret
  exact ⟨rfl, (by (repeat (first | exact Kp.refl _ | refine kback (by assumption) ?_ | refine Kp.setCell ?_ (by first | omega | (simp; done) | (simp; omega)) _ | refine Kp.alloc ?_ _ _ | refine Kp.drewN ?_ _ | refine Kp.drew ?_)))⟩
set_option maxRecDepth 100000 in
set_option maxHeartbeats 6400000 in
theorem KonstBack_no (k o n : Int) (w : World) (hn : 0 ≤ n ∧ n < 18446744073709551616) (h : wh k = true) (hi : iz k n = true) (g gb gx : Int) (gb1 : Bool) (gn : Int) (hg : (g != 0) = true) (h1 : ∀ w, Calls Try.prog 18 #[.int .i64 o, .bool (ng k n), .int .u64 (sz k n)] w fun e w' => e = .returned (.tuple #[.int .u64 gb, .int .i64 g]) ∧ Kp w w') (h2 : ∀ w, Calls Try.prog 16 #[.int .i64 o, .int .u64 gb] w fun e w' => e = .returned (.tuple #[.bool gb1, .int .u64 gn, .int .i64 gx]) ∧ Kp w w') :
    Calls Try.prog 5 #[.int .i64 k, .int .i64 o, .int .u64 n] w fun e w' => e = .returned (.bool true) ∧ Kp w w' := by
  have HN := Lib.hid hn
  have F0 := Lib.hid (fun w => (by have := t_good k (ng k n) (sz k n) w (sz_r hn) h (kc_of hn) (by rw [wd_back hn]; exact hi) (by rw [wd_back hn]) (by rw [wd_back hn]); rw [wd_back hn] at this; exact this : Calls Try.prog 18 #[.int .i64 k, .bool (ng k n), .int .u64 (sz k n)] w fun e w' => e = .returned (.tuple #[.int .u64 n, .int .i64 0]) ∧ Kp w w'))
  have F1 := Lib.hid h1
  have F2 := Lib.hid h2
  clear h1 h2
  clear hn
  go_enter Try.func5, Try.ntmps5
  go_wp2_with (first | ((go_at_call 11; with_reducible refine (c_answers _).mono ?_; rintro e w1 ⟨rfl, hk⟩)) | ((go_at_call 16; with_reducible refine (o_good k n _ HN.out h hi).mono ?_; rintro e w1 ⟨rfl, hk⟩)) | ((go_at_call 18; with_reducible refine (F0.out _).mono ?_; rintro e w1 ⟨rfl, hk⟩)) | ((go_at_call 18; with_reducible refine (F1.out _).mono ?_; rintro e w1 ⟨rfl, hk⟩)) | ((go_at_call 16; with_reducible refine (F2.out _).mono ?_; rintro e w1 ⟨rfl, hk⟩)))
  go_ret
  exact ⟨rfl, (by (repeat (first | exact Kp.refl _ | refine kback (by assumption) ?_ | refine Kp.setCell ?_ (by first | omega | (simp; done) | (simp; omega)) _ | refine Kp.alloc ?_ _ _ | refine Kp.drewN ?_ _ | refine Kp.drew ?_)))⟩
set_option maxRecDepth 100000 in
set_option maxHeartbeats 6400000 in
theorem KonstBack_yes (k o n : Int) (w : World) (hn : 0 ≤ n ∧ n < 18446744073709551616) (h : wh k = true) (hi : iz k n = true) (h1 : ∀ w, Calls Try.prog 18 #[.int .i64 o, .bool (ng k n), .int .u64 (sz k n)] w fun e w' => e = .returned (.tuple #[.int .u64 n, .int .i64 0]) ∧ Kp w w') (h2 : ∀ w, Calls Try.prog 16 #[.int .i64 o, .int .u64 n] w fun e w' => e = .returned (.tuple #[.bool (ng k n), .int .u64 (sz k n), .int .i64 0]) ∧ Kp w w') :
    Calls Try.prog 5 #[.int .i64 k, .int .i64 o, .int .u64 n] w fun e w' => e = .returned (.bool true) ∧ Kp w w' := by
  have HN := Lib.hid hn
  have F0 := Lib.hid (fun w => (by have := t_good k (ng k n) (sz k n) w (sz_r hn) h (kc_of hn) (by rw [wd_back hn]; exact hi) (by rw [wd_back hn]) (by rw [wd_back hn]); rw [wd_back hn] at this; exact this : Calls Try.prog 18 #[.int .i64 k, .bool (ng k n), .int .u64 (sz k n)] w fun e w' => e = .returned (.tuple #[.int .u64 n, .int .i64 0]) ∧ Kp w w'))
  have F1 := Lib.hid h1
  have F2 := Lib.hid h2
  clear h1 h2
  clear hn
  go_enter Try.func5, Try.ntmps5
  go_wp2_with (first | ((go_at_call 11; with_reducible refine (c_answers _).mono ?_; rintro e w1 ⟨rfl, hk⟩)) | ((go_at_call 16; with_reducible refine (o_good k n _ HN.out h hi).mono ?_; rintro e w1 ⟨rfl, hk⟩)) | ((go_at_call 18; with_reducible refine (F0.out _).mono ?_; rintro e w1 ⟨rfl, hk⟩)) | ((go_at_call 18; with_reducible refine (F1.out _).mono ?_; rintro e w1 ⟨rfl, hk⟩)) | ((go_at_call 16; with_reducible refine (F2.out _).mono ?_; rintro e w1 ⟨rfl, hk⟩)))
  go_ret
  exact ⟨rfl, (by (repeat (first | exact Kp.refl _ | refine kback (by assumption) ?_ | refine Kp.setCell ?_ (by first | omega | (simp; done) | (simp; omega)) _ | refine Kp.alloc ?_ _ _ | refine Kp.drewN ?_ _ | refine Kp.drew ?_)))⟩
theorem of_any (k n : Int) (hn : 0 ≤ n ∧ n < 18446744073709551616) : ∃ (b : Bool) (z e : Int), ∀ w : World, Calls Try.prog 16 #[.int .i64 k, .int .u64 n] w fun r w' => r = .returned (.tuple #[.bool b, .int .u64 z, .int .i64 e]) ∧ Kp w w' := by
  cases h : wh k with
  | false => exact ⟨_, _, _, fun w => o_kind k n w hn h⟩
  | true =>
    cases hi : iz k n with
    | false => exact ⟨_, _, _, fun w => o_form k n w hn h hi⟩
    | true => exact ⟨_, _, _, fun w => o_good k n w hn h hi⟩
theorem law_KonstBack (k o n : Int) (w : World) (hn : 0 ≤ n ∧ n < 18446744073709551616) :
    Calls Try.prog 5 #[.int .i64 k, .int .i64 o, .int .u64 n] w fun e w' => e = .returned (.bool true) ∧ Kp w w' := by
  cases h : wh k with
  | false => exact KonstBack_kind k o n w hn h
  | true =>
    cases hi : iz k n with
    | false => exact KonstBack_form k o n w hn h hi
    | true =>
      have hz := sz_r (k := k) hn
      have hc := kc_of (k := k) hn
      have hw : wd (ng k n) (sz k n) = n := wd_back hn
      have no : ∀ g : Int, (g != 0) = true → (∀ w, Calls Try.prog 18 #[.int .i64 o, .bool (ng k n), .int .u64 (sz k n)] w fun e w' => e = .returned (.tuple #[.int .u64 0, .int .i64 g]) ∧ Kp w w') → Calls Try.prog 5 #[.int .i64 k, .int .i64 o, .int .u64 n] w fun e w' => e = .returned (.bool true) ∧ Kp w w' := by
        intro g hg hf
        obtain ⟨b, z, e, h2⟩ := of_any o 0 (by omega)
        exact KonstBack_no k o n w hn h hi g 0 e b z hg hf h2
      cases h' : wh o with
      | false => exact no 2 (by decide) (fun w => t_kind o (ng k n) (sz k n) w hz h')
      | true =>
        cases hi' : iz o n with
        | false => exact no 10 (by decide) (fun w => t_is o (ng k n) (sz k n) w hz h' hc (by rw [hw]; exact hi'))
        | true =>
          cases hg : (ng o n == ng k n) with
          | false => exact no 10 (by decide) (fun w => t_ng o (ng k n) (sz k n) w hz h' hc (by rw [hw]; exact hi') (by rw [hw]; exact hg))
          | true =>
            have hg' : ng o n = ng k n := by simpa using hg
            have hs : sz o n = sz k n := by unfold sz; rw [hg']
            have h1 := fun w => t_good o (ng k n) (sz k n) w hz h' hc (by rw [hw]; exact hi') (by rw [hw]; exact hg') (by rw [hw]; exact hs)
            rw [hw] at h1
            have h2 := fun w => o_good o n w hn h' hi'
            rw [hg', hs] at h2
            exact KonstBack_yes k o n w hn h hi h1 h2
end Go.Proofs.Ytihchlkoohficaa
