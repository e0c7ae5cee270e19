/- What the small functions of package word and of the reference answer, in the translation of KonstWords. Condition: a word is between 0 and 2 to the 64. -/
import Derived.Test.YtihchlkoohficaaDoorChecked
import Derived.Test.YtihchlkoohficaaDoorPlain2
import Derived.Handy
import Derived.Lib.Hide
import Derived.WalkLawsBesides
import Derived.Outline
namespace Go.Proofs.YtihchlkoohficaaDoor
open Go.RowKit Plain
set_option linter.unusedVariables false
set_option linter.unusedSimpArgs false


/-- Of what was there nothing has turned; new blocks may lie behind it. -/
structure Kp (w w' : World) : Prop where
  below : Below w.heap.size w w'
  frozen : ∀ a, w'.frozen? a = w.frozen? a
theorem Kp.refl (w : World) : Kp w w := ⟨Below.refl _ _, fun _ => rfl⟩
theorem Kp.trans {a b c : World} (h : Kp a b) (k : Kp b c) : Kp a c := ⟨h.below.trans (k.below.mono h.below.size), fun x => (k.frozen x).trans (h.frozen x)⟩
theorem Kp.alloc {a w : World} (h : Kp a w) (c : Array Value) (t : TypeId) : Kp a (w.alloc (.cells c t)) := ⟨h.below.alloc h.below.size _, fun x => (frozen?_alloc_cells w c t x).trans (h.frozen x)⟩
theorem Kp.setCell {a w : World} (h : Kp a w) {p : Addr} (hp : a.heap.size ≤ p.block) (v : Value) : Kp a (w.setCell p v) := ⟨h.below.setCell hp v, fun x => (World.frozen?_setCell _ _ _ _).trans (h.frozen x)⟩
theorem Kp.drew {a w : World} (h : Kp a w) : Kp a w.drew := ⟨h.below.drew, h.frozen⟩
theorem Kp.drewN {a w : World} (h : Kp a w) (n : Nat) : Kp a (w.drewN n) := ⟨⟨h.below.os, h.below.tape, h.below.output, h.below.size, h.below.block⟩, h.frozen⟩
theorem Kp.grown {a w : World} (h : Kp a w) : Grown a w := ⟨h.below.frame _, h.frozen, h.below.size⟩
theorem Kp.cell {a w : World} (h : Kp a w) {b o : Nat} (hb : b < a.heap.size) : w.cell? ⟨b, o, none⟩ = a.cell? ⟨b, o, none⟩ := h.below.cell (p := ⟨b, o, none⟩) hb
theorem ret_int {k : IntKind} {a b : Int} (h : a = b) : Ending.returned (.int k a) = .returned (.int k b) := by rw [h]

theorem kback {a b c : World} (k : Kp b c) (h : Kp a b) : Kp a c := h.trans k
theorem keepc {w w' : World} (hk : Kp w w') {b o : Nat} {v : Value} (hc : w.cell? ⟨b, o, none⟩ = some v) : w'.cell? ⟨b, o, none⟩ = some v := by
  have hb : b < w.heap.size := by
    apply Classical.byContradiction
    intro hn
    have : w.heap[b]? = none := by simp; omega
    simp [World.cell?, this] at hc
  rw [hk.cell hb, hc]
theorem keeps {w w' : World} {o : Obj} (hk : Kp (w.alloc o) w') : w.heap.size < w'.heap.size := by
  have := hk.below.size
  simp at this; omega
theorem c_isKind (k : Int) (w : World) : Calls Tryd.prog 26 #[.int .i64 k] w fun e w' => e = .returned (.bool (wh k)) ∧ w = w' := by
  go_enter Tryd.func26, Tryd.ntmps26
  by_cases h1 : 2 ≤ k
  · have e : wh k = decide (k ≤ 7) := by simp [wh, h1]
    rw [e]; clear e
    go_wp2
    go_ret
    exact ⟨rfl, rfl⟩
  · have e : wh k = false := by simp [wh, h1]
    rw [e]; clear e
    go_wp2
    go_ret
    exact ⟨rfl, rfl⟩
theorem c_Whole (k : Int) (w : World) : Calls Tryd.prog 10 #[.int .i64 k] w fun e w' => e = .returned (.bool (wh k)) ∧ w = w' := by
  go_enter Tryd.func10, Tryd.ntmps10
  by_cases h1 : 2 ≤ k
  · have e : wh k = decide (k ≤ 7) := by simp [wh, h1]
    rw [e]; clear e
    go_wp2
    go_ret
    exact ⟨rfl, rfl⟩
  · have e : wh k = false := by simp [wh, h1]
    rw [e]; clear e
    go_wp2
    go_ret
    exact ⟨rfl, rfl⟩
theorem c_hasSign (k : Int) (w : World) : Calls Tryd.prog 27 #[.int .i64 k] w fun e w' => e = .returned (.bool (sg k)) ∧ w = w' := by
  go_enter Tryd.func27, Tryd.ntmps27
  by_cases h1 : k = 2
  · subst h1; go_wp2; go_ret; exact ⟨rfl, rfl⟩
  · by_cases h2 : k = 4
    · subst h2; go_wp2; go_ret; exact ⟨rfl, rfl⟩
    · go_wp2; go_ret; exact ⟨rfl, rfl⟩
theorem c_rSigned (k : Int) (w : World) : Calls Tryd.prog 24 #[.int .i64 k] w fun e w' => e = .returned (.bool (sg k)) ∧ w = w' := by
  cases h : wh k with
  | false =>
    have h1 := wh_no h
    rw [sg_no h]
    clear h
    rcases h1 with h1 | h1
    · go_enter Tryd.func24, Tryd.ntmps24
      go_wp2; go_ret; exact ⟨rfl, rfl⟩
    · go_enter Tryd.func24, Tryd.ntmps24
      go_wp2; go_ret; exact ⟨rfl, rfl⟩
  | true =>
    rcases wh_iff h with rfl | rfl | rfl | rfl | rfl | rfl
    all_goals
      clear h
      go_enter Tryd.func24, Tryd.ntmps24
      go_wp2; go_ret; exact ⟨rfl, rfl⟩
theorem bt_no {k : Int} (h : wh k = false) : bt k = 0 := by simp [bt, h]
theorem c_rBits (k : Int) (w : World) : Calls Tryd.prog 34 #[.int .i64 k] w fun e w' => e = .returned (.int .i64 (bt k)) ∧ w = w' := by
  cases h : wh k with
  | false =>
    rw [bt_no h]
    go_enter Tryd.func34, Tryd.ntmps34
    go_wp2_with (go_at_call 10; refine (c_Whole _ _).mono ?_; rintro e w' ⟨rfl, rfl⟩)
    go_ret; exact ⟨rfl, rfl⟩
  | true =>
    rcases wh_iff h with rfl | rfl | rfl | rfl | rfl | rfl
    all_goals
      clear h
      go_enter Tryd.func34, Tryd.ntmps34
      go_wp2; go_ret; exact ⟨rfl, rfl⟩
theorem c_wrap (k n : Int) (w : World) (h : wh k = true) (hn : 0 ≤ n ∧ n < 18446744073709551616) :
    Calls Tryd.prog 35 #[.int .i64 k, .int .u64 n] w fun e w' => e = .returned (.int .u64 (wr k n)) ∧ w = w' := by
  have H := Lib.hid hn
  clear hn
  rcases wh_iff h with rfl | rfl | rfl | rfl | rfl | rfl
  all_goals
    clear h
    go_enter Tryd.func35, Tryd.ntmps35
    go_wp2; go_ret
  · exact ⟨ret_int (conv8 n), rfl⟩
  · exact ⟨ret_int ((wr3 n).symm), rfl⟩
  · exact ⟨ret_int (show IntKind.u64.wrap (wrap32 n) = wr 4 n from (IntWalk.i32_left n) ▸ conv32 n), rfl⟩
  · exact ⟨ret_int ((wr5 n).symm), rfl⟩
  · exact ⟨ret_int (conv64 H.out), rfl⟩
  · exact ⟨ret_int (convu64 H.out), rfl⟩
theorem c_Signed (k : Int) (w : World) : Calls Tryd.prog 15 #[.int .i64 k] w fun e w' => e = .returned (.tuple #[.bool (sg k), .int .i64 (e0 k)]) ∧ w = w' := by
  cases h : wh k with
  | false =>
    have e : e0 k = 2 := by simp [e0, h]
    rw [sg_no h, e]
    clear e
    go_enter Tryd.func15, Tryd.ntmps15
    go_wp2_with (go_at_call 26; refine (c_isKind _ _).mono ?_; rintro e w' ⟨rfl, rfl⟩)
    go_ret2; exact ⟨rfl, rfl⟩
  | true =>
    have e : e0 k = 0 := by simp [e0, h]
    rw [e]
    clear e
    go_enter Tryd.func15, Tryd.ntmps15
    go_wp2_with (first | (go_at_call 26; refine (c_isKind _ _).mono ?_; rintro e w' ⟨rfl, rfl⟩) | (go_at_call 27; refine (c_hasSign _ _).mono ?_; rintro e w' ⟨rfl, rfl⟩))
    go_ret2; exact ⟨rfl, rfl⟩

theorem c_rWrap (k n : Int) (w : World) (h : wh k = true) (hn : 0 ≤ n ∧ n < 18446744073709551616) :
    Calls Tryd.prog 33 #[.int .i64 k, .int .u64 n] w fun e w' => e = .returned (.int .u64 (wr k n)) ∧ w = w' := by
  have H := Lib.hid hn
  obtain ⟨hn0, hn1⟩ := hn
  clear hn1
  go_enter Tryd.func33, Tryd.ntmps33
  go_wp2_with fail
  go_loop [5, 6, 7] (fun o b i => ∃ j : Nat, j ≤ 64 ∧ i = .int .i64 j ∧ o = .int .u64 (lo k n j) ∧ b = .int .u64 (bi k n j)) (fun _ _ i => 64 - (intOf i).toNat)
  case atStart => exact ⟨0, by omega, rfl, by rw [lo_0 k n], by rw [bi_0 k n]⟩
  case round =>
    obtain ⟨j, hj, rfl, rfl, rfl⟩ := hrel
    by_cases hlt : j < 64
    · by_cases hb : (j : Int) < bt k
      · go_wp2_with (go_at_call 34; refine (c_rBits _ _).mono ?_; rintro e w' ⟨rfl, rfl⟩)
        have hr := round_low (k := k) (n := n) hn0 hlt (by rw [bn_cast] at hb; omega)
        go_round
        case rel => exact ⟨j + 1, by omega, by go_num, by rw [hr.2], by rw [hr.1]⟩
        case measure => simp [intOf]; omega
      · have hb' : bn k ≤ j := by rw [bn_cast] at hb; omega
        cases hs : sg k with
        | true =>
          go_wp2_with (first | (go_at_call 34; refine (c_rBits _ _).mono ?_; rintro e w' ⟨rfl, rfl⟩) | (go_at_call 24; refine (c_rSigned _ _).mono ?_; rintro e w' ⟨rfl, rfl⟩))
          have hr := round_high (k := k) (n := n) h hlt hb' hs
          go_round
          case rel => exact ⟨j + 1, by omega, by go_num, by rw [hr.2], by rw [hr.1]⟩
          case measure => simp [intOf]; omega
        | false =>
          have hl := lo_range (n := n) h hj
          go_wp2_with (first | (go_at_call 34; refine (c_rBits _ _).mono ?_; rintro e w' ⟨rfl, rfl⟩) | (go_at_call 24; refine (c_rSigned _ _).mono ?_; rintro e w' ⟨rfl, rfl⟩))
          have hr := round_none (k := k) (n := n) h hlt hb' hs
          go_round
          case rel => exact ⟨j + 1, by omega, by go_num, by rw [← hr.2], by rw [hr.1]⟩
          case measure => simp [intOf]; omega
    · obtain rfl : j = 64 := by omega
      have hl := lo_end (n := n) h
      go_wp2_with fail
      go_ret
      exact ⟨rfl, rfl⟩

/-- The reference's Is. -/
theorem c_rIs (k n : Int) (w : World) (hn : 0 ≤ n ∧ n < 18446744073709551616) :
    Calls Tryd.prog 23 #[.int .i64 k, .int .u64 n] w fun e w' => e = .returned (.bool (wh k && iz k n)) ∧ w = w' := by
  have H := Lib.hid hn
  clear hn
  cases h : wh k with
  | false =>
    go_enter Tryd.func23, Tryd.ntmps23
    go_wp2_with (first | (go_at_call 10; refine (c_Whole _ _).mono ?_; rintro e w' ⟨rfl, rfl⟩))
    go_ret; exact ⟨rfl, rfl⟩
  | true =>
    go_enter Tryd.func23, Tryd.ntmps23
    go_wp2_with (first | (go_at_call 10; refine (c_Whole _ _).mono ?_; rintro e w' ⟨rfl, rfl⟩) | (go_at_call 33; refine (c_rWrap _ _ _ h H.out).mono ?_; rintro e w' ⟨rfl, rfl⟩))
    go_ret; exact ⟨rfl, rfl⟩

/-- check at one word. -/
theorem c_check1 (k a : Int) (b : Nat) (w : World) (ha : 0 ≤ a ∧ a < 18446744073709551616) (hc : w.cell? ⟨b, 0, none⟩ = some (.int .u64 a)) :
    Calls Tryd.prog 28 #[.int .i64 k, .slice (some ⟨b, 0, none⟩) 1 1] w fun e w' => e = .returned (.int .i64 (e1 k a)) ∧ w = w' := by
  have HA := Lib.hid ha
  clear ha
  cases h : wh k with
  | false =>
    have e : e1 k a = 2 := by simp [e1, h]
    rw [e]; clear e
    go_enter Tryd.func28, Tryd.ntmps28
    go_wp2_with (go_at_call 26; refine (c_isKind _ _).mono ?_; rintro e w' ⟨rfl, rfl⟩)
    go_ret; exact ⟨rfl, rfl⟩
  | true =>
    cases hi : iz k a with
    | true =>
      have e : e1 k a = 0 := by simp [e1, h, hi]
      have hz : (wr k a != a) = false := by simpa [iz] using hi
      rw [e]; clear e
      go_enter Tryd.func28, Tryd.ntmps28
      go_wp2_with (go_at_call 26; refine (c_isKind _ _).mono ?_; rintro e w' ⟨rfl, rfl⟩)
      refine wp_loop_rounds 5 ?_
      rw [rounds_succ]
      go_wp2_with (go_at_call 35; refine (c_wrap _ _ _ h HA.out).mono ?_; rintro e w' ⟨rfl, rfl⟩)
      rw [rounds_succ]
      go_wp2_with fail
      go_ret; exact ⟨rfl, rfl⟩
    | false =>
      have e : e1 k a = 1 := by simp [e1, h, hi]
      have hz : (wr k a != a) = true := by simpa [iz] using hi
      rw [e]; clear e
      go_enter Tryd.func28, Tryd.ntmps28
      go_wp2_with (go_at_call 26; refine (c_isKind _ _).mono ?_; rintro e w' ⟨rfl, rfl⟩)
      refine wp_loop_rounds 5 ?_
      rw [rounds_succ]
      go_wp2_with (go_at_call 35; refine (c_wrap _ _ _ h HA.out).mono ?_; rintro e w' ⟨rfl, rfl⟩)
      go_ret; exact ⟨rfl, rfl⟩

theorem c_Is (k a : Int) (w : World) (ha : 0 ≤ a ∧ a < 18446744073709551616) :
    Calls Tryd.prog 18 #[.int .i64 k, .int .u64 a] w fun e w' => e = .returned (.bool (wh k && iz k a)) ∧ Kp w w' := by
  have HA := Lib.hid ha
  clear ha
  have he : (wh k && iz k a) = (e1 k a == 0) := by unfold e1; cases wh k <;> cases iz k a <;> simp
  rw [he]; clear he
  go_enter Tryd.func18, Tryd.ntmps18
  go_wp2_with (go_at_call 28; with_reducible refine (c_check1 _ _ _ _ HA.out ?_).mono ?_; (focus (simp [go_sem]));rintro e w' ⟨rfl, rfl⟩)
  go_ret
  exact ⟨rfl, (Kp.refl w).alloc _ _⟩
/-- The reference's Bad at one word. -/
theorem c_Bad1 (k a : Int) (b : Nat) (w : World) (ha : 0 ≤ a ∧ a < 18446744073709551616) (hc : w.cell? ⟨b, 0, none⟩ = some (.int .u64 a)) :
    Calls Tryd.prog 11 #[.int .i64 k, .slice (some ⟨b, 0, none⟩) 1 1] w fun e w' => e = .returned (.int .i64 (e1 k a)) ∧ w = w' := by
  have HA := Lib.hid ha
  clear ha
  cases h : wh k with
  | false =>
    have e : e1 k a = 2 := by simp [e1, h]
    rw [e]; clear e
    go_enter Tryd.func11, Tryd.ntmps11
    go_wp2_with (go_at_call 10; refine (c_Whole _ _).mono ?_; rintro e w' ⟨rfl, rfl⟩)
    go_ret; exact ⟨rfl, rfl⟩
  | true =>
    cases hi : iz k a with
    | true =>
      have e : e1 k a = 0 := by simp [e1, h, hi]
      have hz : (wr k a != a) = false := by simpa [iz] using hi
      rw [e]; clear e
      go_enter Tryd.func11, Tryd.ntmps11
      go_wp2_with (go_at_call 10; refine (c_Whole _ _).mono ?_; rintro e w' ⟨rfl, rfl⟩)
      refine wp_loop_rounds 5 ?_
      rw [rounds_succ]
      go_wp2_with (go_at_call 23; refine (c_rIs _ _ _ HA.out).mono ?_; rintro e w' ⟨rfl, rfl⟩)
      rw [rounds_succ]
      go_wp2_with fail
      go_ret; exact ⟨rfl, rfl⟩
    | false =>
      have e : e1 k a = 1 := by simp [e1, h, hi]
      have hz : (wr k a != a) = true := by simpa [iz] using hi
      rw [e]; clear e
      go_enter Tryd.func11, Tryd.ntmps11
      go_wp2_with (go_at_call 10; refine (c_Whole _ _).mono ?_; rintro e w' ⟨rfl, rfl⟩)
      refine wp_loop_rounds 5 ?_
      rw [rounds_succ]
      go_wp2_with (go_at_call 23; refine (c_rIs _ _ _ HA.out).mono ?_; rintro e w' ⟨rfl, rfl⟩)
      go_ret; exact ⟨rfl, rfl⟩
theorem c_rOf (k n : Int) (w : World) (hn : 0 ≤ n ∧ n < 18446744073709551616) :
    Calls Tryd.prog 12 #[.int .i64 k, .int .u64 n] w fun e w' => e = .returned (.agg #[.bool (ng k n), .int .u64 (sz k n)]) ∧ Kp w w' := by
  cases hs : sg k with
  | true =>
    by_cases hb : 9223372036854775808 ≤ n
    · have e1 : ng k n = true := by simp [ng, hs, hb]
      have e2 : sz k n = IntKind.u64.wrap (-n) := by simp [sz, e1, IntKind.wrap_u64]; omega
      rw [e1, e2]; clear e1 e2 hn
      go_enter Tryd.func12, Tryd.ntmps12
      go_wp2_with (go_at_call 24; with_reducible refine (c_rSigned _ _).mono ?_; rintro e w' ⟨rfl, rfl⟩)
      go_returns
      exact ⟨rfl, (Kp.refl w).alloc _ _⟩
    · have e1 : ng k n = false := by simp [ng, hs]; omega
      have e2 : sz k n = n := by simp [sz, e1]
      rw [e1, e2]; clear e1 e2 hn
      go_enter Tryd.func12, Tryd.ntmps12
      go_wp2_with (go_at_call 24; with_reducible refine (c_rSigned _ _).mono ?_; rintro e w' ⟨rfl, rfl⟩)
      go_returns
      exact ⟨rfl, (Kp.refl w).alloc _ _⟩
  | false =>
    have e1 : ng k n = false := by simp [ng, hs]
    have e2 : sz k n = n := by simp [sz, e1]
    rw [e1, e2]; clear e1 e2 hn
    go_enter Tryd.func12, Tryd.ntmps12
    go_wp2_with (go_at_call 24; with_reducible refine (c_rSigned _ _).mono ?_; rintro e w' ⟨rfl, rfl⟩)
    go_returns
    exact ⟨rfl, (Kp.refl w).alloc _ _⟩
end Go.Proofs.YtihchlkoohficaaDoor
