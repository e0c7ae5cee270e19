/- The same modules, by the reference. Condition: both lie in memory. -/
import Derived.Test.YtkkcoaecidjecaaS0
import Derived.Test.YtkkcoaecidjecaaW3
namespace Go.Proofs.Ytkkcoaecidjecaa
open Go.RowKit
set_option linter.unusedVariables false
set_option linter.unusedSimpArgs false
theorem range4 {w : World} {b o : Nat} {x y z u : Value} (h : w.rangeAt b o [x, y, z, u]) : w.cell? ⟨b, o, none⟩ = some x ∧ w.cell? ⟨b, o + 1, none⟩ = some y ∧ w.cell? ⟨b, o + 2, none⟩ = some z ∧ w.cell? ⟨b, o + 3, none⟩ = some u := ⟨h 0 _ rfl, h 1 _ rfl, h 2 _ rfl, h 3 _ rfl⟩
theorem range3 {w : World} {b o : Nat} {x y z : Value} (h : w.rangeAt b o [x, y, z]) : w.cell? ⟨b, o, none⟩ = some x ∧ w.cell? ⟨b, o + 1, none⟩ = some y ∧ w.cell? ⟨b, o + 2, none⟩ = some z := ⟨h 0 _ rfl, h 1 _ rfl, h 2 _ rfl⟩
theorem range5 {w : World} {b o : Nat} {x y z u v : Value} (h : w.rangeAt b o [x, y, z, u, v]) : w.cell? ⟨b, o, none⟩ = some x ∧ w.cell? ⟨b, o + 1, none⟩ = some y ∧ w.cell? ⟨b, o + 2, none⟩ = some z ∧ w.cell? ⟨b, o + 3, none⟩ = some u ∧ w.cell? ⟨b, o + 4, none⟩ = some v := ⟨h 0 _ rfl, h 1 _ rfl, h 2 _ rfl, h 3 _ rfl, h 4 _ rfl⟩
set_option maxHeartbeats 1000000 in
set_option maxRecDepth 100000 in
theorem c_SameShape (x y : Sh) (cx cy : List Value) (w : World) (hx : LS w A0 x cx) (hy : LS w A0 y cy) :
    Calls Try.prog 30 #[.agg cx.toArray, .agg cy.toArray] w (Tell (sameSh x y) w) := by
  obtain ⟨Vx, rfl, hvx, _⟩ := hx
  obtain ⟨Vy, rfl, hvy, _⟩ := hy
  have k2 := ((Kp.refl w).alloc (.cells #[.int .i64 x.k, Vx, .int .i64 x.r] 45)).alloc (.cells #[.int .i64 y.k, Vy, .int .i64 y.r] 45)
  have HK0 := Lib.hid k2
  have HVx := Lib.hid (hvx.keep goodI k2)
  have HVy := Lib.hid (hvy.keep goodI k2)
  have r0 := row_keep ((Kp.refl _).alloc (.cells #[.int .i64 y.k, Vy, .int .i64 y.r] 45)) (heap_alloc_new w (.cells #[.int .i64 x.k, Vx, .int .i64 x.r] 45))
  have r1 : ((w.alloc (.cells #[.int .i64 x.k, Vx, .int .i64 x.r] 45)).alloc (.cells #[.int .i64 y.k, Vy, .int .i64 y.r] 45)).heap[w.heap.size + 1]? = some (.cells #[.int .i64 y.k, Vy, .int .i64 y.r] 45 (0, 0)) := by simpa using heap_alloc_new (w.alloc (.cells #[.int .i64 x.k, Vx, .int .i64 x.r] 45)) (.cells #[.int .i64 y.k, Vy, .int .i64 y.r] 45)
  have HR0 := Lib.hid r0
  have HR1 := Lib.hid r1
  clear k2 hvx hvy r0 r1
  obtain ⟨p0, p1, p2⟩ := row3 HR0.out
  obtain ⟨q0, q1, q2⟩ := row3 HR1.out
  cases g0 : (x.k == y.k) with
  | false =>
    go_enter Try.func30, Try.ntmps30
    go_wp2_with fail
    go_ret
    exact tell (by simp [sameSh, g0]) HK0.out
  | true =>
    cases g1 : (x.r == y.r) with
    | false =>
      go_enter Try.func30, Try.ntmps30
      go_wp2_with fail
      go_ret
      exact tell (by simp [sameSh, g0, g1]) HK0.out
    | true =>
      cases s1 : sameL eqI x.l y.l with
      | false =>
        have HG1 := Lib.hid s1
        clear s1
        go_enter Try.func30, Try.ntmps30
        go_wp2_with (first | (go_at_call 22; (with_reducible refine (c_SameInts x.l y.l _ _ _ HVx.out HVy.out).mono ?_); rintro e w1 ⟨rfl, h1⟩; have HT1 := Lib.hid (h1); have HK1 := Lib.hid h1; clear h1; obtain ⟨p0, p1, p2⟩ := row3 (row_keep HT1.out HR0.out); obtain ⟨q0, q1, q2⟩ := row3 (row_keep HT1.out HR1.out); rw [HG1.out]))
        go_ret
        exact tell (by simp [sameSh, g0, g1, HG1.out]) (HK0.out.trans HT1.out)
      | true =>
        have HG1 := Lib.hid s1
        clear s1
        go_enter Try.func30, Try.ntmps30
        go_wp2_with (first | (go_at_call 22; (with_reducible refine (c_SameInts x.l y.l _ _ _ HVx.out HVy.out).mono ?_); rintro e w1 ⟨rfl, h1⟩; have HT1 := Lib.hid (h1); have HK1 := Lib.hid h1; clear h1; obtain ⟨p0, p1, p2⟩ := row3 (row_keep HT1.out HR0.out); obtain ⟨q0, q1, q2⟩ := row3 (row_keep HT1.out HR1.out); rw [HG1.out]))
        go_ret
        exact tell (by simp [sameSh, g0, g1, HG1.out]) (HK0.out.trans HT1.out)
set_option maxHeartbeats 1000000 in
set_option maxRecDepth 100000 in
theorem c_SameInstr (x y : Ins) (cx cy : List Value) (w : World) (hx : LN w A0 x cx) (hy : LN w A0 y cy) :
    Calls Try.prog 35 #[.agg cx.toArray, .agg cy.toArray] w (Tell (sameIns x y) w) := by
  obtain ⟨_, rfl, ⟨a1, n1, C1, rfl, _, hby1, _, ht1, hx1⟩, _⟩ := hx
  obtain ⟨_, rfl, ⟨a2, n2, C2, rfl, _, hby2, _, ht2, hx2⟩, _⟩ := hy
  have hc1 : x.cs.length ≤ 140737488351232 := by omega
  have hc2 : y.cs.length ≤ 140737488351232 := by omega
  have k2 := ((Kp.refl w).alloc (.cells #[.int .i64 x.o, .int .i64 x.a, .int .i64 x.b, .int .u64 x.n, .slice a1 x.cs.length n1] 58)).alloc (.cells #[.int .i64 y.o, .int .i64 y.a, .int .i64 y.b, .int .u64 y.n, .slice a2 y.cs.length n2] 58)
  have HK0 := Lib.hid k2
  have r0 := row_keep ((Kp.refl _).alloc (.cells #[.int .i64 y.o, .int .i64 y.a, .int .i64 y.b, .int .u64 y.n, .slice a2 y.cs.length n2] 58)) (heap_alloc_new w (.cells #[.int .i64 x.o, .int .i64 x.a, .int .i64 x.b, .int .u64 x.n, .slice a1 x.cs.length n1] 58))
  have r1 : ((w.alloc (.cells #[.int .i64 x.o, .int .i64 x.a, .int .i64 x.b, .int .u64 x.n, .slice a1 x.cs.length n1] 58)).alloc (.cells #[.int .i64 y.o, .int .i64 y.a, .int .i64 y.b, .int .u64 y.n, .slice a2 y.cs.length n2] 58)).heap[w.heap.size + 1]? = some (.cells #[.int .i64 y.o, .int .i64 y.a, .int .i64 y.b, .int .u64 y.n, .slice a2 y.cs.length n2] 58 (0, 0)) := by simpa using heap_alloc_new (w.alloc (.cells #[.int .i64 x.o, .int .i64 x.a, .int .i64 x.b, .int .u64 x.n, .slice a1 x.cs.length n1] 58)) (.cells #[.int .i64 y.o, .int .i64 y.a, .int .i64 y.b, .int .u64 y.n, .slice a2 y.cs.length n2] 58)
  have HR0 := Lib.hid r0
  have HR1 := Lib.hid r1
  have HT1 := Lib.hid ht1
  have HX1 := Lib.hid hx1
  have HT2 := Lib.hid ht2
  have HX2 := Lib.hid hx2
  clear k2 r0 r1 ht1 hx1 ht2 hx2 hby1 hby2
  obtain ⟨p0, p1, p2, p3, p4⟩ := row5 HR0.out
  obtain ⟨q0, q1, q2, q3, q4⟩ := row5 HR1.out
  cases g0 : (x.o == y.o) with
  | false =>
    have e0 : (x.o != y.o) = true := by simpa using g0
    go_enter Try.func35, Try.ntmps35
    go_wp2_with fail
    go_ret
    exact tell (by simp [sameIns, g0]) HK0.out
  | true =>
    have e0 : (x.o != y.o) = false := by simpa using g0
    cases g1 : (x.a == y.a) with
    | false =>
      have e1 : (x.a != y.a) = true := by simpa using g1
      go_enter Try.func35, Try.ntmps35
      go_wp2_with fail
      go_ret
      exact tell (by simp [sameIns, g0, g1]) HK0.out
    | true =>
      have e1 : (x.a != y.a) = false := by simpa using g1
      cases g2 : (x.b == y.b) with
      | false =>
        have e2 : (x.b != y.b) = true := by simpa using g2
        go_enter Try.func35, Try.ntmps35
        go_wp2_with fail
        go_ret
        exact tell (by simp [sameIns, g0, g1, g2]) HK0.out
      | true =>
        have e2 : (x.b != y.b) = false := by simpa using g2
        cases g3 : (x.n == y.n) with
        | false =>
          have e3 : (x.n != y.n) = true := by simpa using g3
          go_enter Try.func35, Try.ntmps35
          go_wp2_with fail
          go_ret
          exact tell (by simp [sameIns, g0, g1, g2, g3]) HK0.out
        | true =>
          have e3 : (x.n != y.n) = false := by simpa using g3
          by_cases hlen : x.cs.length = y.cs.length
          · have HL := Lib.hid hlen
            have hd : ((x.cs.length : Int) != (y.cs.length : Int)) = false := by simp [hlen]
            clear hlen
            go_enter Try.func35, Try.ntmps35
            go_wp2_with fail
            go_loopw [5] (fun i wr => ∃ k : Nat, k ≤ x.cs.length ∧ i = .int .i64 (k : Int) ∧ (∀ j z u, j < k → x.cs[j]? = some z → y.cs[j]? = some u → sameCs z u = true) ∧ Kp ((w.alloc (.cells #[.int .i64 x.o, .int .i64 x.a, .int .i64 x.b, .int .u64 x.n, .slice a1 x.cs.length n1] 58)).alloc (.cells #[.int .i64 y.o, .int .i64 y.a, .int .i64 y.b, .int .u64 y.n, .slice a2 y.cs.length n2] 58)) wr) (fun i _ => x.cs.length - (intOf i).toNat)
            case atStart => exact ⟨0, by omega, rfl, fun j x y h => by omega, Kp.refl _⟩
            case round =>
              obtain ⟨k, hk, rfl, hall, hkp⟩ := hrel
              have HA := Lib.hid hall
              have HK := Lib.hid hkp
              clear hall hkp p0 p1 p2 p3 p4 q0 q1 q2 q3 q4
              obtain ⟨p0, p1, p2, p3, p4⟩ := row5 (row_keep HK.out HR0.out)
              obtain ⟨q0, q1, q2, q3, q4⟩ := row5 (row_keep HK.out HR1.out)
              by_cases hlt : k < x.cs.length
              · have hlt2 : k < y.cs.length := by have := HL.out; omega
                obtain ⟨z, hzk⟩ : ∃ z, x.cs[k]? = some z := ⟨_, List.getElem?_eq_getElem hlt⟩
                obtain ⟨u, huk⟩ : ∃ u, y.cs[k]? = some u := ⟨_, List.getElem?_eq_getElem hlt2⟩
                obtain ⟨b, p, rfl, hr⟩ := (HT1.out.keep (HK0.out.trans HK.out)).at (by omega)
                obtain ⟨c, q, rfl, hs⟩ := (HT2.out.keep (HK0.out.trans HK.out)).at (by omega)
                have hrx := hr k hlt
                have hry := hs k hlt2
                rw [(HX1.out k z hzk).1] at hrx
                rw [(HX2.out k u huk).1] at hry
                obtain ⟨d0, d1, d2, d3⟩ := range4 hrx
                obtain ⟨f0, f1, f2, f3⟩ := range4 hry
                have i0 := run_index_tab 56 60 Try.underlying56 4 (by kernel_rfl) b p x.cs.length n1 k hlt
                have i1 := run_index_tab 56 60 Try.underlying56 4 (by kernel_rfl) c q y.cs.length n2 k hlt2
                have HXK := Lib.hid hzk
                have HYK := Lib.hid huk
                clear hr hs hrx hry hzk huk
                by_cases h0 : z.s = u.s
                rotate_left
                · go_wp2_with fail
                  go_quiet (fail)
                  go_wp2_with fail
                  go_ret
                  exact tell (by simp [sameIns, g0, g1, g2, g3, sameL_bad HXK.out HYK.out (show sameCs z u = false by simp [sameCs, h0])]) ((HK0.out.trans HK.out).drewN _)
                by_cases h1 : z.c = u.c
                rotate_left
                · go_wp2_with fail
                  go_quiet (fail)
                  go_wp2_with fail
                  go_ret
                  exact tell (by simp [sameIns, g0, g1, g2, g3, sameL_bad HXK.out HYK.out (show sameCs z u = false by simp [sameCs, h0, h1])]) ((HK0.out.trans HK.out).drewN _)
                by_cases h2 : z.v = u.v
                rotate_left
                · go_wp2_with fail
                  go_quiet (fail)
                  go_wp2_with fail
                  go_ret
                  exact tell (by simp [sameIns, g0, g1, g2, g3, sameL_bad HXK.out HYK.out (show sameCs z u = false by simp [sameCs, h0, h1, h2])]) ((HK0.out.trans HK.out).drewN _)
                by_cases h3 : z.t = u.t
                rotate_left
                · go_wp2_with fail
                  go_quiet (fail)
                  go_wp2_with fail
                  go_ret
                  exact tell (by simp [sameIns, g0, g1, g2, g3, sameL_bad HXK.out HYK.out (show sameCs z u = false by simp [sameCs, h0, h1, h2, h3])]) ((HK0.out.trans HK.out).drewN _)
                go_wp2_with fail
                go_quiet (fail)
                go_wp2_with fail
                go_roundw
                case rel => exact ⟨k + 1, by omega, by go_num, all_next HA.out HXK.out HYK.out (show sameCs z u = true by simp [sameCs, h0, h1, h2, h3]), HK.out.drewN _⟩
                case measure => simp [intOf]; omega
              · go_wp2_with fail
                go_ret
                exact tell (by simp [sameIns, g0, g1, g2, g3, sameL_all HL.out (fun i x y hx hy => HA.out i x y (by have := (List.getElem?_eq_some_iff.1 hx).1; omega) hx hy)]) (HK0.out.trans HK.out)
          · have HL := Lib.hid hlen
            have hd : ((x.cs.length : Int) != (y.cs.length : Int)) = true := by simp; omega
            clear hlen
            go_enter Try.func35, Try.ntmps35
            go_wp2_with fail
            go_ret
            exact tell (by simp [sameIns, g0, g1, g2, g3, sameL_len HL.out]) HK0.out
end Go.Proofs.Ytkkcoaecidjecaa
