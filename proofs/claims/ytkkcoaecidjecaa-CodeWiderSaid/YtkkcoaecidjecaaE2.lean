/- Which numbers are shapes, which lists, which results; by the program. Condition: the list lies in memory. -/
import Derived.Test.YtkkcoaecidjecaaE0
import Derived.Test.YtkkcoaecidjecaaS0
namespace Go.Proofs.Ytkkcoaecidjecaa
open Go.RowKit
set_option linter.unusedVariables false
set_option linter.unusedSimpArgs false
set_option maxHeartbeats 1000000 in
set_option maxRecDepth 100000 in
theorem c_isPlace (t n : Int) (w : World) : Calls Try.prog 28 #[.int .i64 t, .int .i64 n] w (Tell (plB t n) w) := by
  by_cases h1 : 0 ≤ t
  · by_cases h2 : t < n
    · go_enter Try.func28, Try.ntmps28
      go_wp2_with fail
      go_ret
      exact tell (by simp [plB, h1, h2]) (Kp.refl w)
    · go_enter Try.func28, Try.ntmps28
      go_wp2_with fail
      go_ret
      exact tell (by simp [plB, h1, h2]) (Kp.refl w)
  · go_enter Try.func28, Try.ntmps28
    go_wp2_with fail
    go_ret
    exact tell (by simp [plB]; omega) (Kp.refl w)
set_option maxHeartbeats 1000000 in
set_option maxRecDepth 100000 in
theorem c_isResult (t n : Int) (w : World) : Calls Try.prog 66 #[.int .i64 t, .int .i64 n] w (Tell (resB t n) w) := by
  by_cases h1 : 0 ≤ t
  · by_cases h2 : t ≤ n
    · go_enter Try.func66, Try.ntmps66
      go_wp2_with fail
      go_ret
      exact tell (by simp [resB, h1, h2]) (Kp.refl w)
    · go_enter Try.func66, Try.ntmps66
      go_wp2_with fail
      go_ret
      exact tell (by simp [resB, h1, h2]) (Kp.refl w)
  · go_enter Try.func66, Try.ntmps66
    go_wp2_with fail
    go_ret
    exact tell (by simp [resB]; omega) (Kp.refl w)
set_option maxHeartbeats 1000000 in
set_option maxRecDepth 100000 in
theorem c_areShapes (l : List Int) (n most : Int) (v : Value) (w : World) (hl : IL w A0 l v) :
    Calls Try.prog 65 #[v, .int .i64 n, .int .i64 most] w (Tell (areB l n most) w) := by
  obtain ⟨a1, q1, C1, rfl, _, hby1, _, ht1, hx1⟩ := hl
  have hc1 : l.length ≤ 140737488351232 := by omega
  have HT1 := Lib.hid ht1
  have HX1 := Lib.hid hx1
  clear ht1 hx1 hby1
  by_cases hlen : (l.length : Int) > most
  · have HL := Lib.hid hlen
    go_enter Try.func65, Try.ntmps65
    go_wp2_with fail
    go_ret
    exact tell (by have := HL.out; simp [areB]; omega) (Kp.refl w)
  · have HL := Lib.hid hlen
    go_enter Try.func65, Try.ntmps65
    go_wp2_with fail
    go_loopw [15] (fun i wr => ∃ k : Nat, k ≤ l.length ∧ i = .int .i64 (k : Int) ∧ (∀ (j : Nat) x, j < k → l[j]? = some x → plB x n = true) ∧ Kp w wr) (fun i _ => l.length - (intOf i).toNat)
    case atStart => exact ⟨0, by omega, rfl, fun j x h => by omega, Kp.refl w⟩
    case round =>
      obtain ⟨k, hk, rfl, hall, hkp⟩ := hrel
      have HA := Lib.hid hall
      have HK := Lib.hid hkp
      clear hall hkp
      by_cases hlt : k < l.length
      · obtain ⟨x, hxk⟩ : ∃ x, l[k]? = some x := ⟨_, List.getElem?_eq_getElem hlt⟩
        obtain ⟨b, p, rfl, hr⟩ := (HT1.out.keep HK.out).at (by omega)
        have c0 := hr k hlt 0 (.int .i64 x) (by rw [(HX1.out k x hxk).1]; rfl)
        simp only [Nat.add_zero, Nat.mul_one] at c0
        have i0 := run_index_tab 33 3 Try.underlying33 1 (by kernel_rfl) b p l.length q1 k hlt
        simp only [Nat.mul_one] at i0
        have HXK := Lib.hid hxk
        clear hr hxk
        cases hxy : plB x n with
        | true =>
          have HXY := Lib.hid hxy
          clear hxy
          go_wp2_with (first | (go_at_call 28; (with_reducible refine (c_isPlace x n _).mono ?_); rintro e w2 ⟨rfl, h2⟩; have HK2 := Lib.hid h2; clear h2; rw [HXY.out]))
          go_roundw
          case rel => exact ⟨k + 1, by omega, by go_num, fun j y hj hy => by
            by_cases e : j = k
            · subst e
              have := HXK.out
              rw [hy] at this
              cases this
              exact HXY.out
            · exact HA.out j y (by omega) hy, HK.out.trans HK2.out⟩
          case measure => simp [intOf]; omega
        | false =>
          have HXY := Lib.hid hxy
          clear hxy
          go_wp2_with (first | (go_at_call 28; (with_reducible refine (c_isPlace x n _).mono ?_); rintro e w2 ⟨rfl, h2⟩; have HK2 := Lib.hid h2; clear h2; rw [HXY.out]))
          go_ret
          exact tell (areB_bad HXK.out HXY.out) (HK.out.trans HK2.out)
      · go_wp2_with fail
        go_ret
        exact tell (areB_all (by have := HL.out; omega) (fun j x hj hx => HA.out j x (by omega) hx)) HK.out
end Go.Proofs.Ytkkcoaecidjecaa
