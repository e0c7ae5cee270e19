/- The same numbers, by the program and by the reference. Condition: the lists lie in memory. -/
import Derived.Test.YtkkcoaecidjecaaW0
import Derived.Deep.QuietTactic
namespace Go.Proofs.Ytkkcoaecidjecaa
open Go.RowKit
set_option linter.unusedVariables false
set_option linter.unusedSimpArgs false
theorem Kp.drewN' {a w : World} (h : Kp a w) (n : Nat) : Kp a (w.drewN n) := h.drewN n
theorem run_index_tab (t e : TypeId) (ht : Try.prog.underlying t = some (.slice e)) (m : Nat) (hm : (Try.prog.info? e).map (·.size) = some m) (b o n c j : Nat) (hj : j < n) (w : World) :
    (Instr.indexAt t (.slice (some ⟨b, o, none⟩) n c) (.int .i64 (j : Int))).run Try.prog w = .ok (.pointer (some ⟨b, o + j * m, none⟩)) w := by
  obtain ⟨ii, hii, hs⟩ := Option.map_eq_some_iff.1 hm
  have hlt : (j : Int) < (n : Int) := by omega
  have he : Try.prog.elem t = e := by simp [Program.elem, ht]
  rw [run_indexAt_slice w t _ n c .i64 j (by rw [he]; exact ht), if_pos ⟨by omega, hlt⟩, he]
  simp [sizeOf, typeInfo, hii, hs, Result.andThen, Addr.add_mid]
/-- The test whether two are the same: what it answers, and that nothing turns. -/
def Tell (b : Bool) (w : World) (e : Ending) (w' : World) : Prop := e = .returned (.bool b) ∧ Kp w w'
theorem tell {b c : Bool} {w w' : World} (h : b = c) (hk : Kp w w') : Tell b w (.returned (.bool c)) w' := ⟨by rw [h], hk⟩
theorem all_next {α : Type} {f : α → α → Bool} {l m : List α} {k : Nat} {x y : α} (h : ∀ j x y, j < k → l[j]? = some x → m[j]? = some y → f x y = true) (hx : l[k]? = some x) (hy : m[k]? = some y) (hxy : f x y = true) : ∀ j x y, j < k + 1 → l[j]? = some x → m[j]? = some y → f x y = true := by
  intro j a b hj ha hb
  by_cases e : j = k
  · subst e
    rw [hx] at ha; rw [hy] at hb
    cases ha; cases hb; exact hxy
  · exact h j a b (by omega) ha hb
set_option maxHeartbeats 1000000 in
set_option maxRecDepth 100000 in
theorem c_SameInts (l m : List Int) (v u : Value) (w : World) (hl : IL w A0 l v) (hm : IL w A0 m u) :
    Calls Try.prog 22 #[v, u] w (Tell (sameL eqI l m) w) := by
  obtain ⟨a1, q1, C1, rfl, _, hby1, _, ht1, hx1⟩ := hl
  obtain ⟨a2, q2, C2, rfl, _, hby2, _, ht2, hx2⟩ := hm
  have hc1 : l.length ≤ 140737488351232 := by omega
  have hc2 : m.length ≤ 140737488351232 := by omega
  have HT1 := Lib.hid ht1
  have HX1 := Lib.hid hx1
  have HT2 := Lib.hid ht2
  have HX2 := Lib.hid hx2
  clear ht1 hx1 ht2 hx2 hby1 hby2
  by_cases hlen : l.length = m.length
  · have HL := Lib.hid hlen
    have hd : ((l.length : Int) != (m.length : Int)) = false := by simp [hlen]
    clear hlen
    go_enter Try.func22, Try.ntmps22
    go_wp2_with fail
    go_loopw [5] (fun i wr => ∃ k : Nat, k ≤ l.length ∧ i = .int .i64 (k : Int) ∧ (∀ j x y, j < k → l[j]? = some x → m[j]? = some y → eqI x y = true) ∧ Kp w wr) (fun i _ => l.length - (intOf i).toNat)
    case atStart => exact ⟨0, by omega, rfl, fun j x y h => by omega, Kp.refl w⟩
    case round =>
      obtain ⟨k, hk, rfl, hall, hkp⟩ := hrel
      have HA := Lib.hid hall
      have HK := Lib.hid hkp
      clear hall hkp
      by_cases hlt : k < l.length
      · have hlt2 : k < m.length := by have := HL.out; omega
        obtain ⟨x, hxk⟩ : ∃ x, l[k]? = some x := ⟨_, List.getElem?_eq_getElem hlt⟩
        obtain ⟨y, hyk⟩ : ∃ y, m[k]? = some y := ⟨_, List.getElem?_eq_getElem hlt2⟩
        obtain ⟨b, p, rfl, hr⟩ := (HT1.out.keep HK.out).at (by omega)
        obtain ⟨c, q, rfl, hs⟩ := (HT2.out.keep HK.out).at (by omega)
        have c0 := hr k hlt 0 (.int .i64 x) (by rw [(HX1.out k x hxk).1]; rfl)
        have c1 := hs k hlt2 0 (.int .i64 y) (by rw [(HX2.out k y hyk).1]; rfl)
        simp only [Nat.add_zero, Nat.mul_one] at c0 c1
        have i0 := run_index_tab 33 3 Try.underlying33 1 (by kernel_rfl) b p l.length q1 k hlt
        have i1 := run_index_tab 33 3 Try.underlying33 1 (by kernel_rfl) c q m.length q2 k hlt2
        simp only [Nat.mul_one] at i0 i1
        have HXK := Lib.hid hxk
        have HYK := Lib.hid hyk
        clear hr hs hxk hyk
        cases hxy : eqI x y with
        | true =>
          have hd2 : (x != y) = false := by simpa [eqI] using hxy
          have HXY := Lib.hid hxy
          clear hxy
          go_wp2_with fail
          go_quiet (fail)
          go_wp2_with fail
          go_roundw
          case rel => exact ⟨k + 1, by omega, by go_num, all_next HA.out HXK.out HYK.out HXY.out, HK.out.drewN _⟩
          case measure => simp [intOf]; omega
        | false =>
          have hd2 : (x != y) = true := by simpa [eqI] using hxy
          have HXY := Lib.hid hxy
          clear hxy
          go_wp2_with fail
          go_quiet (fail)
          go_wp2_with fail
          go_ret
          exact tell (sameL_bad HXK.out HYK.out HXY.out) (HK.out.drewN _)
      · go_wp2_with fail
        go_ret
        exact tell (sameL_all HL.out (fun i x y hx hy => HA.out i x y (by have := (List.getElem?_eq_some_iff.1 hx).1; omega) hx hy)) HK.out
  · have HL := Lib.hid hlen
    have hd : ((l.length : Int) != (m.length : Int)) = true := by simp; omega
    clear hlen
    go_enter Try.func22, Try.ntmps22
    go_wp2_with fail
    go_ret
    exact tell (sameL_len HL.out) (Kp.refl w)
end Go.Proofs.Ytkkcoaecidjecaa
