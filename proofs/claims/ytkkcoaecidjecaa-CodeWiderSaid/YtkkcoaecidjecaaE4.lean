/- How many cells a shape has, and its key, by the program. Condition: it lies in memory. -/
import Derived.Test.YtkkcoaecidjecaaE3
import Derived.Laws.Tables
namespace Go.Proofs.Ytkkcoaecidjecaa
open Go.RowKit
set_option linter.unusedVariables false
set_option linter.unusedSimpArgs false
theorem sumC_take (c : List Int) {l : List Int} {k : Nat} {x : Int} (h : l[k]? = some x) : sumC c (l.take (k + 1)) = sumC c (l.take k) + getI c x := by
  rw [take_at h, sumC_append]; simp [sumC]
theorem sum_take_in {c : List Int} {n : Nat} (h : cellsOk c n) {l : List Int} (k : Nat) (hl : l.length ≤ 16) : 0 ≤ sumC c (l.take k) ∧ sumC c (l.take k) ≤ 1024 := by
  have := sumC_in h (l.take k)
  have hle : (l.take k).length ≤ 16 := by rw [List.length_take]; omega
  omega
set_option maxHeartbeats 2000000 in
set_option maxRecDepth 100000 in
theorem c_cellsOf (s : Sh) (c : List Int) (n : Nat) (cv : Value) (cs : List Value) (w : World) (h : LS w A0 s cs) (hc : IL w A0 c cv) (hok : cellsOk c n) (hf : s.k = 8 → areB s.l n 16 = true) :
    Calls Try.prog 64 #[.agg cs.toArray, cv] w (fun e w' => e = .returned (.int .i64 (cellsB s c)) ∧ Kp w w') := by
  obtain ⟨k, l, r⟩ := s
  obtain ⟨V, rfl, hv, hk, hr⟩ := h
  simp only at hv hk hr hf
  have hr0 := heap_alloc_new w (.cells #[.int .i64 k, V, .int .i64 r] 45)
  obtain ⟨c0, c1, c2⟩ := row3 hr0
  have k0 := (Kp.refl w).alloc (.cells #[.int .i64 k, V, .int .i64 r] 45)
  have hv2 := hv.keep goodI k0
  have hc2 := hc.keep goodI k0
  obtain ⟨a1, q1, C1, rfl, _, hby1, _, ht1, hx1⟩ := hv2
  obtain ⟨a2, q2, C2, rfl, _, hby2, _, ht2, hx2⟩ := hc2
  have hc1 : l.length ≤ 140737488351232 := by omega
  have hc3 : c.length ≤ 140737488351232 := by omega
  have HK0 := Lib.hid k0
  have HT1 := Lib.hid ht1
  have HX1 := Lib.hid hx1
  have HT2 := Lib.hid ht2
  have HX2 := Lib.hid hx2
  have HOK := Lib.hid hok
  have HF := Lib.hid hf
  clear hv hc hr0 hk hr hby1 hby2 k0 ht1 hx1 ht2 hx2 hok hf
  by_cases hk8 : k = 8
  · have HF2 := Lib.hid (areB_iff.1 (HF.out hk8))
    have hle : l.length ≤ 16 := by have := HF2.out.1; omega
    subst hk8
    go_enter Try.func64, Try.ntmps64
    go_wp2_with fail
    go_loopw [14, 5] (fun i a wr => ∃ j : Nat, j ≤ l.length ∧ i = .int .i64 (j : Int) ∧ a = .int .i64 (sumC c (l.take j)) ∧ Kp (w.alloc (.cells #[.int .i64 8, .slice a1 l.length q1, .int .i64 r] 45)) wr) (fun i _ _ => l.length - (intOf i).toNat)
    case atStart => exact ⟨0, by omega, rfl, rfl, Kp.refl _⟩
    case round =>
      obtain ⟨j, hj, rfl, rfl, hkp⟩ := hrel
      have HK := Lib.hid hkp
      clear hkp
      have hsum := sum_take_in HOK.out j hle
      by_cases hlt : j < l.length
      · obtain ⟨x, hxk⟩ : ∃ x, l[j]? = some x := ⟨_, List.getElem?_eq_getElem hlt⟩
        have hxin := HF2.out.2 x (List.mem_of_getElem? hxk)
        obtain ⟨t, rfl⟩ : ∃ t : Nat, x = (t : Int) := ⟨x.toNat, by omega⟩
        have htl : t < c.length := by rw [HOK.out.1]; omega
        obtain ⟨y, hyk⟩ : ∃ y, c[t]? = some y := ⟨_, List.getElem?_eq_getElem htl⟩
        have hgy : getI c (t : Int) = y := by simp [getI, hyk]
        have hyin := getI_in HOK.out (t : Int)
        rw [hgy] at hyin
        obtain ⟨b, p, rfl, hr⟩ := (HT1.out.keep HK.out).at (by omega)
        obtain ⟨d, q, rfl, hs⟩ := (HT2.out.keep HK.out).at (by omega)
        have c3 := hr j hlt 0 (.int .i64 (t : Int)) (by rw [(HX1.out j _ hxk).1]; rfl)
        have c4 := hs t htl 0 (.int .i64 y) (by rw [(HX2.out t _ hyk).1]; rfl)
        simp only [Nat.add_zero, Nat.mul_one] at c3 c4
        have i0 := run_index_tab 33 3 Try.underlying33 1 (by kernel_rfl) b p l.length q1 j hlt
        have i1 := run_index_tab 33 3 Try.underlying33 1 (by kernel_rfl) d q c.length q2 t htl
        simp only [Nat.mul_one] at i0 i1
        have HXK := Lib.hid hxk
        have HGY := Lib.hid hgy
        clear hr hs hxk hyk hgy
        go_wp2_with fail
        go_roundw
        case rel => exact ⟨j + 1, by omega, by go_num, by rw [sumC_take c HXK.out, HGY.out], HK.out⟩
        case measure => simp [intOf]; omega
      · go_wp2_with fail
        go_ret
        exact ⟨by rw [show cellsB ⟨8, l, r⟩ c = sumC c l from if_pos rfl, List.take_of_length_le (by omega)]; rfl, HK0.out.trans HK.out⟩
  · have hg : (k != 8) = true := by simp [hk8]
    go_enter Try.func64, Try.ntmps64
    go_wp2_with fail
    go_ret
    exact ⟨by rw [show cellsB ⟨k, l, r⟩ c = 1 from if_neg hk8]; rfl, HK0.out⟩
end Go.Proofs.Ytkkcoaecidjecaa
