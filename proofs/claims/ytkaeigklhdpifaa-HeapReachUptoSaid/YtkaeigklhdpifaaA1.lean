/- A cell of an object, and what only looks at a heap. Condition: the heap lies in memory. -/
import Derived.Test.YtkaeigklhdpifaaL1
import Derived.Laws.Bits64
namespace Go.Proofs.Ytkaeigklhdpifaa
open Go.RowKit Go.Maps Go.Sort
set_option linter.unusedVariables false
set_option linter.unusedSimpArgs false
/-- Where the cell is that cell answers. -/
structure CellV (w : World) (N : Nat → Prop) (p bud : Nat) (S : Hs) (o i : Int) (v : Value) : Prop where
  yes : ∀ c, cellP S o i = c → c.2.2 = 0 → ∃ g, v = .pointer (some ⟨g, i.toNat * 2, none⟩) ∧ w.cell? ⟨g, i.toNat * 2, none⟩ = some (.int .u64 c.1) ∧ w.cell? ⟨g, i.toNat * 2 + 1, none⟩ = some (.bool c.2.1) ∧ (∀ j, w.frozen? ⟨g, j, none⟩ = false) ∧ g < w.heap.size ∧ N g ∧ g ≠ p ∧ ∀ n, HP (w.setCell ⟨g, i.toNat * 2, none⟩ (.int .u64 n)) N p bud (setC S o i.toNat n)
theorem cellP_none {S : Hs} {o i : Int} (h : getN S o = none) : cellP S o i = (0, false, 15) := by unfold cellP; rw [h]
theorem cellP_out {S : Hs} {o i : Int} {b : Ob} (h : getN S o = some b) (hi : i < 0 ∨ (b.cs.length : Int) ≤ i) : cellP S o i = (0, false, 16) := by
  unfold cellP
  rw [h]
  dsimp only
  split
  · have : b.cs[i.toNat]? = none := List.getElem?_eq_none (by omega)
    rw [this]
  · rfl
theorem cellP_in {S : Hs} {o i : Int} {b : Ob} {d : Int × Bool} (h : getN S o = some b) (hi : 0 ≤ i) (hd : b.cs[i.toNat]? = some d) : cellP S o i = (d.1, d.2, 0) := by
  unfold cellP
  rw [h]
  dsimp only
  rw [if_pos hi, hd]
set_option maxHeartbeats 1000000 in
set_option maxRecDepth 100000 in
theorem c_cell {N : Nat → Prop} {p bud : Nat} {S : Hs} (o i : Int) (w : World) (h : HP w N p bud S) (ok : Ok S bud) (ho : i64 o) (hi : i64 i) :
    Calls Try.prog 45 #[.pointer (some ⟨p, 0, none⟩), .int .i64 o, .int .i64 i] w fun e w' => ∃ v, e = .returned (.tuple #[v, .int .i64 (cellP S o i).2.2]) ∧ CellV w N p bud S o i v ∧ w' = w := by
  have HH := Lib.hid h
  have HK := Lib.hid ok
  clear h ok
  go_enter Try.func45, Try.ntmps45
  cases hg : getN S o with
  | none =>
    have hE := Lib.hid (cellP_none (i := i) hg)
    have hN := Lib.hid (getN_none.1 hg)
    clear hg
    go_wp2_with (go_at_call 44; (with_reducible refine (c_object o w HH.out HK.out ho).mono ?_); rintro e w' ⟨v, rfl, hv, rfl⟩; rw [hN.out]; unfold has15; have HV := Lib.hid hv; clear hv)
    go_ret2
    exact ⟨_, by rw [hE.out]; rfl, ⟨fun c hc h0 => by rw [hE.out] at hc; subst hc; simp at h0⟩, rfl⟩
  | some b =>
    have hN := Lib.hid (hasN_iff.2 ⟨b, (getN_some hg).1, (getN_some hg).2⟩)
    have hl : (b.cs.length : Int) ≤ 65536 := by
      have := used_mem (getN_some hg).1
      have := HK.out.fit
      have := HK.out.bud
      omega
    have hG := Lib.hid hg
    clear hg
    by_cases hin : 0 ≤ i ∧ i < (b.cs.length : Int)
    · obtain ⟨i0, i1⟩ := hin
      obtain ⟨n, rfl⟩ := Int.eq_ofNat_of_zero_le i0
      have hn : n < b.cs.length := by omega
      obtain ⟨d, hd⟩ : ∃ d, b.cs[n]? = some d := ⟨_, List.getElem?_eq_getElem hn⟩
      have hE := Lib.hid (cellP_in hG.out i0 (by simpa using hd))
      have HD := Lib.hid hd
      clear hd
      go_wp2_with (first | (go_at_call 44; (with_reducible refine (c_object o w HH.out HK.out ho).mono ?_); rintro e w' ⟨v, rfl, hv, rfl⟩; rw [hN.out]; unfold has15; obtain ⟨hv1, hv2, hv3⟩ := hv.yes b hG.out; obtain ⟨g, cap, rfl, e1, e2, e3, e4, e5⟩ := hv1.at HD.out; have HE1 := Lib.hid e1; have HE2 := Lib.hid e2; have HE3 := Lib.hid e3; have HE5 := Lib.hid (hv2 g e5); have HE6 := Lib.hid (fun m => hv3 g n m e5 hn); clear hv hv1 hv2 hv3 e1 e2 e3 e5) | ((with_reducible show wpList _ _ _ (⟨some 31, _, _, _, _, _⟩ :: _) _ _); refine wpList_index_tab (d := 31) _ _ _ rfl 75 Try.underlying72 2 rfl _ _ _ _ 0 (by rfl) rfl n (by rfl) hn ?_; rw [Nat.zero_add]))
      go_ret2
      refine ⟨_, by rw [hE.out]; rfl, ⟨fun c hc h0 => ?_⟩, rfl⟩
      rw [hE.out] at hc
      subst hc
      exact ⟨g, by simp, by simpa using HE1.out, by simpa using HE2.out, HE3.out, e4, HE5.out.1, HE5.out.2, fun m => by simpa using HE6.out m⟩
    · have hE := Lib.hid (cellP_out hG.out (i := i) (by omega))
      by_cases h0 : i < 0
      · go_wp2_with (first | (go_at_call 44; (with_reducible refine (c_object o w HH.out HK.out ho).mono ?_); rintro e w' ⟨v, rfl, hv, rfl⟩; rw [hN.out]; unfold has15; obtain ⟨a, cap, rfl⟩ := (hv.yes b hG.out).1.slice; clear hv))
        go_ret2
        exact ⟨_, by rw [hE.out]; rfl, ⟨fun c hc h0 => by rw [hE.out] at hc; subst hc; simp at h0⟩, rfl⟩
      · go_wp2_with (first | (go_at_call 44; (with_reducible refine (c_object o w HH.out HK.out ho).mono ?_); rintro e w' ⟨v, rfl, hv, rfl⟩; rw [hN.out]; unfold has15; obtain ⟨a, cap, rfl⟩ := (hv.yes b hG.out).1.slice; clear hv))
        go_ret2
        exact ⟨_, by rw [hE.out]; rfl, ⟨fun c hc h0 => by rw [hE.out] at hc; subst hc; simp at h0⟩, rfl⟩
set_option maxHeartbeats 1000000 in
set_option maxRecDepth 100000 in
theorem c_Get {N : Nat → Prop} {p bud : Nat} {S : Hs} (o i : Int) (w : World) (h : HP w N p bud S) (ok : Ok S bud) (ho : i64 o) (hi : i64 i) :
    Calls Try.prog 22 #[.pointer (some ⟨p, 0, none⟩), .int .i64 o, .int .i64 i] w fun e w' => e = .returned (.tuple #[.int .u64 (cellP S o i).1, .bool (cellP S o i).2.1, .int .i64 (cellP S o i).2.2]) ∧ Kp w w' := by
  have HH := Lib.hid h
  have HK := Lib.hid ok
  clear h ok
  go_enter Try.func22, Try.ntmps22
  obtain ⟨⟨x, r, e⟩, hc⟩ : ∃ c, cellP S o i = c := ⟨_, rfl⟩
  have HC := Lib.hid hc
  by_cases he : e = 0
  · subst he
    clear hc
    go_wp2_with (go_at_call 45; (with_reducible refine (c_cell o i w HH.out HK.out ho hi).mono ?_); rintro e w' ⟨v, rfl, hv, rfl⟩; rw [HC.out]; obtain ⟨g, rfl, e1, e2, _, e4, _⟩ := hv.yes _ HC.out rfl; clear hv; dsimp only at e1 e2)
    go_region_held3 (fun w' : World => w'.cell? ⟨g, i.toNat * 2, none⟩ = some (.int .u64 x) ∧ w'.cell? ⟨g, i.toNat * 2 + 1, none⟩ = some (.bool r)) (exact ⟨e1, e2⟩) (fail)
    go_wp2_with fail
    go_ret3
    exact ⟨by rw [HC.out]; rfl, (Kp.refl _).drew⟩
  · have hx : x = 0 ∧ r = false := by
      unfold cellP at hc
      split at hc
      · simp at hc; exact ⟨hc.1.symm, hc.2.1⟩
      · split at hc
        · split at hc
          · simp at hc; exact absurd hc.2.2.symm he
          · simp at hc; exact ⟨hc.1.symm, hc.2.1⟩
        · simp at hc; exact ⟨hc.1.symm, hc.2.1⟩
    obtain ⟨rfl, rfl⟩ := hx
    clear hc
    go_wp2_with (go_at_call 45; (with_reducible refine (c_cell o i w HH.out HK.out ho hi).mono ?_); rintro e w' ⟨v, rfl, hv, rfl⟩; rw [HC.out]; clear hv)
    go_ret3
    exact ⟨by rw [HC.out]; rfl, Kp.refl _⟩
set_option maxHeartbeats 1000000 in
set_option maxRecDepth 100000 in
theorem c_GetN (o i : Int) (w : World) : Calls Try.prog 22 #[.pointer none, .int .i64 o, .int .i64 i] w fun e w' => e = .returned (.tuple #[.int .u64 0, .bool false, .int .i64 2]) ∧ w' = w := by
  have hc : Calls Try.prog 45 #[.pointer none, .int .i64 o, .int .i64 i] w fun e w' => e = .returned (.tuple #[.pointer none, .int .i64 2]) ∧ w' = w := by
    go_enter Try.func45, Try.ntmps45
    go_wp2_with (go_at_call 44; (with_reducible refine (c_objectN o w).mono ?_); rintro e w' ⟨rfl, rfl⟩)
    go_ret2
    exact ⟨rfl, rfl⟩
  go_enter Try.func22, Try.ntmps22
  go_wp2_with (go_at_call 45; (with_reducible refine hc.mono ?_); rintro e w' ⟨rfl, rfl⟩)
  go_ret3
  exact ⟨rfl, rfl⟩
set_option maxHeartbeats 1000000 in
set_option maxRecDepth 100000 in
theorem c_SetN (o i n : Int) (w : World) : Calls Try.prog 28 #[.pointer none, .int .i64 o, .int .i64 i, .int .u64 n] w fun e w' => e = .returned (.int .i64 2) ∧ w' = w := by
  have hc : Calls Try.prog 45 #[.pointer none, .int .i64 o, .int .i64 i] w fun e w' => e = .returned (.tuple #[.pointer none, .int .i64 2]) ∧ w' = w := by
    go_enter Try.func45, Try.ntmps45
    go_wp2_with (go_at_call 44; (with_reducible refine (c_objectN o w).mono ?_); rintro e w' ⟨rfl, rfl⟩)
    go_ret2
    exact ⟨rfl, rfl⟩
  go_enter Try.func28, Try.ntmps28
  go_wp2_with (go_at_call 45; (with_reducible refine hc.mono ?_); rintro e w' ⟨rfl, rfl⟩)
  go_ret
  exact ⟨rfl, rfl⟩
set_option maxHeartbeats 1000000 in
set_option maxRecDepth 100000 in
theorem c_LenN (o : Int) (w : World) : Calls Try.prog 21 #[.pointer none, .int .i64 o] w fun e w' => e = .returned (.tuple #[.int .i64 0, .int .i64 2]) ∧ w' = w := by
  go_enter Try.func21, Try.ntmps21
  go_wp2_with (go_at_call 44; (with_reducible refine (c_objectN o w).mono ?_); rintro e w' ⟨rfl, rfl⟩)
  go_ret2
  exact ⟨rfl, rfl⟩
def lenP (S : Hs) (o : Int) : Int := match getN S o with
  | some b => b.cs.length
  | none => 0
set_option maxHeartbeats 1000000 in
set_option maxRecDepth 100000 in
theorem c_Len {N : Nat → Prop} {p bud : Nat} {S : Hs} (o : Int) (w : World) (h : HP w N p bud S) (ok : Ok S bud) (ho : i64 o) :
    Calls Try.prog 21 #[.pointer (some ⟨p, 0, none⟩), .int .i64 o] w fun e w' => e = .returned (.tuple #[.int .i64 (lenP S o), .int .i64 (has15 (hasN S o))]) ∧ w' = w := by
  have HH := Lib.hid h
  have HK := Lib.hid ok
  clear h ok
  go_enter Try.func21, Try.ntmps21
  cases hg : getN S o with
  | none =>
    have hG := Lib.hid hg
    clear hg
    go_wp2_with (go_at_call 44; (with_reducible refine (c_object o w HH.out HK.out ho).mono ?_); rintro e w' ⟨v, rfl, hv, rfl⟩; obtain rfl := hv.no hG.out)
    go_ret2
    exact ⟨by unfold lenP; rw [hG.out]; rfl, rfl⟩
  | some b =>
    have hG := Lib.hid hg
    clear hg
    go_wp2_with (go_at_call 44; (with_reducible refine (c_object o w HH.out HK.out ho).mono ?_); rintro e w' ⟨v, rfl, hv, rfl⟩; obtain ⟨a, cap, rfl⟩ := (hv.yes b hG.out).1.slice; clear hv)
    go_ret2
    exact ⟨by unfold lenP; rw [hG.out]; rfl, rfl⟩
set_option maxHeartbeats 1000000 in
set_option maxRecDepth 100000 in
theorem c_Used {N : Nat → Prop} {p bud : Nat} {S : Hs} (w : World) (h : HP w N p bud S) :
    Calls Try.prog 29 #[.pointer (some ⟨p, 0, none⟩)] w fun e w' => e = .returned (.int .i64 (used S : Int)) ∧ w' = w := by
  obtain ⟨np, lt, tk, mb, D, F, h1, _⟩ := h
  obtain ⟨c0, c1, c2, c3⟩ := row4 h1
  have hz : p < w.heap.size := lt p np
  clear h1 lt np
  go_enter Try.func29, Try.ntmps29
  go_wp2_with fail
  go_ret
  exact ⟨rfl, rfl⟩
theorem c_UsedN (w : World) : Calls Try.prog 29 #[.pointer none] w fun e w' => e = .returned (.int .i64 0) ∧ w' = w := by
  go_enter Try.func29, Try.ntmps29
  go_wp2_with fail
  go_ret
  exact ⟨rfl, rfl⟩
theorem u64_any (r : Int) : 0 ≤ IntKind.wrap .u64 r ∧ IntKind.wrap .u64 r ≤ 18446744073709551615 := by rw [IntKind.wrap_u64]; omega
theorem wrap_has {S : Hs} {bud : Nat} (ok : Ok S bud) {r : Int} (h : i64 r) : hasN S (IntKind.wrap .u64 r) = hasN S r := by
  unfold i64 at h
  by_cases hneg : r < 0
  · rw [ok.neg (k := r) (by omega), ok.small]
    rw [IntKind.wrap_u64]; omega
  · rw [show IntKind.wrap .u64 r = r by rw [IntKind.wrap_u64]; omega]
set_option maxHeartbeats 1000000 in
set_option maxRecDepth 100000 in
theorem c_areRoots {N : Nat → Prop} {p bud : Nat} {S : Hs} (l : List Int) (v : Value) (B : Sel) (w : World) (h : HP w N p bud S) (ok : Ok S bud) (hl : IL w B l v) :
    Calls Try.prog 38 #[.pointer (some ⟨p, 0, none⟩), v] w fun e w' => e = .returned (.bool (knownR S l)) ∧ w' = w := by
  obtain ⟨ad, c, C, rfl, hlc, hby, hC, htab, hx⟩ := hl
  have HH := Lib.hid h
  have HK := Lib.hid ok
  have HT := Lib.hid htab
  have HX := Lib.hid hx
  clear h ok htab hx hC
  go_enter Try.func38, Try.ntmps38
  go_wp2_with fail
  go_loopw [9] (fun i wr => ∃ k : Nat, k ≤ l.length ∧ i = .int .i64 (k : Int) ∧ wr = w ∧ Hid (knownR S (l.take k) = true)) (fun i _ => l.length - (intOf i).toNat)
  case atStart => exact ⟨0, by omega, rfl, rfl, Lib.hid rfl⟩
  case round =>
    obtain ⟨k, hk, rfl, hw, hkn⟩ := hrel
    subst hw
    by_cases hlt : k < l.length
    · obtain ⟨r, hr⟩ : ∃ r, l[k]? = some r := ⟨_, List.getElem?_eq_getElem hlt⟩
      obtain ⟨hcr, hir⟩ := HX.out k r hr
      obtain ⟨b, q, rfl, hrg⟩ := HT.out.at (by omega)
      have hrk := hrg k hlt
      rw [hcr] at hrk
      have e0 : wr.cell? ⟨b, q + k * 1, none⟩ = some (.int .i64 r) := rangeAt_head hrk
      rw [Nat.mul_one] at e0
      have ez := lt_of_cell e0
      dsimp only at ez
      have HR := Lib.hid hr
      have HIR := Lib.hid hir
      clear hrk hrg hcr hr hir
      have hst : knownR S (l.take (k + 1)) = (knownR S (l.take k) && (r == 0 || hasN S r)) := by
        rw [List.take_add_one, HR.out]
        simp [knownR]
      have HST := Lib.hid hst
      clear hst
      by_cases h0 : r = 0
      · subst h0
        go_wp2_with ((with_reducible show wpList _ _ _ (⟨some 11, _, _, _, _, _⟩ :: _) _ _); refine wpList_index_tab (d := 11) _ _ _ rfl 3 Try.underlying33 1 rfl _ _ _ _ q (by rfl) rfl k (by rfl) hlt ?_; rw [Nat.mul_one])
        go_roundw
        case rel => exact ⟨k + 1, by omega, by go_num, trivial, Lib.hid (by rw [HST.out, hkn.out]; rfl)⟩
        case measure => simp [intOf]; omega
      · have hu := u64_any r
        have hhu := wrap_has HK.out HIR.out
        have HU := Lib.hid hu
        have HHU := Lib.hid hhu
        clear hu hhu
        cases hh : hasN S r with
        | true =>
          have HHR := Lib.hid hh
          clear hh
          go_wp2_with (first | ((with_reducible show wpList _ _ _ (⟨some 11, _, _, _, _, _⟩ :: _) _ _); refine wpList_index_tab (d := 11) _ _ _ rfl 3 Try.underlying33 1 rfl _ _ _ _ q (by rfl) rfl k (by rfl) hlt ?_; rw [Nat.mul_one]) | (go_at_call 50; (with_reducible refine (c_isName _ wr HH.out HK.out HU.out).mono ?_); rintro e w' ⟨rfl, rfl⟩; rw [HHU.out, HHR.out]))
          go_roundw
          case rel => exact ⟨k + 1, by omega, by go_num, trivial, Lib.hid (by rw [HST.out, hkn.out, HHR.out]; simp)⟩
          case measure => simp [intOf]; omega
        | false =>
          have HHR := Lib.hid hh
          clear hh
          go_wp2_with (first | ((with_reducible show wpList _ _ _ (⟨some 11, _, _, _, _, _⟩ :: _) _ _); refine wpList_index_tab (d := 11) _ _ _ rfl 3 Try.underlying33 1 rfl _ _ _ _ q (by rfl) rfl k (by rfl) hlt ?_; rw [Nat.mul_one]) | (go_at_call 50; (with_reducible refine (c_isName _ wr HH.out HK.out HU.out).mono ?_); rintro e w' ⟨rfl, rfl⟩; rw [HHU.out, HHR.out]))
          go_ret
          refine ⟨?_, rfl⟩
          have : knownR S l = false := by
            unfold knownR
            rw [List.all_eq_false]
            refine ⟨r, List.mem_of_getElem? HR.out, by rw [HHR.out]; simpa using h0⟩
          rw [this]; rfl
    · have : k = l.length := by omega
      subst this
      go_wp2_with fail
      go_ret
      refine ⟨?_, rfl⟩
      have := hkn.out
      rw [List.take_of_length_le (Nat.le_refl _)] at this
      rw [this]; rfl
end Go.Proofs.Ytkaeigklhdpifaa
