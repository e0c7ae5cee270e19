/- A heap is made; has it room; which name is free; the cells of a new object; a cell is written. Condition: the heap lies in memory. -/
import Derived.Test.YtkaeigklhdpifaaA1
namespace Go.Proofs.Ytkaeigklhdpifaa
open Go.RowKit Go.Maps Go.Sort
set_option linter.unusedVariables false
set_option linter.unusedSimpArgs false
theorem room_eq {u bud n : Nat} (hf : u ≤ bud) (hb : bud ≤ 65536) (hn : n ≤ 262146) : decide (IntKind.i64.wrap ((u : Int) + ((n : Int) + 1)) ≤ (bud : Int)) = decide (u + 1 + n ≤ bud) := by
  rw [show IntKind.i64.wrap ((u : Int) + ((n : Int) + 1)) = (u : Int) + ((n : Int) + 1) by rw [IntKind.wrap_i64]; omega]
  apply Bool.eq_iff_iff.2
  simp
  omega
set_option maxHeartbeats 1000000 in
set_option maxRecDepth 100000 in
theorem c_hasRoom {N : Nat → Prop} {p bud : Nat} {S : Hs} (n : Nat) (w : World) (h : HP w N p bud S) (ok : Ok S bud) (hn : n ≤ 262146) :
    Calls Try.prog 39 #[.pointer (some ⟨p, 0, none⟩), .int .i64 (n : Int)] w fun e w' => e = .returned (.bool (decide (used S + 1 + n ≤ bud))) ∧ Kp w w' := by
  obtain ⟨np, lt, tk, mb, D, F, h1, _⟩ := h
  obtain ⟨c0, c1, c2, c3⟩ := row4 h1
  have hz : p < w.heap.size := lt p np
  have hf := ok.fit
  have hb := ok.bud
  clear h1 lt np ok
  go_enter Try.func39, Try.ntmps39
  go_wp2_with fail
  go_region_held3 (fun w' : World => w'.cell? ⟨p, 0, none⟩ = some (.int .i64 (bud : Int)) ∧ w'.cell? ⟨p, 1, none⟩ = some (.int .i64 (used S : Int))) (exact ⟨c0, c1⟩) (first | (go_at_call 43; (with_reducible refine (c_room _ _ (by omega)).mono ?_); rintro e w' ⟨rfl, rfl⟩))
  all_goals
    go_wp2_with fail
    go_ret
    refine ⟨?_, (Kp.refl _).drew⟩
    exact congrArg (fun b => Ending.returned (.bool b)) (room_eq hf hb hn)
set_option maxHeartbeats 1000000 in
set_option maxRecDepth 100000 in
theorem c_freeName {N : Nat → Prop} {p bud : Nat} {S : Hs} (w : World) (h : HP w N p bud S) (ok : Ok S bud) :
    Calls Try.prog 41 #[.pointer (some ⟨p, 0, none⟩)] w fun e w' => e = .returned (.int .i64 ((pre S 0 : Nat) + 1 : Int)) ∧ w' = w := by
  have HH := Lib.hid h
  have HK := Lib.hid ok
  obtain ⟨np, lt, tk, mb, D, F, h1, _, _, h4, _⟩ := h
  obtain ⟨c0, c1, c2, c3⟩ := row4 h1
  have hz : p < w.heap.size := lt p np
  have hp1 : ∀ o ∈ S, 1 ≤ o.nm := fun o ho => (ok.pos o ho).1
  have hfree := Lib.hid (free_not ok.up hp1)
  have hpl : pre S 0 ≤ 65536 := by have := pre_le S 0; have := ok.len; omega
  obtain ⟨t0, t1, t2⟩ := h4
  obtain ⟨n, rfl⟩ := Int.eq_ofNat_of_zero_le t0
  have hnp : n ≤ pre S 0 := le_pre ok.up hp1 (fun j h1 h2 => t2 j (by omega) (by omega))
  clear h1 lt np ok t2 t0
  go_enter Try.func41, Try.ntmps41
  go_wp2_with fail
  go_loopw [3] (fun i wr => ∃ k : Nat, k ≤ pre S 0 ∧ i = .int .i64 ((k : Int) + 1) ∧ wr = w) (fun i _ => pre S 0 + 1 - (intOf i).toNat)
  case atStart => exact ⟨n, hnp, by go_num, rfl⟩
  case round =>
    obtain ⟨k, hk, rfl, hw⟩ := hrel
    subst hw
    have hu : IntKind.wrap .u64 ((k : Int) + 1) = (k : Int) + 1 := by rw [IntKind.wrap_u64]; omega
    have HU := Lib.hid hu
    clear hu
    by_cases hlt : k < pre S 0
    · have hyes : hasN S ((k : Int) + 1) = true := by have := free_below (S := S) (j := k + 1) (by omega) (by omega); push_cast at this; exact this
      have HY := Lib.hid hyes
      clear hyes
      go_wp2_with (go_at_call 50; (with_reducible refine (c_isName _ wr HH.out HK.out (by omega)).mono ?_); rintro e w' ⟨rfl, rfl⟩; rw [HY.out])
      go_roundw
      case rel => exact ⟨k + 1, by omega, by go_num, trivial⟩
      case measure => simp [intOf]; omega
    · have : k = pre S 0 := by omega
      subst this
      go_wp2_with (go_at_call 50; (with_reducible refine (c_isName _ wr HH.out HK.out (by omega)).mono ?_); rintro e w' ⟨rfl, rfl⟩; rw [hfree.out])
      go_ret
      exact ⟨rfl, rfl⟩
set_option maxHeartbeats 1000000 in
set_option maxRecDepth 100000 in
theorem c_NewBad (n : Int) (w : World) (hn : n < 0 ∨ 65536 < n) : Calls Try.prog 10 #[.int .i64 n] w fun e w' => e = .returned (.tuple #[.pointer none, .int .i64 2]) ∧ w' = w := by
  go_enter Try.func10, Try.ntmps10
  by_cases h0 : n < 0
  · go_wp2_with fail
    go_ret2
    exact ⟨rfl, rfl⟩
  · have h1 : 65536 < n := by omega
    go_wp2_with fail
    go_ret2
    exact ⟨rfl, rfl⟩
set_option maxHeartbeats 1000000 in
set_option maxRecDepth 100000 in
theorem c_New (n : Int) (w : World) (h0 : 0 ≤ n) (h1 : n ≤ 65536) : Calls Try.prog 10 #[.int .i64 n] w fun e w' =>
    ∃ p N, e = .returned (.tuple #[.pointer (some ⟨p, 0, none⟩), .int .i64 0]) ∧ HP w' N p n.toNat [] ∧ (∀ k, N k → w.heap.size ≤ k) ∧ Kp w w' := by
  have hmm := @run_makeMap Try.prog
  go_enter Try.func10, Try.ntmps10
  go_wp2_with fail
  go_ret2
  refine ⟨_, fun k => k = w.heap.size ∨ k = w.heap.size + 1, rfl, ⟨.inr rfl, fun k hk => by simp; omega, 0, w.heap.size, .map [], fun _ => none, ?_, .inl rfl, by omega, ⟨by omega, by omega, fun j a b => by omega⟩, ?_, MapIs.empty, rfl, ⟨fun k => rfl, fun o ho => (by cases ho), fun k v g h => (by cases h), fun j k u v g _ h => (by cases h)⟩⟩, fun k hk => by omega, ((Kp.refl w).alloc _).alloc _⟩
  · rw [heap_at (by simp)]
    have : ((n.toNat : Nat) : Int) = n := by omega
    simp [used, this]
  · refine OM.turn (w := w.alloc (.map #[] 0)) (OM.of (World.ownsMap_made w Try.prog 3 RS)) ?_
    exact ((Kp.refl (w.alloc (.map #[] 0))).alloc _).blk (by simp)
set_option maxHeartbeats 1000000 in
set_option maxRecDepth 100000 in
theorem c_Set {N : Nat → Prop} {p bud : Nat} {S : Hs} (o i n : Int) (w : World) (h : HP w N p bud S) (ok : Ok S bud) (ho : i64 o) (hi : i64 i) (hn : 0 ≤ n ∧ n ≤ 18446744073709551615) :
    Calls Try.prog 28 #[.pointer (some ⟨p, 0, none⟩), .int .i64 o, .int .i64 i, .int .u64 n] w fun e w' => e = .returned (.int .i64 (putP S o i n).2) ∧ HP w' N p bud (putP S o i n).1 ∧ Tr N w w' := by
  have HH := Lib.hid h
  have HK := Lib.hid ok
  clear h ok
  go_enter Try.func28, Try.ntmps28
  obtain ⟨⟨x, r, e⟩, hc⟩ : ∃ c, cellP S o i = c := ⟨_, rfl⟩
  by_cases he : e = 0
  · subst he
    have hput : putP S o i n = if r = true ∧ n ≠ 0 ∧ hasN S n = false then (S, 15) else (setC S o i.toNat n, 0) := by unfold putP; rw [hc]; rfl
    have HP' := Lib.hid hput
    have HC := Lib.hid hc
    clear hc hput
    cases r with
    | false =>
      go_wp2_with (go_at_call 45; (with_reducible refine (c_cell o i w HH.out HK.out ho hi).mono ?_); rintro e w' ⟨v, rfl, hv, rfl⟩; rw [HC.out]; obtain ⟨g, rfl, e1, e2, e3, e4, e5, e6, e7⟩ := hv.yes _ HC.out rfl; clear hv; dsimp only at e1 e2; have e3' := e3 (i.toNat * 2); have HE5 := Lib.hid e5; have HE7 := Lib.hid e7; clear e3 e5 e7)
      go_ret
      rw [HP'.out, if_neg (by simp)]
      exact ⟨rfl, HE7.out n, (Tr.refl N _).set (.inl HE5.out) _⟩
    | true =>
      by_cases h0 : n = 0
      · subst h0
        go_wp2_with (go_at_call 45; (with_reducible refine (c_cell o i w HH.out HK.out ho hi).mono ?_); rintro e w' ⟨v, rfl, hv, rfl⟩; rw [HC.out]; obtain ⟨g, rfl, e1, e2, e3, e4, e5, e6, e7⟩ := hv.yes _ HC.out rfl; clear hv; dsimp only at e1 e2; have e3' := e3 (i.toNat * 2); have HE5 := Lib.hid e5; have HE7 := Lib.hid e7; clear e3 e5 e7)
        go_ret
        rw [HP'.out, if_neg (by simp)]
        exact ⟨rfl, HE7.out 0, (Tr.refl N _).set (.inl HE5.out) _⟩
      · cases hh : hasN S n with
        | true =>
          have HN := Lib.hid hh
          clear hh
          go_wp2_with (first | (go_at_call 45; (with_reducible refine (c_cell o i w HH.out HK.out ho hi).mono ?_); rintro e w' ⟨v, rfl, hv, rfl⟩; rw [HC.out]; obtain ⟨g, rfl, e1, e2, e3, e4, e5, e6, e7⟩ := hv.yes _ HC.out rfl; clear hv; dsimp only at e1 e2; have e3' := e3 (i.toNat * 2); have HE5 := Lib.hid e5; have HE7 := Lib.hid e7; clear e3 e5 e7) | (go_at_call 50; (with_reducible refine (c_isName _ _ HH.out HK.out hn).mono ?_); rintro e w' ⟨rfl, rfl⟩; rw [HN.out]))
          go_ret
          rw [HP'.out, if_neg (by rw [HN.out]; simp)]
          exact ⟨rfl, HE7.out n, (Tr.refl N _).set (.inl HE5.out) _⟩
        | false =>
          have HN := Lib.hid hh
          clear hh
          go_wp2_with (first | (go_at_call 45; (with_reducible refine (c_cell o i w HH.out HK.out ho hi).mono ?_); rintro e w' ⟨v, rfl, hv, rfl⟩; rw [HC.out]; obtain ⟨g, rfl, e1, e2, e3, e4, e5, e6, e7⟩ := hv.yes _ HC.out rfl; clear hv; dsimp only at e1 e2; have e3' := e3 (i.toNat * 2); have HE5 := Lib.hid e5; have HE7 := Lib.hid e7; clear e3 e5 e7) | (go_at_call 50; (with_reducible refine (c_isName _ _ HH.out HK.out hn).mono ?_); rintro e w' ⟨rfl, rfl⟩; rw [HN.out]))
          go_ret
          rw [HP'.out, if_pos ⟨trivial, h0, HN.out⟩]
          exact ⟨(by first | rfl | trivial), HH.out, Tr.refl N _⟩
  · have hput : putP S o i n = (S, e) := by
      unfold putP; rw [hc]; split
      · rename_i h1; cases h1; exact absurd rfl he
      · rename_i h1; cases h1; rfl
    have HP' := Lib.hid hput
    have HC := Lib.hid hc
    clear hc hput
    go_wp2_with (go_at_call 45; (with_reducible refine (c_cell o i w HH.out HK.out ho hi).mono ?_); rintro e w' ⟨v, rfl, hv, rfl⟩; rw [HC.out]; clear hv)
    go_ret
    rw [HP'.out]
    exact ⟨(by first | rfl | trivial), HH.out, Tr.refl N _⟩
end Go.Proofs.Ytkaeigklhdpifaa
