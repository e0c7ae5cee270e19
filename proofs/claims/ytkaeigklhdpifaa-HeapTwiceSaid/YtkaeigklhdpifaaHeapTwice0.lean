/- The walk of HeapTwice. Condition: the arguments lie in memory. -/
import Derived.Test.YtkaeigklhdpifaaB3
import Derived.Test.YtkaeigklhdpifaaP1
namespace Go.Proofs.Ytkaeigklhdpifaa
open Go.RowKit Go.Maps Go.Sort
set_option linter.unusedVariables false
set_option linter.unusedSimpArgs false
theorem sub64 {a b : Nat} (ha : a ≤ 65536) (hb : b ≤ 65536) : IntKind.i64.wrap ((a : Int) - (b : Int)) = (a : Int) - b := by rw [IntKind.wrap_i64]; omega
/-- What two collections and what is reached come to. -/
theorem twice_cases {S : Hs} (r : List Int) : ∃ S1 n1 f1, colP S r = (S1, n1, f1) ∧ colP S1 r = (S1, 0, f1) ∧ ((f1 = 15 ∧ n1 = 0 ∧ reachP S r = ([], 15)) ∨ (f1 = 0 ∧ n1 = (S.length : Int) - ((rl S r).length : Int) ∧ reachP S r = (rl S r, 0) ∧ S1.map (·.nm) = rl S r)) := by
  cases hk : knownR S r with
  | false => exact ⟨S, 0, 15, colP_unknown hk, colP_unknown hk, .inl ⟨rfl, rfl, reachP_unknown hk⟩⟩
  | true => exact ⟨col S r, _, 0, colP_known hk, colP_twice hk, .inr ⟨rfl, by rw [rl_len], reachP_known hk, rfl⟩⟩
theorem Tr.il {N : Nat → Prop} {w w' : World} {B : Sel} {l : List Int} {v : Value} (h : Tr N w w') (hl : IL w B l v) (hB : ∀ b, b < w.heap.size → B.S b → ¬ N b) : IL w' B l v := h.rl goodI hl hB
set_option maxHeartbeats 4000000 in
set_option maxRecDepth 100000 in
theorem law_HeapTwice (cells : Int) (l : List Ac) (v : Value) (r : List Int) (u : Value) (w : World) (hc : i64 cells) (hl : AL w A0 l v) (hr : IL w A0 r u) :
    Calls Try.prog 5 #[.int .i64 cells, v, u] w fun e w' => e = .returned (.bool true) ∧ Kp w w' := by
  obtain ⟨a, c, rfl, hll⟩ := hl.shape (by decide)
  obtain ⟨ar, cr, rfl⟩ := hr.sl
  have HL := Lib.hid hl
  have HR := Lib.hid (RL.below goodI hr (Nat.le_refl _))
  have HC := Lib.hid hc
  clear hl hr hc
  go_enter Try.func5, Try.ntmps5
  go_upto_region 4 with (first
    | (go_at_call 16; (with_reducible refine (c_grown cells l _ w HL.out HC.out).mono ?_); rintro e w1 ⟨p, q, bud, S, N, M, rfl, hg⟩; have G1 := Lib.hid hg; clear hg)
    | (go_at_call 12; (with_reducible refine (c_answers w1).mono ?_); rintro e w2 ⟨rfl, hk⟩; have G := Lib.hid (G1.out.keep hk); clear hk))
  have HB := Lib.hid G.out.bo
  have HA := Lib.hid (G.out.apart (B := A0))
  obtain ⟨S1, n1, f1, hc1, hc2, hcase⟩ := twice_cases (S := S) r
  have HC1 := Lib.hid hc1
  have HC2 := Lib.hid hc2
  have hl1 : S.length ≤ 65536 := HB.out.ok.len
  have hl2 : (rl S r).length ≤ 65536 := by have := col_len_le S r; rw [rl_len]; omega
  have hOK1 : Ok S1 bud := by have := HB.out.ok.colP r; rw [hc1] at this; exact this
  have OK1 := Lib.hid hOK1
  clear hc1 hc2 hOK1
  obtain ⟨aq, cq, _, _, hq1, _⟩ := HB.out.rp.list
  have HQ1 := Lib.hid hq1
  clear hq1
  rcases hcase with ⟨rfl, rfl, hre⟩ | ⟨rfl, rfl, hre, hnm⟩
  all_goals
    have HRE := Lib.hid hre
    clear hre
    go_upto_region 8 with (first
      | (go_at_call 17; (with_reducible refine (c_rReach r _ _ w2 HB.out.rp HB.out.ok (HR.out.keep goodI G.out.kp)).mono ?_); rintro e w3 ⟨u3, rfl, g1, g2⟩; rw [HRE.out] at g1 ⊢; obtain ⟨a3, c3, rfl⟩ := g1.sl; have I3 := Lib.hid g1; have K3 := Lib.hid g2; clear g1 g2)
      | (go_at_call 19; (with_reducible refine (c_ints r _ _ w3 (HR.out.keep goodI (G.out.kp.trans K3.out))).mono ?_); rintro e w4 ⟨u4, rfl, g1, g2⟩; obtain ⟨a4, c4, rfl⟩ := g1.sl; have I4 := Lib.hid g1; have K4 := Lib.hid g2; clear g1 g2)
      | (go_at_call 23; (with_reducible refine (c_Collect r _ _ w4 (HB.out.hp.keep (K3.out.trans K4.out)) HB.out.ok I4.out).mono ?_); rintro e w5 ⟨rfl, g1, g2⟩; rw [HC1.out] at g1 ⊢; have H5 := Lib.hid g1; have T5 := Lib.hid ((K4.out.tr N).trans g2 (fun _ _ h => h)); clear g1 g2)
      | (go_at_call 19; (with_reducible refine (c_ints r _ _ w5 (T5.out.il (HR.out.keep goodI (G.out.kp.trans K3.out)) (fun b _ h => (HA.out b h).1))).mono ?_); rintro e w6 ⟨u6, rfl, g1, g2⟩; obtain ⟨a6, c6, rfl⟩ := g1.sl; have I6 := Lib.hid g1; have K6 := Lib.hid g2; clear g1 g2)
      | (go_at_call 23; (with_reducible refine (c_Collect r _ _ w6 (H5.out.keep K6.out) OK1.out I6.out).mono ?_); rintro e w7 ⟨rfl, g1, g2⟩; rw [HC2.out] at g1 ⊢; have H7 := Lib.hid g1; have T7 := Lib.hid ((T5.out.keep K6.out).trans g2 (fun _ _ h => h)); clear g1 g2)
      | (go_at_call 24; (with_reducible refine (c_names w7 H7.out OK1.out).mono ?_); rintro e w8 ⟨u8, rfl, g1, g2⟩; obtain ⟨a8, c8, rfl⟩ := g1.sl; have I8 := Lib.hid g1; have K8 := Lib.hid g2; have T8 := Lib.hid (T7.out.keep g2); clear g1 g2))
    have hq8 := T8.out.row (row_keep K3.out HQ1.out) (fun hn => HB.out.ap q hn HB.out.rp.nq)
    obtain ⟨q0, q1⟩ := row2 hq8
    have qz := row_lt hq8
    clear hq8
  · go_wp2_with fail
    go_ret
    exact ⟨by rfl, T8.out.old (G.out.kp.trans K3.out) G.out.n0⟩
  · have hn : (S1.map (·.nm)).length = (rl S r).length := by rw [hnm]
    have HNM := Lib.hid hnm
    have hwr := sub64 hl1 hl2
    have i8 := I8.out
    rw [hnm] at i8
    have I8b := Lib.hid i8
    clear hnm i8
    go_wp2_with (go_at_call 25; (with_reducible refine (c_SameInts _ _ _ _ _ _ w8 I8b.out (T8.out.il I3.out (fun b _ h => selF HB.out.hp b h))).mono ?_); rintro e w9 ⟨rfl, g1⟩; rw [same_refl]; have K9 := Lib.hid g1; clear g1)
    go_ret
    exact ⟨by rfl, (T8.out.old (G.out.kp.trans K3.out) G.out.n0).trans K9.out⟩
end Go.Proofs.Ytkaeigklhdpifaa
