/- What the program's reader does with a number from a least one on, and with a list. Condition: the reader lies so. -/
import Derived.Test.YtlhiaompcgdmfaaD2
namespace Go.Proofs.Ytlhiaompcgdmfaa
open Go.RowKit
set_option linter.unusedVariables false
set_option linter.unusedSimpArgs false
/-- What comes of reading by f: a value of which V holds. -/
def RdP {α : Type} (f : Pr α) (V : World → α → Value → Prop) (n rb ra ro : Nat) (l : List UInt8) (st : St) (w : World) (e : Ending) (w' : World) : Prop :=
  ∃ x v, e = .returned v ∧ V w' x v ∧ Got f l st x ∧ RD w' n rb ra ro l (stepS f l st) ∧ WS ra ro w w'
/-- A number that was read. -/
def VI (least : Int) (_ : World) (x : Int) (v : Value) : Prop := v = .int .i64 x ∧ least ≤ x ∧ x ≤ 2147483647
theorem c_rd1I (most n rb ra ro : Nat) (y : Int) (l : List UInt8) (st : St) (w : World) (h : RD w n rb ra ro l st) (hm : most < 18446744073709551616) (hy : y = (most : Int)) :
    Calls Try.prog 46 #[.int .u64 y, .pointer (some ⟨rb, 0, none⟩), .pointer (some ⟨ra, 0, none⟩), .pointer (some ⟨ro, 0, none⟩)] w fun e w' => ∃ N : Nat, e = .returned (.int .u64 (N : Int)) ∧ N ≤ most ∧ Got (pUpto most) l st N ∧ RD w' n rb ra ro l (stepS (pUpto most) l st) ∧ WS ra ro w w' := by
  subst hy
  refine (c_rd1 most n rb ra ro l st w h hm).mono fun e w' ⟨he, hr, hw⟩ => ⟨_, he, numR_le most, numR_got most, ?_, hw⟩
  rw [← numR_st]
  exact hr
set_option maxHeartbeats 1600000 in
set_option maxRecDepth 100000 in
theorem int_0 (n rb ra ro : Nat) (l : List UInt8) (st : St) (w : World) (h : RD w n rb ra ro l st) :
    Calls Try.prog 72 #[.agg #[.func (.func 46) #[] #[.pointer (some ⟨rb, 0, none⟩), .pointer (some ⟨ra, 0, none⟩), .pointer (some ⟨ro, 0, none⟩)], .func (.func 48) #[] #[.pointer (some ⟨ro, 0, none⟩)]], .int .i64 0] w (RdP (pSmall 0) (VI 0) n rb ra ro l st w) := by
  have k1 := (Kp.refl w).alloc (.cells #[.func (.func 46) #[] #[.pointer (some ⟨rb, 0, none⟩), .pointer (some ⟨ra, 0, none⟩), .pointer (some ⟨ro, 0, none⟩)], .func (.func 48) #[] #[.pointer (some ⟨ro, 0, none⟩)]] 95)
  have HR := Lib.hid (h.keep k1)
  have HY := Lib.hid (show (2147483647 : Int) = ((2147483647 : Nat) : Int) from rfl)
  have HK := Lib.hid k1
  obtain ⟨c0, c1⟩ := row2 (heap_alloc_new w (.cells #[.func (.func 46) #[] #[.pointer (some ⟨rb, 0, none⟩), .pointer (some ⟨ra, 0, none⟩), .pointer (some ⟨ro, 0, none⟩)], .func (.func 48) #[] #[.pointer (some ⟨ro, 0, none⟩)]] 95))
  clear k1 h
  go_enter Try.func72, Try.ntmps72
  go_wp2_with (go_at_call 46; (with_reducible refine (c_rd1I 2147483647 n rb ra ro _ l st _ HR.out (by decide) HY.out).mono ?_); rintro e w1 ⟨N, rfl, hN, hg, hr, hw⟩; have HG := Lib.hid hg; have HR1 := Lib.hid hr; have HW := Lib.hid hw; clear hg hr hw)
  go_ret
  have he := seq_end (h := fun y : Nat => (y : Int) + 0) HG.out
  refine ⟨(N : Int) + 0, _, rfl, ⟨by simp, by omega, by omega⟩, he.2, ?_, HK.out.ws.trans HW.out⟩
  have := HR1.out
  rw [← he.1] at this
  exact this
set_option maxHeartbeats 1600000 in
set_option maxRecDepth 100000 in
theorem int_m (n rb ra ro : Nat) (l : List UInt8) (st : St) (w : World) (h : RD w n rb ra ro l st) :
    Calls Try.prog 72 #[.agg #[.func (.func 46) #[] #[.pointer (some ⟨rb, 0, none⟩), .pointer (some ⟨ra, 0, none⟩), .pointer (some ⟨ro, 0, none⟩)], .func (.func 48) #[] #[.pointer (some ⟨ro, 0, none⟩)]], .int .i64 (-1)] w (RdP (pSmall (-1)) (VI (-1)) n rb ra ro l st w) := by
  have k1 := (Kp.refl w).alloc (.cells #[.func (.func 46) #[] #[.pointer (some ⟨rb, 0, none⟩), .pointer (some ⟨ra, 0, none⟩), .pointer (some ⟨ro, 0, none⟩)], .func (.func 48) #[] #[.pointer (some ⟨ro, 0, none⟩)]] 95)
  have HR := Lib.hid (h.keep k1)
  have HY := Lib.hid (show (2147483648 : Int) = ((2147483648 : Nat) : Int) from rfl)
  have HK := Lib.hid k1
  obtain ⟨c0, c1⟩ := row2 (heap_alloc_new w (.cells #[.func (.func 46) #[] #[.pointer (some ⟨rb, 0, none⟩), .pointer (some ⟨ra, 0, none⟩), .pointer (some ⟨ro, 0, none⟩)], .func (.func 48) #[] #[.pointer (some ⟨ro, 0, none⟩)]] 95))
  clear k1 h
  go_enter Try.func72, Try.ntmps72
  go_wp2_with (go_at_call 46; (with_reducible refine (c_rd1I 2147483648 n rb ra ro _ l st _ HR.out (by decide) HY.out).mono ?_); rintro e w1 ⟨N, rfl, hN, hg, hr, hw⟩; have HG := Lib.hid hg; have HR1 := Lib.hid hr; have HW := Lib.hid hw; clear hg hr hw)
  go_ret
  have he := seq_end (h := fun y : Nat => (y : Int) + (-1)) HG.out
  refine ⟨(N : Int) + (-1), _, rfl, ⟨rfl, by omega, by omega⟩, he.2, ?_, HK.out.ws.trans HW.out⟩
  have := HR1.out
  rw [← he.1] at this
  exact this
/-- Block k holds the row whose header lies in cell j of block p. -/
def rowJ (w : World) (p j k : Nat) : Prop := ∃ v, w.cell? ⟨p, j, none⟩ = some v ∧ v.ownBlock = some k
/-- But for the reader's boxes, the box p and the row behind its cell j nothing of what was there has turned. -/
structure PF (p j ra ro : Nat) (w w' : World) : Prop where
  sz : w.heap.size ≤ w'.heap.size
  blk : ∀ k, k < w.heap.size → k ≠ ra → k ≠ ro → k ≠ p → ¬ rowJ w p j k → w'.heap[k]? = w.heap[k]?
  row : ∀ k, rowJ w' p j k → rowJ w p j k ∨ w.heap.size ≤ k
theorem Kp.pf {p j ra ro : Nat} {w w' : World} (h : Kp w w') (hp : p < w.heap.size) : PF p j ra ro w w' :=
  ⟨h.sz, fun k hk _ _ _ _ => h.blk hk, fun k ⟨v, h1, h2⟩ => .inl ⟨v, by rw [← World.cell?_of_block (a := ⟨p, j, none⟩) (h.blk hp)]; exact h1, h2⟩⟩
theorem WS.pf {p j ra ro : Nat} {w w' : World} (h : WS ra ro w w') (hp : p < w.heap.size) (h1 : p ≠ ra) (h2 : p ≠ ro) : PF p j ra ro w w' :=
  ⟨h.sz, fun k hk a b _ _ => h.blk k hk a b, fun k ⟨v, h3, h4⟩ => .inl ⟨v, by rw [← World.cell?_of_block (a := ⟨p, j, none⟩) (h.blk p hp h1 h2)]; exact h3, h4⟩⟩
theorem PF.trans {p j ra ro : Nat} {a b c : World} (h : PF p j ra ro a b) (k : PF p j ra ro b c) : PF p j ra ro a c :=
  ⟨Nat.le_trans h.sz k.sz, fun i hi h1 h2 h3 h4 => by
    refine (k.blk i (Nat.lt_of_lt_of_le hi h.sz) h1 h2 h3 (fun hb => ?_)).trans (h.blk i hi h1 h2 h3 h4)
    rcases h.row i hb with hb | hb
    · exact h4 hb
    · omega, fun i hi => by
    rcases k.row i hi with hb | hb
    · exact h.row i hb
    · exact .inr (Nat.le_trans h.sz hb)⟩
/-- A block that no part turns. -/
def FarJ (w : World) (p j ra ro k : Nat) : Prop := k < w.heap.size ∧ k ≠ ra ∧ k ≠ ro ∧ k ≠ p ∧ ¬ rowJ w p j k
theorem FarJ.pf {w w' : World} {p j ra ro k : Nat} (h : FarJ w p j ra ro k) (hk : PF p j ra ro w w') : FarJ w' p j ra ro k := ⟨Nat.lt_of_lt_of_le h.1 hk.sz, h.2.1, h.2.2.1, h.2.2.2.1, fun hr => by
  rcases hk.row k hr with hr | hr
  · exact h.2.2.2.2 hr
  · have := h.1; omega⟩
theorem PF.heap {p j ra ro : Nat} {w w' : World} (h : PF p j ra ro w w') {b : Nat} {o : Obj} (hc : w.heap[b]? = some o) (hf : FarJ w p j ra ro b) : w'.heap[b]? = some o := (h.blk b hf.1 hf.2.1 hf.2.2.1 hf.2.2.2.1 hf.2.2.2.2).trans hc
/-- What is asked of what a list is read into: it bears new blocks and the reader's going on, and its row lies in memory. -/
structure AccOK {α : Type} (p j ra ro : Nat) (Acc : World → List α → Prop) : Prop where
  kp : ∀ w w' acc, Acc w acc → Kp w w' → Acc w' acc
  ws : ∀ w w' acc, Acc w acc → WS ra ro w w' → Acc w' acc
  lt : ∀ w acc, Acc w acc → p < w.heap.size ∧ p ≠ ra ∧ p ≠ ro ∧ ∀ k, rowJ w p j k → k < w.heap.size
theorem AccOK.far_new {α : Type} {p j ra ro : Nat} {Acc : World → List α → Prop} (hA : AccOK p j ra ro Acc) {w : World} {acc : List α} (h : Acc w acc) (h1 : ra < w.heap.size) (h2 : ro < w.heap.size) (o : Obj) : FarJ (w.alloc o) p j ra ro w.heap.size := by
  obtain ⟨h3, h4, h5, h6⟩ := hA.lt w acc h
  refine ⟨by simp, by omega, by omega, by omega, fun hr => ?_⟩
  rcases (((Kp.refl w).alloc o).pf (ra := ra) (ro := ro) h3).row _ hr with hr' | _
  · have := h6 _ hr'; omega
  · obtain ⟨v, h7, h8⟩ := hr
    have := h6 w.heap.size ⟨v, by rw [← World.cell?_of_block (a := ⟨p, j, none⟩) (((Kp.refl w).alloc o).blk h3)]; exact h7, h8⟩
    omega
set_option maxHeartbeats 1600000 in
set_option maxRecDepth 100000 in
theorem each_I {α : Type} (f : Pr α) (n rb ra ro lb rx j : Nat) (l : List UInt8) (Acc : World → List α → Prop) (hA : AccOK lb j ra ro Acc)
    (hpart : ∀ (w : World) (acc : List α) (st : St), RD w n rb ra ro l st → Acc w acc → acc.length ≤ 2147483647 → Calls Try.prog 76 #[.pointer (some ⟨lb, 0, none⟩), .pointer (some ⟨rx, 0, none⟩)] w fun e w' => e = .returned (.tuple #[]) ∧ ∃ x, Got f l st x ∧ RD w' n rb ra ro l (stepS f l st) ∧ Acc w' (acc ++ [x]) ∧ PF lb j ra ro w w')
    (w : World) (st : St) (h : RD w n rb ra ro l st) (hacc : Acc w []) :
    Calls Try.prog 63 #[.agg #[.func (.func 46) #[] #[.pointer (some ⟨rb, 0, none⟩), .pointer (some ⟨ra, 0, none⟩), .pointer (some ⟨ro, 0, none⟩)], .func (.func 48) #[] #[.pointer (some ⟨ro, 0, none⟩)]], .func (.func 76) #[] #[.pointer (some ⟨lb, 0, none⟩), .pointer (some ⟨rx, 0, none⟩)]] w fun e w' => e = .returned (.tuple #[]) ∧ ∃ acc, Got (pList f) l st acc ∧ RD w' n rb ra ro l (stepS (pList f) l st) ∧ Acc w' acc := by
  have k1 := (Kp.refl w).alloc (.cells #[.func (.func 46) #[] #[.pointer (some ⟨rb, 0, none⟩), .pointer (some ⟨ra, 0, none⟩), .pointer (some ⟨ro, 0, none⟩)], .func (.func 48) #[] #[.pointer (some ⟨ro, 0, none⟩)]] 95)
  have HR := Lib.hid (h.keep k1)
  have HAC := Lib.hid (hA.kp _ _ _ hacc k1)
  have HA := Lib.hid hA
  have HP := Lib.hid hpart
  have HB := Lib.hid (heap_alloc_new w (.cells #[.func (.func 46) #[] #[.pointer (some ⟨rb, 0, none⟩), .pointer (some ⟨ra, 0, none⟩), .pointer (some ⟨ro, 0, none⟩)], .func (.func 48) #[] #[.pointer (some ⟨ro, 0, none⟩)]] 95))
  have HF := Lib.hid (hA.far_new hacc h.lt.1 h.lt.2.1 (.cells #[.func (.func 46) #[] #[.pointer (some ⟨rb, 0, none⟩), .pointer (some ⟨ra, 0, none⟩), .pointer (some ⟨ro, 0, none⟩)], .func (.func 48) #[] #[.pointer (some ⟨ro, 0, none⟩)]] 95))
  obtain ⟨c0, c1⟩ := row2 HB.out
  clear k1 h hacc hA hpart
  go_enter Try.func63, Try.ntmps63
  go_wp2_with (go_at_call 72; (with_reducible refine (int_0 n rb ra ro l st _ HR.out).mono ?_); rintro e w1 ⟨N, v, rfl, ⟨rfl, hN1, hN2⟩, hg, hr, hw⟩; have HG := Lib.hid hg; have HR1 := Lib.hid hr; have HW := Lib.hid hw; clear hg hr hw c0 c1)
  go_loopw [4] (fun i wr => ∃ (k : Nat) (acc : List α) (st' : St), (k : Int) ≤ 2147483648 ∧ i = .int .i64 (k : Int) ∧ ListI f l N.toNat (stepS (pSmall 0) l st) k acc st' ∧ RD wr n rb ra ro l st' ∧ Acc wr acc ∧ wr.heap[w.heap.size]? = some (.cells #[.func (.func 46) #[] #[.pointer (some ⟨rb, 0, none⟩), .pointer (some ⟨ra, 0, none⟩), .pointer (some ⟨ro, 0, none⟩)], .func (.func 48) #[] #[.pointer (some ⟨ro, 0, none⟩)]] 95 (0, 0)) ∧ FarJ wr lb j ra ro w.heap.size) (fun i _ => (intOf i).toNat)
  case atStart =>
    obtain ⟨h3, h4, h5, _⟩ := HA.out.lt _ _ HAC.out
    exact ⟨N.toNat, [], _, by omega, by rw [Int.toNat_of_nonneg hN1], listI_start f _, HR1.out, HA.out.ws _ _ _ HAC.out HW.out, HW.out.heap HB.out HF.out.2.1 HF.out.2.2.1, HF.out.pf (HW.out.pf h3 h4 h5)⟩
  case round =>
    obtain ⟨k, acc, st', hk, rfl, hI, hr, hac, hb, hf⟩ := hrel
    have HI := Lib.hid hI
    have HS := Lib.hid hr
    have HC := Lib.hid hac
    have HB2 := Lib.hid hb
    have HF2 := Lib.hid hf
    obtain ⟨c0, c1⟩ := row2 hb
    clear hI hr hac hb hf
    cases k with
    | zero =>
      go_wp2_with fail
      refine end_none (by rfl) (by rfl) ⟨rfl, acc, ?_, ?_, HC.out⟩
      · exact seq_got (g := fun n => pRep f n.toNat []) HG.out (listI_end HI.out).2
      · rw [pList, ← seq_st (g := fun n => pRep f n.toNat []) HG.out, ← (listI_end HI.out).1]
        exact HS.out
    | succ k =>
      have hpos : (0 : Int) < ((k + 1 : Nat) : Int) := by omega
      have hk2 : (k : Int) + 1 ≤ 2147483648 := by omega
      cases st' with
      | error p =>
        go_wp2_with (go_at_call 48; (with_reducible refine (c_rd2 n rb ra ro l (.error p) _ HS.out).mono ?_); rintro e w3 ⟨rfl, hk3⟩; have HK3 := Lib.hid hk3; clear hk3; simp only [stOff])
        refine end_none (by rfl) (by rfl) ⟨rfl, acc, ?_, ?_, HA.out.kp _ _ _ HC.out HK3.out⟩
        · exact seq_got (g := fun n => pRep f n.toNat []) HG.out (listI_off HI.out).2
        · rw [pList, ← seq_st (g := fun n => pRep f n.toNat []) HG.out, ← (listI_off HI.out).1]
          exact HS.out.keep HK3.out
      | ok p =>
        have hal : acc.length ≤ 2147483647 := by have := HI.out.2.2; omega
        go_wp2_with (first | (go_at_call 48; (with_reducible refine (c_rd2 n rb ra ro l (.ok p) _ HS.out).mono ?_); rintro e w3 ⟨rfl, hk3⟩; have HK3 := Lib.hid hk3; clear hk3; simp only [stOff]) | (go_at_call 76; (with_reducible refine (HP.out _ acc (.ok p) (HS.out.keep HK3.out) (HA.out.kp _ _ _ HC.out HK3.out) hal).mono ?_); rintro e w4 ⟨rfl, x, hg, hr, ha, hp⟩; have HG4 := Lib.hid hg; have HR4 := Lib.hid hr; have HA4 := Lib.hid ha; have HP4 := Lib.hid hp; clear hg hr ha hp))
        go_roundw
        case rel =>
          have h3 := (HA.out.lt _ _ HC.out).1
          have hpf := (HK3.out.pf (j := j) (ra := ra) (ro := ro) h3).trans HP4.out
          exact ⟨k, acc ++ [x], _, by omega, by go_num, listI_next HI.out HG4.out, HR4.out, HA4.out, hpf.heap HB2.out HF2.out, HF2.out.pf hpf⟩
        case measure => simp [intOf]
set_option maxHeartbeats 1600000 in
set_option maxRecDepth 100000 in
theorem each_C {α : Type} (f : Pr α) (n rb ra ro lb rx j : Nat) (l : List UInt8) (Acc : World → List α → Prop) (hA : AccOK lb j ra ro Acc)
    (hpart : ∀ (w : World) (acc : List α) (st : St), RD w n rb ra ro l st → Acc w acc → acc.length ≤ 2147483647 → Calls Try.prog 77 #[.pointer (some ⟨lb, 0, none⟩), .pointer (some ⟨rx, 0, none⟩)] w fun e w' => e = .returned (.tuple #[]) ∧ ∃ x, Got f l st x ∧ RD w' n rb ra ro l (stepS f l st) ∧ Acc w' (acc ++ [x]) ∧ PF lb j ra ro w w')
    (w : World) (st : St) (h : RD w n rb ra ro l st) (hacc : Acc w []) :
    Calls Try.prog 63 #[.agg #[.func (.func 46) #[] #[.pointer (some ⟨rb, 0, none⟩), .pointer (some ⟨ra, 0, none⟩), .pointer (some ⟨ro, 0, none⟩)], .func (.func 48) #[] #[.pointer (some ⟨ro, 0, none⟩)]], .func (.func 77) #[] #[.pointer (some ⟨lb, 0, none⟩), .pointer (some ⟨rx, 0, none⟩)]] w fun e w' => e = .returned (.tuple #[]) ∧ ∃ acc, Got (pList f) l st acc ∧ RD w' n rb ra ro l (stepS (pList f) l st) ∧ Acc w' acc := by
  have k1 := (Kp.refl w).alloc (.cells #[.func (.func 46) #[] #[.pointer (some ⟨rb, 0, none⟩), .pointer (some ⟨ra, 0, none⟩), .pointer (some ⟨ro, 0, none⟩)], .func (.func 48) #[] #[.pointer (some ⟨ro, 0, none⟩)]] 95)
  have HR := Lib.hid (h.keep k1)
  have HAC := Lib.hid (hA.kp _ _ _ hacc k1)
  have HA := Lib.hid hA
  have HP := Lib.hid hpart
  have HB := Lib.hid (heap_alloc_new w (.cells #[.func (.func 46) #[] #[.pointer (some ⟨rb, 0, none⟩), .pointer (some ⟨ra, 0, none⟩), .pointer (some ⟨ro, 0, none⟩)], .func (.func 48) #[] #[.pointer (some ⟨ro, 0, none⟩)]] 95))
  have HF := Lib.hid (hA.far_new hacc h.lt.1 h.lt.2.1 (.cells #[.func (.func 46) #[] #[.pointer (some ⟨rb, 0, none⟩), .pointer (some ⟨ra, 0, none⟩), .pointer (some ⟨ro, 0, none⟩)], .func (.func 48) #[] #[.pointer (some ⟨ro, 0, none⟩)]] 95))
  obtain ⟨c0, c1⟩ := row2 HB.out
  clear k1 h hacc hA hpart
  go_enter Try.func63, Try.ntmps63
  go_wp2_with (go_at_call 72; (with_reducible refine (int_0 n rb ra ro l st _ HR.out).mono ?_); rintro e w1 ⟨N, v, rfl, ⟨rfl, hN1, hN2⟩, hg, hr, hw⟩; have HG := Lib.hid hg; have HR1 := Lib.hid hr; have HW := Lib.hid hw; clear hg hr hw c0 c1)
  go_loopw [4] (fun i wr => ∃ (k : Nat) (acc : List α) (st' : St), (k : Int) ≤ 2147483648 ∧ i = .int .i64 (k : Int) ∧ ListI f l N.toNat (stepS (pSmall 0) l st) k acc st' ∧ RD wr n rb ra ro l st' ∧ Acc wr acc ∧ wr.heap[w.heap.size]? = some (.cells #[.func (.func 46) #[] #[.pointer (some ⟨rb, 0, none⟩), .pointer (some ⟨ra, 0, none⟩), .pointer (some ⟨ro, 0, none⟩)], .func (.func 48) #[] #[.pointer (some ⟨ro, 0, none⟩)]] 95 (0, 0)) ∧ FarJ wr lb j ra ro w.heap.size) (fun i _ => (intOf i).toNat)
  case atStart =>
    obtain ⟨h3, h4, h5, _⟩ := HA.out.lt _ _ HAC.out
    exact ⟨N.toNat, [], _, by omega, by rw [Int.toNat_of_nonneg hN1], listI_start f _, HR1.out, HA.out.ws _ _ _ HAC.out HW.out, HW.out.heap HB.out HF.out.2.1 HF.out.2.2.1, HF.out.pf (HW.out.pf h3 h4 h5)⟩
  case round =>
    obtain ⟨k, acc, st', hk, rfl, hI, hr, hac, hb, hf⟩ := hrel
    have HI := Lib.hid hI
    have HS := Lib.hid hr
    have HC := Lib.hid hac
    have HB2 := Lib.hid hb
    have HF2 := Lib.hid hf
    obtain ⟨c0, c1⟩ := row2 hb
    clear hI hr hac hb hf
    cases k with
    | zero =>
      go_wp2_with fail
      refine end_none (by rfl) (by rfl) ⟨rfl, acc, ?_, ?_, HC.out⟩
      · exact seq_got (g := fun n => pRep f n.toNat []) HG.out (listI_end HI.out).2
      · rw [pList, ← seq_st (g := fun n => pRep f n.toNat []) HG.out, ← (listI_end HI.out).1]
        exact HS.out
    | succ k =>
      have hpos : (0 : Int) < ((k + 1 : Nat) : Int) := by omega
      have hk2 : (k : Int) + 1 ≤ 2147483648 := by omega
      cases st' with
      | error p =>
        go_wp2_with (go_at_call 48; (with_reducible refine (c_rd2 n rb ra ro l (.error p) _ HS.out).mono ?_); rintro e w3 ⟨rfl, hk3⟩; have HK3 := Lib.hid hk3; clear hk3; simp only [stOff])
        refine end_none (by rfl) (by rfl) ⟨rfl, acc, ?_, ?_, HA.out.kp _ _ _ HC.out HK3.out⟩
        · exact seq_got (g := fun n => pRep f n.toNat []) HG.out (listI_off HI.out).2
        · rw [pList, ← seq_st (g := fun n => pRep f n.toNat []) HG.out, ← (listI_off HI.out).1]
          exact HS.out.keep HK3.out
      | ok p =>
        have hal : acc.length ≤ 2147483647 := by have := HI.out.2.2; omega
        go_wp2_with (first | (go_at_call 48; (with_reducible refine (c_rd2 n rb ra ro l (.ok p) _ HS.out).mono ?_); rintro e w3 ⟨rfl, hk3⟩; have HK3 := Lib.hid hk3; clear hk3; simp only [stOff]) | (go_at_call 77; (with_reducible refine (HP.out _ acc (.ok p) (HS.out.keep HK3.out) (HA.out.kp _ _ _ HC.out HK3.out) hal).mono ?_); rintro e w4 ⟨rfl, x, hg, hr, ha, hp⟩; have HG4 := Lib.hid hg; have HR4 := Lib.hid hr; have HA4 := Lib.hid ha; have HP4 := Lib.hid hp; clear hg hr ha hp))
        go_roundw
        case rel =>
          have h3 := (HA.out.lt _ _ HC.out).1
          have hpf := (HK3.out.pf (j := j) (ra := ra) (ro := ro) h3).trans HP4.out
          exact ⟨k, acc ++ [x], _, by omega, by go_num, listI_next HI.out HG4.out, HR4.out, HA4.out, hpf.heap HB2.out HF2.out, HF2.out.pf hpf⟩
        case measure => simp [intOf]
set_option maxHeartbeats 1600000 in
set_option maxRecDepth 100000 in
theorem each_N {α : Type} (f : Pr α) (n rb ra ro lb rx j : Nat) (l : List UInt8) (Acc : World → List α → Prop) (hA : AccOK lb j ra ro Acc)
    (hpart : ∀ (w : World) (acc : List α) (st : St), RD w n rb ra ro l st → Acc w acc → acc.length ≤ 2147483647 → Calls Try.prog 74 #[.pointer (some ⟨lb, 0, none⟩), .pointer (some ⟨rx, 0, none⟩)] w fun e w' => e = .returned (.tuple #[]) ∧ ∃ x, Got f l st x ∧ RD w' n rb ra ro l (stepS f l st) ∧ Acc w' (acc ++ [x]) ∧ PF lb j ra ro w w')
    (w : World) (st : St) (h : RD w n rb ra ro l st) (hacc : Acc w []) :
    Calls Try.prog 63 #[.agg #[.func (.func 46) #[] #[.pointer (some ⟨rb, 0, none⟩), .pointer (some ⟨ra, 0, none⟩), .pointer (some ⟨ro, 0, none⟩)], .func (.func 48) #[] #[.pointer (some ⟨ro, 0, none⟩)]], .func (.func 74) #[] #[.pointer (some ⟨lb, 0, none⟩), .pointer (some ⟨rx, 0, none⟩)]] w fun e w' => e = .returned (.tuple #[]) ∧ ∃ acc, Got (pList f) l st acc ∧ RD w' n rb ra ro l (stepS (pList f) l st) ∧ Acc w' acc := by
  have k1 := (Kp.refl w).alloc (.cells #[.func (.func 46) #[] #[.pointer (some ⟨rb, 0, none⟩), .pointer (some ⟨ra, 0, none⟩), .pointer (some ⟨ro, 0, none⟩)], .func (.func 48) #[] #[.pointer (some ⟨ro, 0, none⟩)]] 95)
  have HR := Lib.hid (h.keep k1)
  have HAC := Lib.hid (hA.kp _ _ _ hacc k1)
  have HA := Lib.hid hA
  have HP := Lib.hid hpart
  have HB := Lib.hid (heap_alloc_new w (.cells #[.func (.func 46) #[] #[.pointer (some ⟨rb, 0, none⟩), .pointer (some ⟨ra, 0, none⟩), .pointer (some ⟨ro, 0, none⟩)], .func (.func 48) #[] #[.pointer (some ⟨ro, 0, none⟩)]] 95))
  have HF := Lib.hid (hA.far_new hacc h.lt.1 h.lt.2.1 (.cells #[.func (.func 46) #[] #[.pointer (some ⟨rb, 0, none⟩), .pointer (some ⟨ra, 0, none⟩), .pointer (some ⟨ro, 0, none⟩)], .func (.func 48) #[] #[.pointer (some ⟨ro, 0, none⟩)]] 95))
  obtain ⟨c0, c1⟩ := row2 HB.out
  clear k1 h hacc hA hpart
  go_enter Try.func63, Try.ntmps63
  go_wp2_with (go_at_call 72; (with_reducible refine (int_0 n rb ra ro l st _ HR.out).mono ?_); rintro e w1 ⟨N, v, rfl, ⟨rfl, hN1, hN2⟩, hg, hr, hw⟩; have HG := Lib.hid hg; have HR1 := Lib.hid hr; have HW := Lib.hid hw; clear hg hr hw c0 c1)
  go_loopw [4] (fun i wr => ∃ (k : Nat) (acc : List α) (st' : St), (k : Int) ≤ 2147483648 ∧ i = .int .i64 (k : Int) ∧ ListI f l N.toNat (stepS (pSmall 0) l st) k acc st' ∧ RD wr n rb ra ro l st' ∧ Acc wr acc ∧ wr.heap[w.heap.size]? = some (.cells #[.func (.func 46) #[] #[.pointer (some ⟨rb, 0, none⟩), .pointer (some ⟨ra, 0, none⟩), .pointer (some ⟨ro, 0, none⟩)], .func (.func 48) #[] #[.pointer (some ⟨ro, 0, none⟩)]] 95 (0, 0)) ∧ FarJ wr lb j ra ro w.heap.size) (fun i _ => (intOf i).toNat)
  case atStart =>
    obtain ⟨h3, h4, h5, _⟩ := HA.out.lt _ _ HAC.out
    exact ⟨N.toNat, [], _, by omega, by rw [Int.toNat_of_nonneg hN1], listI_start f _, HR1.out, HA.out.ws _ _ _ HAC.out HW.out, HW.out.heap HB.out HF.out.2.1 HF.out.2.2.1, HF.out.pf (HW.out.pf h3 h4 h5)⟩
  case round =>
    obtain ⟨k, acc, st', hk, rfl, hI, hr, hac, hb, hf⟩ := hrel
    have HI := Lib.hid hI
    have HS := Lib.hid hr
    have HC := Lib.hid hac
    have HB2 := Lib.hid hb
    have HF2 := Lib.hid hf
    obtain ⟨c0, c1⟩ := row2 hb
    clear hI hr hac hb hf
    cases k with
    | zero =>
      go_wp2_with fail
      refine end_none (by rfl) (by rfl) ⟨rfl, acc, ?_, ?_, HC.out⟩
      · exact seq_got (g := fun n => pRep f n.toNat []) HG.out (listI_end HI.out).2
      · rw [pList, ← seq_st (g := fun n => pRep f n.toNat []) HG.out, ← (listI_end HI.out).1]
        exact HS.out
    | succ k =>
      have hpos : (0 : Int) < ((k + 1 : Nat) : Int) := by omega
      have hk2 : (k : Int) + 1 ≤ 2147483648 := by omega
      cases st' with
      | error p =>
        go_wp2_with (go_at_call 48; (with_reducible refine (c_rd2 n rb ra ro l (.error p) _ HS.out).mono ?_); rintro e w3 ⟨rfl, hk3⟩; have HK3 := Lib.hid hk3; clear hk3; simp only [stOff])
        refine end_none (by rfl) (by rfl) ⟨rfl, acc, ?_, ?_, HA.out.kp _ _ _ HC.out HK3.out⟩
        · exact seq_got (g := fun n => pRep f n.toNat []) HG.out (listI_off HI.out).2
        · rw [pList, ← seq_st (g := fun n => pRep f n.toNat []) HG.out, ← (listI_off HI.out).1]
          exact HS.out.keep HK3.out
      | ok p =>
        have hal : acc.length ≤ 2147483647 := by have := HI.out.2.2; omega
        go_wp2_with (first | (go_at_call 48; (with_reducible refine (c_rd2 n rb ra ro l (.ok p) _ HS.out).mono ?_); rintro e w3 ⟨rfl, hk3⟩; have HK3 := Lib.hid hk3; clear hk3; simp only [stOff]) | (go_at_call 74; (with_reducible refine (HP.out _ acc (.ok p) (HS.out.keep HK3.out) (HA.out.kp _ _ _ HC.out HK3.out) hal).mono ?_); rintro e w4 ⟨rfl, x, hg, hr, ha, hp⟩; have HG4 := Lib.hid hg; have HR4 := Lib.hid hr; have HA4 := Lib.hid ha; have HP4 := Lib.hid hp; clear hg hr ha hp))
        go_roundw
        case rel =>
          have h3 := (HA.out.lt _ _ HC.out).1
          have hpf := (HK3.out.pf (j := j) (ra := ra) (ro := ro) h3).trans HP4.out
          exact ⟨k, acc ++ [x], _, by omega, by go_num, listI_next HI.out HG4.out, HR4.out, HA4.out, hpf.heap HB2.out HF2.out, HF2.out.pf hpf⟩
        case measure => simp [intOf]
set_option maxHeartbeats 1600000 in
set_option maxRecDepth 100000 in
theorem each_S {α : Type} (f : Pr α) (n rb ra ro lb rx j : Nat) (l : List UInt8) (Acc : World → List α → Prop) (hA : AccOK lb j ra ro Acc)
    (hpart : ∀ (w : World) (acc : List α) (st : St), RD w n rb ra ro l st → Acc w acc → acc.length ≤ 2147483647 → Calls Try.prog 64 #[.pointer (some ⟨lb, 0, none⟩), .pointer (some ⟨rx, 0, none⟩)] w fun e w' => e = .returned (.tuple #[]) ∧ ∃ x, Got f l st x ∧ RD w' n rb ra ro l (stepS f l st) ∧ Acc w' (acc ++ [x]) ∧ PF lb j ra ro w w')
    (w : World) (st : St) (h : RD w n rb ra ro l st) (hacc : Acc w []) :
    Calls Try.prog 63 #[.agg #[.func (.func 46) #[] #[.pointer (some ⟨rb, 0, none⟩), .pointer (some ⟨ra, 0, none⟩), .pointer (some ⟨ro, 0, none⟩)], .func (.func 48) #[] #[.pointer (some ⟨ro, 0, none⟩)]], .func (.func 64) #[] #[.pointer (some ⟨lb, 0, none⟩), .pointer (some ⟨rx, 0, none⟩)]] w fun e w' => e = .returned (.tuple #[]) ∧ ∃ acc, Got (pList f) l st acc ∧ RD w' n rb ra ro l (stepS (pList f) l st) ∧ Acc w' acc := by
  have k1 := (Kp.refl w).alloc (.cells #[.func (.func 46) #[] #[.pointer (some ⟨rb, 0, none⟩), .pointer (some ⟨ra, 0, none⟩), .pointer (some ⟨ro, 0, none⟩)], .func (.func 48) #[] #[.pointer (some ⟨ro, 0, none⟩)]] 95)
  have HR := Lib.hid (h.keep k1)
  have HAC := Lib.hid (hA.kp _ _ _ hacc k1)
  have HA := Lib.hid hA
  have HP := Lib.hid hpart
  have HB := Lib.hid (heap_alloc_new w (.cells #[.func (.func 46) #[] #[.pointer (some ⟨rb, 0, none⟩), .pointer (some ⟨ra, 0, none⟩), .pointer (some ⟨ro, 0, none⟩)], .func (.func 48) #[] #[.pointer (some ⟨ro, 0, none⟩)]] 95))
  have HF := Lib.hid (hA.far_new hacc h.lt.1 h.lt.2.1 (.cells #[.func (.func 46) #[] #[.pointer (some ⟨rb, 0, none⟩), .pointer (some ⟨ra, 0, none⟩), .pointer (some ⟨ro, 0, none⟩)], .func (.func 48) #[] #[.pointer (some ⟨ro, 0, none⟩)]] 95))
  obtain ⟨c0, c1⟩ := row2 HB.out
  clear k1 h hacc hA hpart
  go_enter Try.func63, Try.ntmps63
  go_wp2_with (go_at_call 72; (with_reducible refine (int_0 n rb ra ro l st _ HR.out).mono ?_); rintro e w1 ⟨N, v, rfl, ⟨rfl, hN1, hN2⟩, hg, hr, hw⟩; have HG := Lib.hid hg; have HR1 := Lib.hid hr; have HW := Lib.hid hw; clear hg hr hw c0 c1)
  go_loopw [4] (fun i wr => ∃ (k : Nat) (acc : List α) (st' : St), (k : Int) ≤ 2147483648 ∧ i = .int .i64 (k : Int) ∧ ListI f l N.toNat (stepS (pSmall 0) l st) k acc st' ∧ RD wr n rb ra ro l st' ∧ Acc wr acc ∧ wr.heap[w.heap.size]? = some (.cells #[.func (.func 46) #[] #[.pointer (some ⟨rb, 0, none⟩), .pointer (some ⟨ra, 0, none⟩), .pointer (some ⟨ro, 0, none⟩)], .func (.func 48) #[] #[.pointer (some ⟨ro, 0, none⟩)]] 95 (0, 0)) ∧ FarJ wr lb j ra ro w.heap.size) (fun i _ => (intOf i).toNat)
  case atStart =>
    obtain ⟨h3, h4, h5, _⟩ := HA.out.lt _ _ HAC.out
    exact ⟨N.toNat, [], _, by omega, by rw [Int.toNat_of_nonneg hN1], listI_start f _, HR1.out, HA.out.ws _ _ _ HAC.out HW.out, HW.out.heap HB.out HF.out.2.1 HF.out.2.2.1, HF.out.pf (HW.out.pf h3 h4 h5)⟩
  case round =>
    obtain ⟨k, acc, st', hk, rfl, hI, hr, hac, hb, hf⟩ := hrel
    have HI := Lib.hid hI
    have HS := Lib.hid hr
    have HC := Lib.hid hac
    have HB2 := Lib.hid hb
    have HF2 := Lib.hid hf
    obtain ⟨c0, c1⟩ := row2 hb
    clear hI hr hac hb hf
    cases k with
    | zero =>
      go_wp2_with fail
      refine end_none (by rfl) (by rfl) ⟨rfl, acc, ?_, ?_, HC.out⟩
      · exact seq_got (g := fun n => pRep f n.toNat []) HG.out (listI_end HI.out).2
      · rw [pList, ← seq_st (g := fun n => pRep f n.toNat []) HG.out, ← (listI_end HI.out).1]
        exact HS.out
    | succ k =>
      have hpos : (0 : Int) < ((k + 1 : Nat) : Int) := by omega
      have hk2 : (k : Int) + 1 ≤ 2147483648 := by omega
      cases st' with
      | error p =>
        go_wp2_with (go_at_call 48; (with_reducible refine (c_rd2 n rb ra ro l (.error p) _ HS.out).mono ?_); rintro e w3 ⟨rfl, hk3⟩; have HK3 := Lib.hid hk3; clear hk3; simp only [stOff])
        refine end_none (by rfl) (by rfl) ⟨rfl, acc, ?_, ?_, HA.out.kp _ _ _ HC.out HK3.out⟩
        · exact seq_got (g := fun n => pRep f n.toNat []) HG.out (listI_off HI.out).2
        · rw [pList, ← seq_st (g := fun n => pRep f n.toNat []) HG.out, ← (listI_off HI.out).1]
          exact HS.out.keep HK3.out
      | ok p =>
        have hal : acc.length ≤ 2147483647 := by have := HI.out.2.2; omega
        go_wp2_with (first | (go_at_call 48; (with_reducible refine (c_rd2 n rb ra ro l (.ok p) _ HS.out).mono ?_); rintro e w3 ⟨rfl, hk3⟩; have HK3 := Lib.hid hk3; clear hk3; simp only [stOff]) | (go_at_call 64; (with_reducible refine (HP.out _ acc (.ok p) (HS.out.keep HK3.out) (HA.out.kp _ _ _ HC.out HK3.out) hal).mono ?_); rintro e w4 ⟨rfl, x, hg, hr, ha, hp⟩; have HG4 := Lib.hid hg; have HR4 := Lib.hid hr; have HA4 := Lib.hid ha; have HP4 := Lib.hid hp; clear hg hr ha hp))
        go_roundw
        case rel =>
          have h3 := (HA.out.lt _ _ HC.out).1
          have hpf := (HK3.out.pf (j := j) (ra := ra) (ro := ro) h3).trans HP4.out
          exact ⟨k, acc ++ [x], _, by omega, by go_num, listI_next HI.out HG4.out, HR4.out, HA4.out, hpf.heap HB2.out HF2.out, HF2.out.pf hpf⟩
        case measure => simp [intOf]
set_option maxHeartbeats 1600000 in
set_option maxRecDepth 100000 in
theorem each_U {α : Type} (f : Pr α) (n rb ra ro lb rx j : Nat) (l : List UInt8) (Acc : World → List α → Prop) (hA : AccOK lb j ra ro Acc)
    (hpart : ∀ (w : World) (acc : List α) (st : St), RD w n rb ra ro l st → Acc w acc → acc.length ≤ 2147483647 → Calls Try.prog 66 #[.pointer (some ⟨lb, 0, none⟩), .pointer (some ⟨rx, 0, none⟩)] w fun e w' => e = .returned (.tuple #[]) ∧ ∃ x, Got f l st x ∧ RD w' n rb ra ro l (stepS f l st) ∧ Acc w' (acc ++ [x]) ∧ PF lb j ra ro w w')
    (w : World) (st : St) (h : RD w n rb ra ro l st) (hacc : Acc w []) :
    Calls Try.prog 63 #[.agg #[.func (.func 46) #[] #[.pointer (some ⟨rb, 0, none⟩), .pointer (some ⟨ra, 0, none⟩), .pointer (some ⟨ro, 0, none⟩)], .func (.func 48) #[] #[.pointer (some ⟨ro, 0, none⟩)]], .func (.func 66) #[] #[.pointer (some ⟨lb, 0, none⟩), .pointer (some ⟨rx, 0, none⟩)]] w fun e w' => e = .returned (.tuple #[]) ∧ ∃ acc, Got (pList f) l st acc ∧ RD w' n rb ra ro l (stepS (pList f) l st) ∧ Acc w' acc := by
  have k1 := (Kp.refl w).alloc (.cells #[.func (.func 46) #[] #[.pointer (some ⟨rb, 0, none⟩), .pointer (some ⟨ra, 0, none⟩), .pointer (some ⟨ro, 0, none⟩)], .func (.func 48) #[] #[.pointer (some ⟨ro, 0, none⟩)]] 95)
  have HR := Lib.hid (h.keep k1)
  have HAC := Lib.hid (hA.kp _ _ _ hacc k1)
  have HA := Lib.hid hA
  have HP := Lib.hid hpart
  have HB := Lib.hid (heap_alloc_new w (.cells #[.func (.func 46) #[] #[.pointer (some ⟨rb, 0, none⟩), .pointer (some ⟨ra, 0, none⟩), .pointer (some ⟨ro, 0, none⟩)], .func (.func 48) #[] #[.pointer (some ⟨ro, 0, none⟩)]] 95))
  have HF := Lib.hid (hA.far_new hacc h.lt.1 h.lt.2.1 (.cells #[.func (.func 46) #[] #[.pointer (some ⟨rb, 0, none⟩), .pointer (some ⟨ra, 0, none⟩), .pointer (some ⟨ro, 0, none⟩)], .func (.func 48) #[] #[.pointer (some ⟨ro, 0, none⟩)]] 95))
  obtain ⟨c0, c1⟩ := row2 HB.out
  clear k1 h hacc hA hpart
  go_enter Try.func63, Try.ntmps63
  go_wp2_with (go_at_call 72; (with_reducible refine (int_0 n rb ra ro l st _ HR.out).mono ?_); rintro e w1 ⟨N, v, rfl, ⟨rfl, hN1, hN2⟩, hg, hr, hw⟩; have HG := Lib.hid hg; have HR1 := Lib.hid hr; have HW := Lib.hid hw; clear hg hr hw c0 c1)
  go_loopw [4] (fun i wr => ∃ (k : Nat) (acc : List α) (st' : St), (k : Int) ≤ 2147483648 ∧ i = .int .i64 (k : Int) ∧ ListI f l N.toNat (stepS (pSmall 0) l st) k acc st' ∧ RD wr n rb ra ro l st' ∧ Acc wr acc ∧ wr.heap[w.heap.size]? = some (.cells #[.func (.func 46) #[] #[.pointer (some ⟨rb, 0, none⟩), .pointer (some ⟨ra, 0, none⟩), .pointer (some ⟨ro, 0, none⟩)], .func (.func 48) #[] #[.pointer (some ⟨ro, 0, none⟩)]] 95 (0, 0)) ∧ FarJ wr lb j ra ro w.heap.size) (fun i _ => (intOf i).toNat)
  case atStart =>
    obtain ⟨h3, h4, h5, _⟩ := HA.out.lt _ _ HAC.out
    exact ⟨N.toNat, [], _, by omega, by rw [Int.toNat_of_nonneg hN1], listI_start f _, HR1.out, HA.out.ws _ _ _ HAC.out HW.out, HW.out.heap HB.out HF.out.2.1 HF.out.2.2.1, HF.out.pf (HW.out.pf h3 h4 h5)⟩
  case round =>
    obtain ⟨k, acc, st', hk, rfl, hI, hr, hac, hb, hf⟩ := hrel
    have HI := Lib.hid hI
    have HS := Lib.hid hr
    have HC := Lib.hid hac
    have HB2 := Lib.hid hb
    have HF2 := Lib.hid hf
    obtain ⟨c0, c1⟩ := row2 hb
    clear hI hr hac hb hf
    cases k with
    | zero =>
      go_wp2_with fail
      refine end_none (by rfl) (by rfl) ⟨rfl, acc, ?_, ?_, HC.out⟩
      · exact seq_got (g := fun n => pRep f n.toNat []) HG.out (listI_end HI.out).2
      · rw [pList, ← seq_st (g := fun n => pRep f n.toNat []) HG.out, ← (listI_end HI.out).1]
        exact HS.out
    | succ k =>
      have hpos : (0 : Int) < ((k + 1 : Nat) : Int) := by omega
      have hk2 : (k : Int) + 1 ≤ 2147483648 := by omega
      cases st' with
      | error p =>
        go_wp2_with (go_at_call 48; (with_reducible refine (c_rd2 n rb ra ro l (.error p) _ HS.out).mono ?_); rintro e w3 ⟨rfl, hk3⟩; have HK3 := Lib.hid hk3; clear hk3; simp only [stOff])
        refine end_none (by rfl) (by rfl) ⟨rfl, acc, ?_, ?_, HA.out.kp _ _ _ HC.out HK3.out⟩
        · exact seq_got (g := fun n => pRep f n.toNat []) HG.out (listI_off HI.out).2
        · rw [pList, ← seq_st (g := fun n => pRep f n.toNat []) HG.out, ← (listI_off HI.out).1]
          exact HS.out.keep HK3.out
      | ok p =>
        have hal : acc.length ≤ 2147483647 := by have := HI.out.2.2; omega
        go_wp2_with (first | (go_at_call 48; (with_reducible refine (c_rd2 n rb ra ro l (.ok p) _ HS.out).mono ?_); rintro e w3 ⟨rfl, hk3⟩; have HK3 := Lib.hid hk3; clear hk3; simp only [stOff]) | (go_at_call 66; (with_reducible refine (HP.out _ acc (.ok p) (HS.out.keep HK3.out) (HA.out.kp _ _ _ HC.out HK3.out) hal).mono ?_); rintro e w4 ⟨rfl, x, hg, hr, ha, hp⟩; have HG4 := Lib.hid hg; have HR4 := Lib.hid hr; have HA4 := Lib.hid ha; have HP4 := Lib.hid hp; clear hg hr ha hp))
        go_roundw
        case rel =>
          have h3 := (HA.out.lt _ _ HC.out).1
          have hpf := (HK3.out.pf (j := j) (ra := ra) (ro := ro) h3).trans HP4.out
          exact ⟨k, acc ++ [x], _, by omega, by go_num, listI_next HI.out HG4.out, HR4.out, HA4.out, hpf.heap HB2.out HF2.out, HF2.out.pf hpf⟩
        case measure => simp [intOf]
end Go.Proofs.Ytlhiaompcgdmfaa
