/- What the law's walked gathers: all nodes of a node, as copies, and their depths. Condition: the node lies in memory, and has not more nodes than a row may hold. -/
import Derived.Test.YtgamenimbkafjaaWf
import Derived.Test.YtgamenimbkafjaaO
import Derived.Test.YtgamenimbkafjaaH3
import Derived.Test.YtgamenimbkafjaaWh
namespace Go.Proofs.Ytgamenimbkafjaa
open Go.RowKit Go.Shelf
set_option linter.unusedVariables false
set_option linter.unusedSimpArgs false
attribute [local go_sem] Oper.semAt_some

/-- What walked owns while it walks. -/
def walkD (z : Nat) (w2 : World) : Dyn := ⟨fun b => (b = w2.heap.size ∨ b = w2.heap.size + 1) ∨ (z ≤ b ∧ b < z + 5 ∧ b < w2.heap.size), fun q => q = ⟨w2.heap.size, 0, none⟩ ∨ q = ⟨w2.heap.size + 1, 0, none⟩, w2.heap.size + 1 + 1, fun b hb => by omega, fun q hq => by rcases hq with rfl | rfl <;> (first | (show w2.heap.size < w2.heap.size + 1 + 1; omega) | (show w2.heap.size + 1 < w2.heap.size + 1 + 1; omega))⟩
structure WalkI (z : Nat) (w2 W0 : World) (R : Nat) (pre : List CEl) (W : World) : Prop where
  rows : ∃ vn vd, W.heap[w2.heap.size]? = some (.cells #[vn] 23 (0, 0)) ∧ W.heap[w2.heap.size + 1]? = some (.cells #[vd] 36 (0, 0)) ∧
    W.ownsRow W0.heap.size 25 5 vn pre.length (pre.flatMap fun x => x.2.2.cells) ∧ W.ownsRow W0.heap.size 3 1 vd pre.length (pre.map fun x => .int .i64 x.1)
  kp : Kp w2 W
  cef : Cef (walkD z w2) W0 W
  lies : ∀ x ∈ pre, Lies W (Out ((walkD z w2).At W)) R x.2.1 x.2.2
theorem WalkI.grown {z : Nat} {w2 W0 A B : World} {R : Nat} {pre : List CEl} {row : Option Nat} (h : WalkI z w2 W0 R pre A) (h0 : W0.heap.size = w2.heap.size + 1 + 1) (hg : A.grownBy B row) (hr : ∀ r, row = some r → W0.heap.size ≤ r ∧ ∃ o : Obj, A.heap[r]? = some o ∧ o.isCells = false) : WalkI z w2 W0 R pre B where
  rows := by
    obtain ⟨vn, vd, h1, h2, h3, h4⟩ := h.rows
    exact ⟨vn, vd, own_row h1 hg hr, own_row h2 hg hr, own_grown h3 hg (fun r e => (hr r e).2), own_grown h4 hg (fun r e => (hr r e).2)⟩
  kp := h.kp.grown hg (fun k e => by have := (hr k e).1; omega)
  cef := h.cef.trans (cef_grown hg (fun r e => ⟨by show w2.heap.size + 1 + 1 ≤ r; have := (hr r e).1; omega, (hr r e).2⟩))
  lies := fun x hx => Lies.cefAt (D := walkD z w2) (by show w2.heap.size + 1 + 1 ≤ A.heap.size; have := h.cef.size; omega) (cef_grown hg (fun r e => ⟨by show w2.heap.size + 1 + 1 ≤ r; have := (hr r e).1; omega, (hr r e).2⟩)) (h.lies x hx)
theorem walkD_wf {z : Nat} {w2 W0 : World} (hsz : W0.heap.size = w2.heap.size + 1 + 1) (hnb : W0.heap[w2.heap.size]? = some (.cells #[.slice none 0 0] 23 (0, 0))) (hdb : W0.heap[w2.heap.size + 1]? = some (.cells #[.slice none 0 0] 36 (0, 0))) : (walkD z w2).WF W0 := by
  rintro b (((rfl | rfl) | hb) | ⟨q, v, (rfl | rfl), hv, ho⟩)
  · omega
  · omega
  · omega
  · have := row_cell hnb 0
    simp only [List.getElem?_toArray, List.getElem?_cons_zero] at this
    rw [this] at hv; cases hv; cases ho
  · have := row_cell hdb 0
    simp only [List.getElem?_toArray, List.getElem?_cons_zero] at this
    rw [this] at hv; cases hv; cases ho
theorem own_at {w w' : World} {B : Nat} {e : TypeId} {m n : Nat} {v : Value} {xs : List Value} (h : w.ownsRow B e m v n xs) (hb : ∀ g, v.ownBlock = some g → w'.heap[g]? = w.heap[g]?) : w'.ownsRow B e m v n xs :=
  ⟨h.1, h.2.imp id (fun ⟨g, cap, cur, hv, h0, hg, rest⟩ => ⟨g, cap, cur, hv, h0, (hb g (by rw [hv]; rfl)).trans hg, rest⟩)⟩
theorem nil_no (W : World) (kb : Nat) : (binOp BinOp.eql 45 (.func (.func 37) #[] #[.pointer (some ⟨kb, 0, none⟩)]) .nilFunc).run Try.prog W = .ok (.bool false) W := by
  first
  | rfl
  | (simp [binOp, go_sem]; done)
set_option maxRecDepth 100000 in
set_option maxHeartbeats 8000000 in
theorem c_walked (n : Nat) (hn : 4 ≤ n) (R : Nat) (T : Nd) (h : Hn) (w : World) (hl : Lies w A0 R T h) (hN : (flatN R 0 T).length ≤ 1099511627776) :
    CallsIn Fence.wide n Try.prog 23 #[h.val, .int .i64 (flatN R 0 T).length] w fun e w' =>
      ∃ (vn vd : Value) (xs : List CEl), e = .returned (.tuple #[vn, vd, .bool true]) ∧ xs.map CEl.pr = flatN R 0 T ∧ w'.ownsRow w.heap.size 25 5 vn xs.length (xs.flatMap fun x => x.2.2.cells) ∧
        w'.ownsRow w.heap.size 3 1 vd xs.length (xs.map fun x => .int .i64 x.1) ∧ (∀ x ∈ xs, Lies w' A0 R x.2.1 x.2.2) ∧ Kp w w' := by
  have hn1 : 1 ≤ n := by omega
  obtain ⟨k, tx, nn, at_, la, ll, lc⟩ := h
  have HL := Lib.hid hl
  have HN := Lib.hid hN
  have OW := Lib.hid (fun (W : World) (m : Nat) (hk : Kp w W) => (callsIn_wide (n := m)).2 (c_Own R T _ W (hl.keep hk)))
  have WK := Lib.hid (fun (h' : Hn) (W : World) (m : Nat) (hk : Lies W A0 R T h') => (callsIn_wide (n := m)).2 (c_Walk R T h' W hk))
  clear hl hN
  have hro : Fence.wide.round = none := rfl
  have hnil := nil_no
  obtain ⟨N, hNN⟩ : ∃ N, N = (flatN R 0 T).length := ⟨_, rfl⟩
  rw [← hNN]
  have HNN := Lib.hid hNN
  clear hNN
  refine callsIn_of_wp_marks Try.func23 rfl trivial ?_ hro
  simp only [Try.ntmps23, List.size_toArray, List.length_cons, List.length_nil, Nat.reduceAdd, Nat.reduceSub, Array.replicate_succ, Array.replicate_zero, List.push_toArray, List.append_toArray, List.nil_append, List.cons_append]
  gi_wp2_with (first | ((try refine ⟨trivial, ?_⟩); gi_at_call 14; refine (OW.out _ (n - 1) (by (repeat (first | with_reducible exact Kp.refl _ | refine Kp.alloc ?_ _)))).mono ?_; rintro e w1 ⟨⟨k', tx', n', at', la', ll', lc'⟩, rfl, hli, hk1⟩; have HLI := Lib.hid hli; clear hli) | ((try refine ⟨trivial, ?_⟩); gi_at_call 27; refine (WK.out ⟨k', tx', n', at', la', ll', lc'⟩ _ (n - 1) (HLI.out.weak (A0_le _))).mono ?_; rintro e w2 ⟨h2, kb, rfl, hr2, hkb, hl2, hk2⟩))
  obtain ⟨W0, hW0⟩ : ∃ W0, (w2.alloc (.cells #[.slice none 0 0] 23)).alloc (.cells #[.slice none 0 0] 36) = W0 := ⟨_, rfl⟩
  have hB0 : Kp w2 W0 := by rw [← hW0]; exact ((Kp.refl w2).alloc _).alloc _
  have hsz : W0.heap.size = w2.heap.size + 1 + 1 := by rw [← hW0]; simp
  have hnb : W0.heap[w2.heap.size]? = some (.cells #[.slice none 0 0] 23 (0, 0)) := by rw [← hW0]; exact (((Kp.refl _).alloc _).blk (by simp)).trans (heap_alloc_new w2 _)
  have hdb : W0.heap[w2.heap.size + 1]? = some (.cells #[.slice none 0 0] 36 (0, 0)) := by rw [← hW0]; exact heap_at (by simp)
  rw [hW0]
  clear hW0
  have hwf := walkD_wf (z := w.heap.size) hsz hnb hdb
  have hn0 : (walkD w.heap.size w2).n0 ≤ W0.heap.size := by show w2.heap.size + 1 + 1 ≤ _; omega
  have hI0 : WalkI w.heap.size w2 W0 R [] W0 := ⟨⟨_, _, hnb, hdb, World.ownsRow_nil _ _ _ _, World.ownsRow_nil _ _ _ _⟩, hB0, Cef.refl _ _, fun x hx => by cases hx⟩
  have hL0 : Lies W0 (Out ((walkD w.heap.size w2).At W0)) R T h2 := by
    refine ((hl2.below (Nat.le_refl _)).keep hB0).weak ⟨fun h => (show False from h).elim, fun b hb hc => ?_⟩
    rcases hc with hc | ⟨q, v, hq, hv, ho⟩
    · have h1 : b < w2.heap.size := hb.2
      have h4 : w1.heap.size ≤ b := hb.1
      have h3 : (b = w2.heap.size ∨ b = w2.heap.size + 1) ∨ (w.heap.size ≤ b ∧ b < w.heap.size + 5 ∧ b < w2.heap.size) := hc
      have h5 : w.heap.size + 5 ≤ w1.heap.size := by have := hk1.sz; simp at this; omega
      omega
    · rcases hq with rfl | rfl
      · have := row_cell hnb 0
        simp only [List.getElem?_toArray, List.getElem?_cons_zero] at this
        rw [this] at hv; cases hv; cases ho
      · have := row_cell hdb 0
        simp only [List.getElem?_toArray, List.getElem?_cons_zero] at this
        rw [this] at hv; cases hv; cases ho
  have hm2 := hk2.cellv (hk1.cellv (show World.cell? _ ⟨w.heap.size + 1, 0, none⟩ = some (.int .i64 N) from by simp [go_sem]))
  have HM2 := Lib.hid hm2
  have HZ2 : Hid (w2.heap[w.heap.size + 1 + 1]? = some (.cells #[.slice none 0 0] 23 (0, 0))) := Lib.hid ((hk2.blk (by have := hk1.sz; simp at this; omega)).trans ((hk1.blk (by simp)).trans ((((Kp.refl _).alloc _).alloc _).blk (by simp) |>.trans (heap_at (by simp)))))
  have HZ3 : Hid (w2.heap[w.heap.size + 1 + 1 + 1]? = some (.cells #[.slice none 0 0] 36 (0, 0))) := Lib.hid ((hk2.blk (by have := hk1.sz; simp at this; omega)).trans ((hk1.blk (by simp)).trans (((Kp.refl _).alloc _).blk (by simp) |>.trans (heap_at (by simp)))))
  have HZ4 : Hid (w2.heap[w.heap.size + 1 + 1 + 1 + 1]? = some (.cells #[.bool false] 4 (0, 0))) := Lib.hid ((hk2.blk (by have := hk1.sz; simp at this; omega)).trans ((hk1.blk (by simp)).trans (heap_at (by simp))))
  have hsw : w.heap.size + 1 + 1 + 1 + 1 < w2.heap.size := by have := hk1.sz; have := hk2.sz; simp at *; omega
  clear hm2
  have HW2 := Lib.hid hk2
  have HW1 := Lib.hid hk1
  have HR2 := Lib.hid hr2
  have HL2 := Lib.hid hl2
  clear hk2 hk1 hr2 hl2
  refine range_G (α := CEl) hro hn1 (gf := 37) (lb := #[.pointer (some ⟨kb, 0, none⟩)]) rfl trivial (enters_of Try.func37 (by kernel_rfl) rfl)
    (walk_seq (n - 1) (by omega) R kb W0 (walkD w.heap.size w2) hn0 hwf T h2 hL0 (hB0.range HR2.out)) (fun h k => h.trans k) (cefK_b hn0) (Below.refl _ _) (fun _ => rfl)
    (fun pre W => WalkI w.heap.size w2 W0 R pre W) (fun _ _ _ => False)
    (fun pre A B' row hs hg hr => hs.grown hsz hg hr) (fun _ _ _ _ _ hs _ _ => hs) hI0 ?round ?done ?stop
  case round =>
    rintro l pre x W hlw hI hG hlen
    obtain ⟨d, X, ⟨xk, xt, xn, xa, xla, xll, xlc⟩⟩ := x
    gi_wp2
    refine ⟨keeps_kp ((Kp.refl W).alloc _), ((Kp.refl W).alloc _).cef, fun o o' ho hoc => ?_⟩
    have hnW : (walkD w.heap.size w2).n0 ≤ W.heap.size := Nat.le_trans hn0 hI.cef.size
    have ka : Kp W (W.alloc (.cells #[.int .i64 xk, .string xt, .int .u64 xn, .int .i64 xa, .slice xla xll xlc] 25)) := (Kp.refl W).alloc _
    have hg5 := grownBy_putObj' (W.alloc (.cells #[.int .i64 xk, .string xt, .int .u64 xn, .int .i64 xa, .slice xla xll xlc] 25)) l o'
    have hr5 : ∀ r, some l = some r → W0.heap.size ≤ r ∧ ∃ o : Obj, (W.alloc (.cells #[.int .i64 xk, .string xt, .int .u64 xn, .int .i64 xa, .slice xla xll xlc] 25)).heap[r]? = some o ∧ o.isCells = false := by
      rintro r e; cases e; exact ⟨hlw, o, ho, hoc⟩
    have hI5 := (hI.grown hsz (World.grownBy_alloc W (.cells #[.int .i64 xk, .string xt, .int .u64 xn, .int .i64 xa, .slice xla xll xlc] 25) none) (fun r e => by cases e)).grown hsz hg5 hr5
    have hG5 := Lies.cefAt (D := walkD w.heap.size w2) (Nat.le_trans hnW ka.sz) (cef_grown hg5 (fun r e => ⟨Nat.le_trans hn0 (hr5 r e).1, (hr5 r e).2⟩)) (Lies.cefAt (D := walkD w.heap.size w2) hnW ka.cef hG)
    have rq : ((W.alloc (.cells #[.int .i64 xk, .string xt, .int .u64 xn, .int .i64 xa, .slice xla xll xlc] 25)).putObj l o').rangeAt W.heap.size 0 (⟨xk, xt, xn, xa, xla, xll, xlc⟩ : Hn).cells := by
      intro j v hv
      rw [Nat.zero_add]
      exact cell_kept (by rw [cell_of_row _ W.heap.size j _ _ _ (heap_alloc_new _ _)]; simpa using hv) hg5 (fun r e => (hr5 r e).2)
    obtain ⟨W5, hW5⟩ : ∃ W5, (W.alloc (.cells #[.int .i64 xk, .string xt, .int .u64 xn, .int .i64 xa, .slice xla xll xlc] 25)).putObj l o' = W5 := ⟨_, rfl⟩
    rw [hW5] at hI5 hG5 rq
    rw [hW5]
    clear hW5 hg5 hr5 ka ho
    obtain ⟨vn, vd, b1, b2, r1, r2⟩ := hI5.rows
    have m5 := hI5.kp.cellv HM2.out
    have hs5 := hI5.cef.size
    have hn5 : (walkD w.heap.size w2).n0 ≤ W5.heap.size := Nat.le_trans hn0 hs5
    have HI5 := Lib.hid hI5
    have HG5 := Lib.hid hG5
    have hpl : pre.length + 1 ≤ N := by have := HNN.out; omega
    have hmw := lt_of_cell HM2.out
    simp only at hmw
    clear hI hI5 hG hG5
    refine wpIn_block (wpIn_seq (regA (n - 1 - 1) l _ W5 W0.heap.size w2.heap.size W.heap.size vn pre.length _ ⟨xk, xt, xn, xa, xla, xll, xlc⟩ (by intro k hk; simp [WA] at hk; simp; omega) rfl b1 (by omega) hs5 rfl rq r1 (by have := HNN.out; have := HN.out; omega) ?_))
    rintro v g cap w6 o6 t6 n6 b6
    simp only [WA, List.foldl_cons, List.foldl_nil]
    have l1 := r1.lt
    have l2 := r2.lt
    have b26 := (t6.blk (w2.heap.size + 1) (Array.getElem?_eq_some_iff.1 b2).1 (fun e => by have := (l1 _ e.symm).1; omega) (fun e => by have := Option.some.inj e; omega)).trans b2
    have r26 := own_two r2 t6 (own_apart r2 r1 (by decide)) (.inr (fun e => by have := (l2 _ e).1; omega))
    have m6 := t6.cellv m5 (fun e => by have := (l1 _ e.symm).1; simp only at this; omega) (fun e => by have h9 : w.heap.size + 1 = w2.heap.size := Option.some.inj e; omega)
    have c26 := row_cell b26 0
    have f26 := frozen_of_row _ _ 0 _ _ b26
    have c6 := row_cell b6 0
    simp only [List.getElem?_toArray, List.getElem?_cons_zero] at c26 c6
    have HB26 := Lib.hid b26
    have HB6 := Lib.hid b6
    have HR26 := Lib.hid r26
    have HO6 := Lib.hid o6
    have HT6 := Lib.hid t6
    have HN6 := Lib.hid n6
    have HR1 := Lib.hid r1
    have HR2' := Lib.hid r2
    have HB1 := Lib.hid b1
    have HB2 := Lib.hid b2
    clear b26 b6 r26 o6 t6 n6 r1 r2 b1 b2 m5 rq
    have MA : Hid (∀ w7 : World, Two w6 w7 vd.ownBlock none → w7.heap[w2.heap.size]? = some (.cells #[.slice (some ⟨g, 0, none⟩) (pre.length + 1) cap] 23 (0, 0)) ∧ w7.heap[w2.heap.size + 1]? = some (.cells #[vd] 36 (0, 0)) ∧ w7.cell? ⟨w.heap.size + 1, 0, none⟩ = some (.int .i64 N)) := Lib.hid (fun w7 t7 =>
      ⟨(t7.blk _ (Array.getElem?_eq_some_iff.1 HB6.out).1 (fun e => by have := (l2 _ e.symm).1; omega) (by simp)).trans HB6.out,
       (t7.blk _ (Array.getElem?_eq_some_iff.1 HB26.out).1 (fun e => by have := (l2 _ e.symm).1; omega) (by simp)).trans HB26.out,
       t7.cellv m6 (fun e => by have := (l2 _ e.symm).1; simp only at this; omega) (by simp)⟩)
    have hne : ¬ (w2.heap.size = w2.heap.size + 1) := by omega
    have hne2 : ¬ (w.heap.size + 1 = w2.heap.size + 1) := by omega
    have d1 : decide ((N : Int) < ((pre.length : Nat) : Int) + 1) = false := decide_eq_false (by omega)
    obtain ⟨i4, hq, hq0, hq1, hq2⟩ := info_parts infoI
    gi_wp2_with (first | ((with_reducible show wpListIn _ _ _ _ _ (⟨some 29, _, _, _, _, _⟩ :: _) _ _); refine wpListIn_append_oneH (d := 29) _ _ 36 rfl W0.heap.size 3 i4 _ 1 8 Try.underlying36 hq hq0 hq1 hq2 rfl (by decide) vd pre.length _ (by rfl) w6 HR26.out [.int .i64 d] _ _ _ (by rfl) (by first | rfl | simp) (by rfl) (by rfl) (by intro u hu; simp at hu; subst hu; rfl) (by unfold maxLen; have := HNN.out; have := HN.out; omega) (by have := HNN.out; have := HN.out; omega) (by have := HT6.out.sz; omega) ?_; intro g2 cap2 w7 o7 t7 n7; obtain ⟨a7, a8, a9⟩ := MA.out w7 t7; have c7 := row_cell a7 0; have c8 := row_cell a8 0; have f8 := frozen_of_row _ _ 0 _ _ a8; simp only [List.getElem?_toArray, List.getElem?_cons_zero] at c7 c8))
    rw [← hsz]
    have r7n := own_two HO6.out t7 (own_apart HO6.out HR26.out (by decide)) (.inr (by simp [Value.ownBlock]))
    have hs6 := HT6.out.sz
    have hs7 := t7.sz
    obtain ⟨WE, hWE⟩ : ∃ WE, w7.setCell ⟨w2.heap.size + 1, 0, none⟩ (.slice (some ⟨g2, 0, none⟩) (pre.length + 1) cap2) = WE := ⟨_, rfl⟩
    have hsE : WE.heap.size = w7.heap.size := by rw [← hWE]; simp
    have so : ∀ b, b ≠ w2.heap.size + 1 → WE.heap[b]? = w7.heap[b]? := fun b hb => by rw [← hWE]; exact Below.heap_setCell _ _ _ _ hb
    have eN := (so w2.heap.size (by omega)).trans a7
    have eD : WE.heap[w2.heap.size + 1]? = some (.cells #[.slice (some ⟨g2, 0, none⟩) (pre.length + 1) cap2] 36 (0, 0)) := by rw [← hWE]; exact row_set a8
    have rN := own_two r7n (two_setCell w7 ⟨w2.heap.size + 1, 0, none⟩ (.slice (some ⟨g2, 0, none⟩) (pre.length + 1) cap2) none) (.inr (fun e => by have := (r7n.lt _ e).1; simp only at this; omega)) (.inr (by simp [Value.ownBlock]))
    have rD := own_two o7 (two_setCell w7 ⟨w2.heap.size + 1, 0, none⟩ (.slice (some ⟨g2, 0, none⟩) (pre.length + 1) cap2) none) (.inr (fun e => by have := (o7.lt _ e).1; simp only at this; omega)) (.inr (by simp [Value.ownBlock]))
    rw [hWE] at rN rD
    have cN := row_cell HB1.out 0
    have cD := row_cell HB2.out 0
    have dN := row_cell eN 0
    have dD := row_cell eD 0
    simp only [List.getElem?_toArray, List.getElem?_cons_zero] at cN cD dN dD
    have hA : ∀ b, ¬ (walkD w.heap.size w2).At W5 b → b ≠ w2.heap.size ∧ b ≠ w2.heap.size + 1 ∧ some b ≠ vn.ownBlock ∧ some b ≠ vd.ownBlock := fun b hb =>
      ⟨fun e => hb (.inl (.inl (.inl e))), fun e => hb (.inl (.inl (.inr e))), fun e => hb (.inr ⟨_, vn, .inl rfl, cN, e.symm⟩), fun e => hb (.inr ⟨_, vd, .inr rfl, cD, e.symm⟩)⟩
    have hc : Cef (walkD w.heap.size w2) W5 WE := Cef.mk' (by omega) (fun b hb hn => by
        obtain ⟨h1, h2, h3, h4⟩ := hA b hn
        exact (so b h2).trans ((t7.blk b (by omega) h4 (by simp)).trans (HT6.out.blk b hb h3 (fun e => h1 (Option.some.inj e))))) (fun hn q hq u hu g' hg' => by
        rcases hq with rfl | rfl
        · rw [dN] at hu; cases hu
          cases hg'
          refine ⟨?_, (rN.lt g rfl).2⟩
          rcases HN6.out with e | ⟨g3, e, h3⟩
          · exact .inl (.inr ⟨_, vn, .inl rfl, cN, e.symm⟩)
          · cases e; exact .inr h3
        · rw [dD] at hu; cases hu
          cases hg'
          refine ⟨?_, (rD.lt g2 rfl).2⟩
          rcases n7 with e | ⟨g3, e, h3⟩
          · exact .inl (.inr ⟨_, vd, .inr rfl, cD, e.symm⟩)
          · cases e; exact .inr (Nat.le_trans hs6 h3))
    have hkf : KeepsFrom W0.heap.size W5 WE := (KeepsFrom.of_two HT6.out (own_cells HR1.out) (fun g e => by cases e; exact ⟨_, HB1.out, rfl⟩)).trans ((KeepsFrom.of_two t7 (own_cells HR26.out) (fun g e => by cases e)).trans (by rw [← hWE]; exact (KeepsOthers.setCell w7 _ _).from _))
    have hkp : Kp w2 WE := by
      rw [← hWE]
      exact (Two.kp t7 (Two.kp HT6.out HI5.out.kp (fun g e => by have := (l1 g e).1; omega) (fun g e => by cases e; exact Nat.le_refl _)) (fun g e => by have := (l2 g e).1; omega) (fun g e => by cases e)).setCell (by show w2.heap.size ≤ w2.heap.size + 1; omega) _
    rw [hWE]
    refine ⟨hkf, hc, ⟨_, _, eN, eD, ?_, ?_⟩, hkp, HI5.out.cef.trans hc, fun y hy => ?_⟩
    · rw [List.length_append, List.length_singleton, List.flatMap_append, List.flatMap_singleton]; exact rN
    · rw [List.length_append, List.length_singleton, List.map_append, List.map_singleton]; exact rD
    · rcases List.mem_append.1 hy with hy | hy
      · exact Lies.cefAt (D := walkD w.heap.size w2) hn5 hc (HI5.out.lies y hy)
      · obtain rfl := List.mem_singleton.1 hy
        exact Lies.cefAt (D := walkD w.heap.size w2) hn5 hc HG5.out
  case done =>
    rintro Dd xs W hD hxs hI hK
    obtain ⟨vn, vd, b1, b2, r1, r2⟩ := hI.rows
    have cN := row_cell b1 0
    have cD := row_cell b2 0
    simp only [List.getElem?_toArray, List.getElem?_cons_zero] at cN cD
    have hkw := hI.kp
    obtain ⟨an, ln, kn, rfl⟩ : ∃ a l c, vn = .slice a l c := by rcases r1.2 with ⟨e, _⟩ | ⟨g, cap, cur, e, _⟩ <;> exact ⟨_, _, _, e⟩
    obtain ⟨ad, ld, kd, rfl⟩ : ∃ a l c, vd = .slice a l c := by rcases r2.2 with ⟨e, _⟩ | ⟨g, cap, cur, e, _⟩ <;> exact ⟨_, _, _, e⟩
    have HI := Lib.hid hI
    have HR1 := Lib.hid r1
    have HR2 := Lib.hid r2
    have HZW2 := Lib.hid ((hkw.blk (by omega)).trans HZ2.out)
    have HKK := Lib.hid hK
    clear hI r1 r2
    have z2 := (hkw.blk (by omega)).trans HZ2.out
    have z3 := (hkw.blk (by omega)).trans HZ3.out
    have z4 := (hkw.blk (by omega)).trans HZ4.out
    have q2 := row_cell z2 0
    have q3 := row_cell z3 0
    have q4 := row_cell z4 0
    simp only [List.getElem?_toArray, List.getElem?_cons_zero] at q2 q3 q4
    have p2 := frozen_of_row _ _ 0 _ _ z2
    have p3 := frozen_of_row _ _ 0 _ _ z3
    have p4 := frozen_of_row _ _ 0 _ _ z4
    have hneq : w.heap.size + 1 + 1 + 1 + 1 < W.heap.size := by have := hkw.sz; omega
    have hx1 : ¬ (w.heap.size + 1 + 1 = w2.heap.size) := by omega
    have hx2 : ¬ (w.heap.size + 1 + 1 = w2.heap.size + 1) := by omega
    have hx3 : ¬ (w.heap.size + 1 + 1 + 1 = w2.heap.size) := by omega
    have hx4 : ¬ (w.heap.size + 1 + 1 + 1 = w2.heap.size + 1) := by omega
    gi_wp2
    gi_region
    gi_wp2
    obtain ⟨WE, hWE⟩ : ∃ WE, (((W.setCell ⟨w.heap.size + 1 + 1, 0, none⟩ (.slice an ln kn)).setCell ⟨w.heap.size + 1 + 1 + 1, 0, none⟩ (.slice ad ld kd)).setCell ⟨w.heap.size + 1 + 1 + 1 + 1, 0, none⟩ (.bool true)).drew = WE := ⟨_, rfl⟩
    have so : ∀ b, b ≠ w.heap.size + 1 + 1 → b ≠ w.heap.size + 1 + 1 + 1 → b ≠ w.heap.size + 1 + 1 + 1 + 1 → WE.heap[b]? = W.heap[b]? := fun b h1 h2 h3 => by
      rw [← hWE]
      exact (Below.heap_setCell _ _ _ _ h3).trans ((Below.heap_setCell _ _ _ _ h2).trans (Below.heap_setCell _ _ _ _ h1))
    have x2 : WE.heap[w.heap.size + 1 + 1]? = some (.cells #[.slice an ln kn] 23 (0, 0)) := by
      rw [← hWE]
      exact (Below.heap_setCell _ _ _ _ (by show w.heap.size + 1 + 1 ≠ w.heap.size + 1 + 1 + 1 + 1; omega)).trans ((Below.heap_setCell _ _ _ _ (by show w.heap.size + 1 + 1 ≠ w.heap.size + 1 + 1 + 1; omega)).trans (row_set z2))
    have x3 : WE.heap[w.heap.size + 1 + 1 + 1]? = some (.cells #[.slice ad ld kd] 36 (0, 0)) := by
      rw [← hWE]
      exact (Below.heap_setCell _ _ _ _ (by show w.heap.size + 1 + 1 + 1 ≠ w.heap.size + 1 + 1 + 1 + 1; omega)).trans (row_set ((Below.heap_setCell _ _ _ _ (by show w.heap.size + 1 + 1 + 1 ≠ w.heap.size + 1 + 1; omega)).trans z3))
    have x4 : WE.heap[w.heap.size + 1 + 1 + 1 + 1]? = some (.cells #[.bool true] 4 (0, 0)) := by
      rw [← hWE]
      exact row_set ((Below.heap_setCell _ _ _ _ (by show w.heap.size + 1 + 1 + 1 + 1 ≠ w.heap.size + 1 + 1 + 1; omega)).trans ((Below.heap_setCell _ _ _ _ (by show w.heap.size + 1 + 1 + 1 + 1 ≠ w.heap.size + 1 + 1; omega)).trans z4))
    have hsE : WE.heap.size = W.heap.size := by rw [← hWE]; simp
    have hKE : WE.heap[Dd]? = some (.deferred (some [])) := (so Dd (by omega) (by omega) (by omega)).trans HKK.out
    have c2 := row_cell x2 0
    have c3 := row_cell x3 0
    have c4 := row_cell x4 0
    simp only [List.getElem?_toArray, List.getElem?_cons_zero] at c2 c3 c4
    have gk := grownBy_putObj' WE Dd (.deferred none)
    have gr : ∀ r, some Dd = some r → ∃ o : Obj, WE.heap[r]? = some o ∧ o.isCells = false := fun r e => by cases e; exact ⟨_, hKE, rfl⟩
    have k2 := cell_kept c2 gk gr
    have k3 := cell_kept c3 gk gr
    have k4 := cell_kept c4 gk gr
    have l1 := HR1.out.lt
    have l2 := HR2.out.lt
    rw [hWE]
    refine ⟨by simp, .inl ⟨_, _, rfl, run_takeDeferred hKE, ?_⟩⟩
    refine ⟨.tuple #[.slice an ln kn, .slice ad ld kd, .bool true], by simp [results, Try.results23, go_sem, k2, k3, k4], _, _, xs, rfl, hxs, ?_, ?_, ?_, ?_⟩
    · refine own_mono (own_grown (own_at HR1.out (fun g e => so g ?_ ?_ ?_)) gk gr) (by omega) <;> (have := (l1 g e).1; omega)
    · refine own_mono (own_grown (own_at HR2.out (fun g e => so g ?_ ?_ ?_)) gk gr) (by omega) <;> (have := (l2 g e).1; omega)
    · intro x hx
      have t1 : Lies WE (Out ((walkD w.heap.size w2).At W)) R x.2.1 x.2.2 := (HI.out.lies x hx).turn (N := fun b => b = w.heap.size + 1 + 1 ∨ b = w.heap.size + 1 + 1 + 1 ∨ b = w.heap.size + 1 + 1 + 1 + 1)
        (fun b _ hn => so b (fun e => hn (.inl e)) (fun e => hn (.inr (.inl e))) (fun e => hn (.inr (.inr e)))) (Nat.le_of_eq hsE.symm) (fun b _ (hb : ¬ (walkD w.heap.size w2).At W b) (hn : b = w.heap.size + 1 + 1 ∨ b = w.heap.size + 1 + 1 + 1 ∨ b = w.heap.size + 1 + 1 + 1 + 1) => hb (.inl (.inr (show w.heap.size ≤ b ∧ b < w.heap.size + 5 ∧ b < w2.heap.size by omega))))
      have t2 : Lies WE (Out (fun _ => False)) R x.2.1 x.2.2 := t1.weak ⟨fun h => (show False from h).elim, fun b _ h => h⟩
      exact (Lies.cel (Cel.putObj WE Dd _ _ hKE rfl) t2).weak (A0_le _)
    · have hkw2 : Kp w w2 := (Kp.back HW1.out (by (repeat (first | with_reducible exact Kp.refl _ | with_reducible refine Kp.alloc ?_ _)))).trans HW2.out
      have hkE : Kp w WE := by
        rw [← hWE]
        exact ((((hkw2.trans hkw).setCell (by show w.heap.size ≤ w.heap.size + 1 + 1; omega) _).setCell (by show w.heap.size ≤ w.heap.size + 1 + 1 + 1; omega) _).setCell (by show w.heap.size ≤ w.heap.size + 1 + 1 + 1 + 1; omega) _).drew
      exact Below.trans hkE (belowK_b (w := w) (Nat.le_refl _) _ Dd _ _ (by omega) hKE rfl rfl)
  case stop =>
    rintro Dd c pre W _ _ h _
    exact h.elim
end Go.Proofs.Ytgamenimbkafjaa
