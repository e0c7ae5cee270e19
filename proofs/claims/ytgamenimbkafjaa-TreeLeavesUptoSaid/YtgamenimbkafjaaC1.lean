/- check of package tree: whether a node is of a sort, and all nodes in it are as their Kinds ask, few enough and not too deep. Condition: the node lies in memory; what isFormed answers of each node is handed in. -/
import Derived.Test.YtgamenimbkafjaaK
import Derived.Test.YtgamenimbkafjaaF12
namespace Go.Proofs.Ytgamenimbkafjaa
open Go.RowKit Go.Shelf
set_option linter.unusedVariables false
set_option linter.unusedSimpArgs false
attribute [local go_sem] Oper.semAt_some

/-- Are all nodes with their depths within the limits, and as their Kinds ask? -/
noncomputable def okL (l : List (Int × Nd)) : Bool := @decide (l.length ≤ 16384 ∧ ∀ y ∈ l, y.1 ≤ 64 ∧ formN y.2 = true) (Classical.propDecidable _)
/-- The number of an error. -/
def errOf (b : Bool) : Int := match b with | true => 0 | false => 1
def FormsOK (X : Nd) : Prop := ∀ (r : Nat) (h : Hn) (w : World), Lies w A0 r X h → Calls Try.prog 40 #[h.val] w fun e w' => e = .returned (.bool (formN X)) ∧ Kp w w'
theorem okL_yes {l : List (Int × Nd)} (h1 : l.length ≤ 16384) (h2 : ∀ y ∈ l, y.1 ≤ 64 ∧ formN y.2 = true) : okL l = true := by unfold okL; exact dec_yes ⟨h1, h2⟩
/-- A beginning that is at fault. -/
def BadL (l : List (Int × Nd)) : Prop := 16384 < l.length ∨ ∃ y ∈ l, 64 < y.1 ∨ formN y.2 = false
theorem okL_no {l l' : List (Int × Nd)} (hp : l' <+: l) (hb : BadL l') : okL l = false := by
  unfold okL
  refine dec_no (fun ⟨h1, h2⟩ => ?_)
  rcases hb with hb | ⟨y, hy, hb⟩
  · have := hp.length_le; omega
  · have := h2 y (hp.subset hy)
    rcases hb with hb | hb
    · omega
    · rw [hb] at this; cases this.2
/-- The nodes that a loop has gone through were as they should be. -/
def GoodL (l : List (Int × Nd)) : Prop := l.length ≤ 16384 ∧ ∀ y ∈ l, y.1 ≤ 64 ∧ formN y.2 = true
theorem GoodL.snoc {l : List (Int × Nd)} {y : Int × Nd} (h : GoodL l) (h1 : l.length + 1 ≤ 16384) (h2 : y.1 ≤ 64) (h3 : formN y.2 = true) : GoodL (l ++ [y]) :=
  ⟨by simpa using h1, fun z hz => by
    rcases List.mem_append.1 hz with hz | hz
    · exact h.2 z hz
    · obtain rfl : z = y := by simpa using hz
      exact ⟨h2, h3⟩⟩
theorem ownFrom_cel {β : Type} {B : Nat} {C : Nat → Prop} {W0 : World} : OwnFrom B (fun (_ : β) W => Cel C W0 W) := fun s A B' row hs hg hr =>
  ⟨fun p v hp hc => cell_kept (hs.cell p v hp hc) hg (fun r e => (hr r e).2), Nat.le_trans hs.size hg.size⟩
theorem own_row {A B : World} {row : Option Nat} {base b : Nat} {cs : Array Value} {t : TypeId} {fr : Nat × Nat} (h : A.heap[b]? = some (.cells cs t fr)) (hg : A.grownBy B row) (hr : ∀ r, row = some r → base ≤ r ∧ ∃ o : Obj, A.heap[r]? = some o ∧ o.isCells = false) : B.heap[b]? = some (.cells cs t fr) :=
  (hg.block b (Array.getElem?_eq_some_iff.1 h).1 (fun e => by
    obtain ⟨_, o, ho, hc⟩ := hr b e.symm
    rw [h] at ho
    cases ho
    cases hc)).trans h
theorem row_set {W : World} {b : Nat} {t : TypeId} {v v' : Value} (h : W.heap[b]? = some (.cells #[v] t (0, 0))) : (W.setCell ⟨b, 0, none⟩ v').heap[b]? = some (.cells #[v'] t (0, 0)) := Boxed.set (t := t) v' h
theorem ret_err {a b : Int} (h : a = b) : Ending.returned (.int .i64 a) = .returned (.int .i64 b) := by rw [h]
set_option maxRecDepth 100000 in
set_option maxHeartbeats 8000000 in
theorem check_ty (n : Nat) (hn : 3 ≤ n) (R : Nat) (T : Nd) (h : Hn) (w : World) (hl : Lies w A0 R T h) (hT : tyK h.k = true) (hM : ∀ y, y ∈ flatN R 0 T → FormsOK y.2) :
    CallsIn Fence.wide n Try.prog 30 #[h.val, .func (.func 34) #[] #[]] w fun e w' => e = .returned (.int .i64 (errOf (okL (flatN R 0 T)))) ∧ Kp w w' := by
  have hn1 : 1 ≤ n := by omega
  obtain ⟨k, tx, nn, at_, la, ll, lc⟩ := h
  simp only at hT
  have HL := Lib.hid hl
  have HM := Lib.hid hM
  clear hl hM
  have hro : Fence.wide.round = none := rfl
  have CR := Lib.hid (fun (W : World) (m : Nat) => (callsIn_wide (n := m)).2 (c_isType ⟨k, tx, nn, at_, la, ll, lc⟩ W))
  refine callsIn_of_wp_marks Try.func30 rfl trivial ?_ hro
  simp only [Try.ntmps30, List.size_toArray, List.length_cons, List.length_nil, Nat.reduceAdd, Nat.reduceSub, Array.replicate_succ, Array.replicate_zero, List.push_toArray, List.append_toArray, List.nil_append, List.cons_append]
  gi_wp2_with (first | (refine ⟨trivial, ?_⟩; gi_at_call 34; (with_reducible refine (CR.out _ _).mono ?_); rintro e w1 ⟨rfl, hk1⟩; rw [hT]; have b := boxed (w := w) (h := ⟨k, tx, nn, at_, la, ll, lc⟩) (show Kp _ w1 from Kp.back hk1 ((Kp.refl _).alloc _)); simp only at b; obtain ⟨b0, b1, b2, b3, b4, bs⟩ := b; have bl := lt_of_cell b0) | ((try refine ⟨trivial, ?_⟩); gi_at_call 35; refine (each_in Fence.wide (n - 1) trivial hro ⟨k, tx, nn, at_, la, ll, lc⟩ _).mono ?_; rintro e w' ⟨rfl, rfl⟩))
  have hrb := (hk1.blk (b := w.heap.size + 1) (by simp)).trans (heap_at (w := w.alloc (.cells #[.int .i64 k, .string tx, .int .u64 nn, .int .i64 at_, .slice la ll lc] 25)) (o := .cells #[.int .i64 0] 26) (by simp))
  have hkw1 : Kp w w1 := Kp.back hk1 (((Kp.refl w).alloc _).alloc _)
  obtain ⟨W0, hW0⟩ : ∃ W0, (w1.alloc (.cells #[.int .i64 0] 3)).alloc (.cells #[.int .i64 k, .string tx, .int .u64 nn, .int .i64 at_, .slice la ll lc] 25) = W0 := ⟨_, rfl⟩
  have hB1 : Kp w1 W0 := by rw [← hW0]; exact ((Kp.refl w1).alloc _).alloc _
  have hsz : W0.heap.size = w1.heap.size + 1 + 1 := by rw [← hW0]; simp
  have hnb : W0.heap[w1.heap.size]? = some (.cells #[.int .i64 0] 3 (0, 0)) := by rw [← hW0]; exact (((Kp.refl _).alloc _).blk (by simp)).trans (heap_alloc_new w1 _)
  have hrN : W0.rangeAt (w1.heap.size + 1) 0 (⟨k, tx, nn, at_, la, ll, lc⟩ : Hn).cells := by
    rw [← hW0]
    intro j v hv
    rw [Nat.zero_add, cell_of_row _ (w1.heap.size + 1) j _ _ _ (heap_at (by simp))]
    simpa using hv
  have hlt1 : w.heap.size + 1 < w1.heap.size := (Array.getElem?_eq_some_iff.1 hrb).1
  have hrb0 : W0.heap[w.heap.size + 1]? = some (.cells #[.int .i64 0] 26 (0, 0)) := (hB1.blk (by omega)).trans hrb
  rw [hW0]
  have HW := Lib.hid hW0
  clear hW0
  have hB0 : Kp w W0 := hkw1.trans hB1
  have HL0 : Hid (Lies W0 (Out (fun b => b = w1.heap.size ∨ b = w.heap.size + 1)) R T ⟨k, tx, nn, at_, la, ll, lc⟩) := Lib.hid (out_of HL.out hB0 (fun b hb => by omega))
  have hCl : ∀ b, (b = w1.heap.size ∨ b = w.heap.size + 1) → b < W0.heap.size := fun b hb => by omega
  have HSZ := Lib.hid hsz
  clear hsz
  refine wpIn_rangeFunc_ownH hro hn1 (gf := 43) (lb := #[.pointer (some ⟨w1.heap.size + 1, 0, none⟩)]) rfl trivial (enters_of Try.func43 (by kernel_rfl) rfl)
    (each_stops Fence.wide rfl (n - 1) trivial trivial hro R (w1.heap.size + 1) W0 W0 (fun b => b = w1.heap.size ∨ b = w.heap.size + 1) (fun y => FormsOK y.2) hCl T ⟨k, tx, nn, at_, la, ll, lc⟩ HL0.out HM.out (Cel.refl _ _) hrN) (fun h k => h.trans k) celK_b (Below.refl _ _) (fun _ => rfl)
    (fun pre W => ((W.heap[w1.heap.size]? = some (.cells #[.int .i64 pre.length] 3 (0, 0)) ∧ W.heap[w.heap.size + 1]? = some (.cells #[.int .i64 0] 26 (0, 0))) ∧ Kp w W) ∧ Cel (fun b => b = w1.heap.size ∨ b = w.heap.size + 1) W0 W ∧ GoodL (pre.map Item.pr))
    (fun c pre W => (W.heap[w.heap.size + 1]? = some (.cells #[.int .i64 1] 26 (0, 0)) ∧ Kp w W) ∧ c = Code.ret ∧ BadL (pre.map Item.pr))
    (fun pre A B' row hs hg hr => ⟨⟨⟨own_row hs.1.1.1 hg hr, own_row hs.1.1.2 hg hr⟩, hs.1.2.grown hg (fun k e => Nat.le_trans hB0.sz (hr k e).1)⟩, ownFrom_cel (β := Unit) () A B' row hs.2.1 hg hr, hs.2.2⟩)
    (fun c pre A B' row hs hg hr => ⟨⟨own_row hs.1.1 hg hr, hs.1.2.grown hg (fun k e => Nat.le_trans hB0.sz (hr k e).1)⟩, hs.2⟩)
    ⟨⟨⟨hnb, hrb0⟩, hB0⟩, Cel.refl _ _, ⟨by simp, by simp⟩⟩
    (fun x a' W => ∃ q, a' = ⟨#[(⟨k, tx, nn, at_, la, ll, lc⟩ : Hn).val, .func (.func 34) #[] #[], .pointer (some ⟨w.heap.size, 0, none⟩), undef, .pointer (some ⟨w.heap.size + 1, 0, none⟩), .pointer (some ⟨w1.heap.size, 0, none⟩), .int .i64 x.1.1, .pointer (some ⟨q, 0, none⟩), .func (.func 34) #[] #[], .agg #[.int .i64 k, .string tx, .int .u64 nn, .int .i64 at_, .slice la ll lc], .bool true, .bool false, .agg #[.int .i64 k, .string tx, .int .u64 nn, .int .i64 at_, .slice la ll lc], .func (.func 43) #[] #[.pointer (some ⟨w1.heap.size + 1, 0, none⟩)], .int .i64 x.1.1, x.1.2.2.val, undef, undef, undef, undef, undef, undef, undef, undef, undef, undef, undef, undef, undef], []⟩ ∧ W0.heap.size ≤ q ∧ W.rangeAt q 0 x.1.2.2.cells)
    ?ax ?assign ?body ?done ?stop
  case ax =>
    rintro x a' s A B row ⟨q, h1, h2, h3⟩ hg hr
    exact ⟨q, h1, h2, fun j v hv => cell_kept (h3 j v hv) hg (fun r e => (hr r e).2)⟩
  case assign =>
    rintro l pre x W K ⟨⟨⟨hnb, hrb⟩, hB⟩, hC, hG⟩ hK
    gi_wp2
    refine hK _ _ (KeepsFrom.of_grownBy (World.grownBy_alloc W _ none) (by simp)) (((Kp.refl W).alloc _).cel) ⟨⟨⟨(((Kp.refl W).alloc _).blk (Array.getElem?_eq_some_iff.1 hnb).1).trans hnb, (((Kp.refl W).alloc _).blk (Array.getElem?_eq_some_iff.1 hrb).1).trans hrb⟩, hB.alloc _⟩, hC.trans (((Kp.refl W).alloc _).cel), hG⟩ ⟨W.heap.size, ?_, by have := hC.size; omega, fun j v hv => ?_⟩
    · rfl
    · rw [Nat.zero_add, cell_of_row _ _ _ _ _ _ (heap_alloc_new _ _)]; simpa using hv
  case body =>
    rintro l pre x a' W hlw ⟨rl, hrl⟩ ⟨⟨⟨hnb, hrb⟩, hB⟩, hC, hG⟩ ⟨q, rfl, hq, hqr⟩ hlen
    have hm := hG.1
    rw [List.length_map] at hm
    have g0 := row_cell hnb 0
    have gf := frozen_of_row _ _ 0 _ _ hnb
    have r0 := row_cell hrb 0
    have rf := frozen_of_row _ _ 0 _ _ hrb
    simp at g0 r0
    obtain ⟨x0, x1, x2, x3, x4⟩ := node_at hqr
    have hnq : w1.heap.size ≠ q := by have := HSZ.out; omega
    have hrq : w.heap.size + 1 ≠ q := by have := HSZ.out; omega
    have hql := lt_of_cell x0
    have HG := Lib.hid hG
    have HNB := Lib.hid hnb
    have HRB := Lib.hid hrb
    have HC := Lib.hid hC
    have HBW := Lib.hid hB
    have HQR := Lib.hid hqr
    clear hG hnb hrb hC hB hqr
    have CF := Lib.hid (fun (W' : World) (m : Nat) (hc : Cel (fun b => b = w1.heap.size ∨ b = w.heap.size + 1) W0 W') => (show CallsIn (Fence.wide.inRound l) m _ _ _ _ _ from (callsIn_wide (n := m)).2 (x.2.2 R x.1.2.2 W' ((Lies.cel hc x.2.1).weak (A0_le _)))))
    have hnr : w1.heap.size ≠ w.heap.size + 1 := by omega
    have hC1 : Cel (fun b => b = w1.heap.size ∨ b = w.heap.size + 1) W (W.setCell ⟨w1.heap.size, 0, none⟩ (.int .i64 ((pre.length : Int) + 1))) := cel_set W _ _ (.inl rfl)
    have hN1 : (W.setCell ⟨w1.heap.size, 0, none⟩ (.int .i64 ((pre.length : Int) + 1))).heap[w1.heap.size]? = some (.cells #[.int .i64 (((pre ++ [x]).length : Nat) : Int)] 3 (0, 0)) := by
      rw [List.length_append, List.length_singleton]
      exact row_set HNB.out
    have hR1 : (W.setCell ⟨w1.heap.size, 0, none⟩ (.int .i64 ((pre.length : Int) + 1))).heap[w.heap.size + 1]? = some (.cells #[.int .i64 0] 26 (0, 0)) := (Below.heap_setCell _ _ _ _ (Ne.symm hnr)).trans HRB.out
    have hB1' : Kp w (W.setCell ⟨w1.heap.size, 0, none⟩ (.int .i64 ((pre.length : Int) + 1))) := HBW.out.setCell (by show w.heap.size ≤ w1.heap.size; omega) _
    have hK1 : KeepsFrom W0.heap.size W (W.setCell ⟨w1.heap.size, 0, none⟩ (.int .i64 ((pre.length : Int) + 1))) := (KeepsOthers.setCell W _ _).from _
    obtain ⟨W2, hW2⟩ : ∃ W2, W.setCell ⟨w1.heap.size, 0, none⟩ (.int .i64 ((pre.length : Int) + 1)) = W2 := ⟨_, rfl⟩
    have HS := Lib.hid hW2
    rw [hW2] at hC1 hN1 hR1 hB1' hK1
    have rfz := frozen_of_row _ _ 0 _ _ hR1
    have HC1 := Lib.hid hC1
    have HN1 := Lib.hid hN1
    have HR1 := Lib.hid hR1
    have HB1 := Lib.hid hB1'
    have HK1 := Lib.hid hK1
    clear hW2 hC1 hN1 hR1 hB1' hK1
    have hl1 : (pre ++ [x]).map Item.pr = pre.map Item.pr ++ [(x.1.1, x.1.2.1)] := by simp [Item.pr]
    have HL1 := Lib.hid hl1
    clear hl1
    have bad : ∀ (W3 : World), Kp W2 W3 → BadL (pre.map Item.pr ++ [(x.1.1, x.1.2.1)]) → (KeepsFrom W0.heap.size W (W3.setCell ⟨w.heap.size + 1, 0, none⟩ (.int .i64 1))) ∧ ((W3.setCell ⟨w.heap.size + 1, 0, none⟩ (.int .i64 1)).heap[w.heap.size + 1]? = some (.cells #[.int .i64 1] 26 (0, 0)) ∧ Kp w (W3.setCell ⟨w.heap.size + 1, 0, none⟩ (.int .i64 1))) ∧ Code.ret = Code.ret ∧ BadL ((pre ++ [x]).map Item.pr) := by
      intro W3 hk hb
      refine ⟨(HK1.out.trans (KeepsFrom.of_grownBy (row := none) ⟨hk.os, hk.tape, hk.output, hk.size, fun i hi _ => hk.blk hi⟩ (by simp))).trans ((KeepsOthers.setCell W3 _ _).from _), ⟨row_set ((hk.blk (Array.getElem?_eq_some_iff.1 HR1.out).1).trans HR1.out), (HB1.out.trans hk).setCell (by show w.heap.size ≤ w.heap.size + 1; omega) _⟩, rfl, by rw [HL1.out]; exact hb⟩
    have BAD := Lib.hid bad
    clear bad
    by_cases h1 : pre.length + 1 ≤ 16384
    · have d1 : decide ((16384 : Int) < ((pre.length : Nat) : Int) + 1) = false := decide_eq_false (by omega)
      by_cases h2 : x.1.1 ≤ 64
      · have d2 : decide ((64 : Int) < x.1.1) = false := decide_eq_false (by omega)
        cases h3 : formN x.1.2.1 with
        | true =>
          gi_wp2_with (first | (refine ⟨trivial, fun h => absurd h (by decide), ?_⟩; gi_at_call 40; go_loud (rw [HS.out]; refine (CF.out _ _ (HC.out.trans HC1.out)).mono ?_; rintro e w3 ⟨rfl, hk3⟩; rw [h3]; have rf3 := frozen_of_row _ _ 0 _ _ ((hk3.blk (Array.getElem?_eq_some_iff.1 HR1.out).1).trans HR1.out); have rc3 := row_cell ((hk3.blk (Array.getElem?_eq_some_iff.1 HR1.out).1).trans HR1.out) 0; simp only [List.getElem?_toArray, List.getElem?_cons_zero] at rc3)) | (refine ⟨trivial, ?_⟩))
          exact ⟨HK1.out.trans (KeepsFrom.of_grownBy (row := none) ⟨hk3.os, hk3.tape, hk3.output, hk3.size, fun i hi _ => hk3.blk hi⟩ (by simp)), HC1.out.trans hk3.cel, ⟨⟨(hk3.blk (Array.getElem?_eq_some_iff.1 HN1.out).1).trans HN1.out, (hk3.blk (Array.getElem?_eq_some_iff.1 HR1.out).1).trans HR1.out⟩, HB1.out.trans hk3⟩, (HC.out.trans HC1.out).trans hk3.cel, by rw [HL1.out]; exact HG.out.snoc (by rw [List.length_map]; exact h1) h2 h3⟩
        | false =>
          gi_wp2_with (first | (refine ⟨trivial, fun h => absurd h (by decide), ?_⟩; gi_at_call 40; go_loud (rw [HS.out]; refine (CF.out _ _ (HC.out.trans HC1.out)).mono ?_; rintro e w3 ⟨rfl, hk3⟩; rw [h3]; have rf3 := frozen_of_row _ _ 0 _ _ ((hk3.blk (Array.getElem?_eq_some_iff.1 HR1.out).1).trans HR1.out); have rc3 := row_cell ((hk3.blk (Array.getElem?_eq_some_iff.1 HR1.out).1).trans HR1.out) 0; simp only [List.getElem?_toArray, List.getElem?_cons_zero] at rc3)) | (refine ⟨trivial, ?_⟩))
          have h4 := BAD.out _ hk3 (.inr ⟨_, List.mem_append_right _ (List.mem_singleton.2 rfl), .inr h3⟩)
          exact ⟨h4.1, h4.2.1, rfl, h4.2.2.2⟩
      · have d2 : decide ((64 : Int) < x.1.1) = true := decide_eq_true (by omega)
        gi_wp2_with (first | (refine ⟨trivial, fun h => absurd h (by decide), ?_⟩; gi_at_call 40; go_loud (rw [HS.out]; refine (CF.out _ _ (HC.out.trans HC1.out)).mono ?_; rintro e w3 ⟨rfl, hk3⟩; rw [h3]; have rf3 := frozen_of_row _ _ 0 _ _ ((hk3.blk (Array.getElem?_eq_some_iff.1 HR1.out).1).trans HR1.out); have rc3 := row_cell ((hk3.blk (Array.getElem?_eq_some_iff.1 HR1.out).1).trans HR1.out) 0; simp only [List.getElem?_toArray, List.getElem?_cons_zero] at rc3)) | (refine ⟨trivial, ?_⟩))
        have h4 := BAD.out _ (Kp.refl W2) (.inr ⟨_, List.mem_append_right _ (List.mem_singleton.2 rfl), .inl (by show (64 : Int) < x.1.1; omega)⟩)
        first | exact ⟨h4.1, h4.2.1, rfl, h4.2.2.2⟩ | (rw [HS.out]; exact ⟨h4.1, h4.2.1, rfl, h4.2.2.2⟩)
    · have d1 : decide ((16384 : Int) < ((pre.length : Nat) : Int) + 1) = true := decide_eq_true (by omega)
      gi_wp2_with (first | (refine ⟨trivial, fun h => absurd h (by decide), ?_⟩; gi_at_call 40; go_loud (rw [HS.out]; refine (CF.out _ _ (HC.out.trans HC1.out)).mono ?_; rintro e w3 ⟨rfl, hk3⟩; rw [h3]; have rf3 := frozen_of_row _ _ 0 _ _ ((hk3.blk (Array.getElem?_eq_some_iff.1 HR1.out).1).trans HR1.out); have rc3 := row_cell ((hk3.blk (Array.getElem?_eq_some_iff.1 HR1.out).1).trans HR1.out) 0; simp only [List.getElem?_toArray, List.getElem?_cons_zero] at rc3)) | (refine ⟨trivial, ?_⟩))
      have h4 := BAD.out _ (Kp.refl W2) (.inl (by rw [List.length_append, List.length_map]; simp; omega))
      first | exact ⟨h4.1, h4.2.1, rfl, h4.2.2.2⟩ | (rw [HS.out]; exact ⟨h4.1, h4.2.1, rfl, h4.2.2.2⟩)
  case done =>
    rintro D ys W hD hys ⟨⟨⟨hnb, hrb⟩, hB⟩, hC, hG⟩ hK
    rw [hys] at hG
    have HOK := Lib.hid (show (0 : Int) = (errOf (okL (flatN R 0 T))) from by rw [okL_yes hG.1 hG.2]; rfl)
    clear hG
    have rf := frozen_of_row _ _ 0 _ _ hrb
    have r0 := row_cell hrb 0
    simp at r0
    have hrs := row_set (v' := .int .i64 0) hrb
    have hDn : w.heap.size + 1 ≠ D := by have := HSZ.out; omega
    have hwD : w.heap.size ≤ D := by have := HSZ.out; omega
    gi_wp2
    have hK' : (W.setCell ⟨w.heap.size + 1, 0, none⟩ (.int .i64 0)).heap[D]? = some (.deferred (some [])) := (Below.heap_setCell _ _ _ _ (Ne.symm hDn)).trans hK
    have hc := row_cell hrs 0
    simp only [List.getElem?_toArray, List.getElem?_cons_zero] at hc
    refine ⟨by simp, .inl ⟨_, _, rfl, run_takeDeferred hK', ?_⟩⟩
    have hcd := cell_kept hc (grownBy_putObj' (W.setCell ⟨w.heap.size + 1, 0, none⟩ (.int .i64 0)) D (.deferred none)) (fun r e => by cases e; exact ⟨_, hK', rfl⟩)
    exact ⟨.int .i64 0, by simp [results, Try.results30, go_sem, hcd], ret_err HOK.out, Below.trans (hB.setCell (p := ⟨w.heap.size + 1, 0, none⟩) (by show w.heap.size ≤ w.heap.size + 1; omega) _) (belowK_b (w := w) (Nat.le_refl _) _ D _ _ hwD hK' rfl rfl)⟩
  case stop =>
    rintro D c pre W hD hp ⟨⟨hrb, hB⟩, rfl, hb⟩ hK
    have HOK := Lib.hid (show (1 : Int) = (errOf (okL (flatN R 0 T))) from by rw [okL_no hp hb]; rfl)
    clear hb hp
    have hDn : w.heap.size + 1 ≠ D := by have := HSZ.out; omega
    have hwD : w.heap.size ≤ D := by have := HSZ.out; omega
    gi_wp2
    have hc := row_cell hrb 0
    simp only [List.getElem?_toArray, List.getElem?_cons_zero] at hc
    refine ⟨by simp, .inl ⟨_, _, rfl, run_takeDeferred hK, ?_⟩⟩
    have hcd := cell_kept hc (grownBy_putObj' W D (.deferred none)) (fun r e => by cases e; exact ⟨_, hK, rfl⟩)
    exact ⟨.int .i64 1, by simp [results, Try.results30, go_sem, hcd], ret_err HOK.out, Below.trans hB (belowK_b (w := w) (Nat.le_refl _) _ D _ _ hwD hK rfl rfl)⟩
set_option maxRecDepth 100000 in
set_option maxHeartbeats 8000000 in
theorem check_st (n : Nat) (hn : 3 ≤ n) (R : Nat) (T : Nd) (h : Hn) (w : World) (hl : Lies w A0 R T h) (hT : stK h.k = true) (hM : ∀ y, y ∈ flatN R 0 T → FormsOK y.2) :
    CallsIn Fence.wide n Try.prog 30 #[h.val, .func (.func 32) #[] #[]] w fun e w' => e = .returned (.int .i64 (errOf (okL (flatN R 0 T)))) ∧ Kp w w' := by
  have hn1 : 1 ≤ n := by omega
  obtain ⟨k, tx, nn, at_, la, ll, lc⟩ := h
  simp only at hT
  have HL := Lib.hid hl
  have HM := Lib.hid hM
  clear hl hM
  have hro : Fence.wide.round = none := rfl
  have CR := Lib.hid (fun (W : World) (m : Nat) => (callsIn_wide (n := m)).2 (c_isStatement ⟨k, tx, nn, at_, la, ll, lc⟩ W))
  refine callsIn_of_wp_marks Try.func30 rfl trivial ?_ hro
  simp only [Try.ntmps30, List.size_toArray, List.length_cons, List.length_nil, Nat.reduceAdd, Nat.reduceSub, Array.replicate_succ, Array.replicate_zero, List.push_toArray, List.append_toArray, List.nil_append, List.cons_append]
  gi_wp2_with (first | (refine ⟨trivial, ?_⟩; gi_at_call 32; (with_reducible refine (CR.out _ _).mono ?_); rintro e w1 ⟨rfl, hk1⟩; rw [hT]; have b := boxed (w := w) (h := ⟨k, tx, nn, at_, la, ll, lc⟩) (show Kp _ w1 from Kp.back hk1 ((Kp.refl _).alloc _)); simp only at b; obtain ⟨b0, b1, b2, b3, b4, bs⟩ := b; have bl := lt_of_cell b0) | ((try refine ⟨trivial, ?_⟩); gi_at_call 35; refine (each_in Fence.wide (n - 1) trivial hro ⟨k, tx, nn, at_, la, ll, lc⟩ _).mono ?_; rintro e w' ⟨rfl, rfl⟩))
  have hrb := (hk1.blk (b := w.heap.size + 1) (by simp)).trans (heap_at (w := w.alloc (.cells #[.int .i64 k, .string tx, .int .u64 nn, .int .i64 at_, .slice la ll lc] 25)) (o := .cells #[.int .i64 0] 26) (by simp))
  have hkw1 : Kp w w1 := Kp.back hk1 (((Kp.refl w).alloc _).alloc _)
  obtain ⟨W0, hW0⟩ : ∃ W0, (w1.alloc (.cells #[.int .i64 0] 3)).alloc (.cells #[.int .i64 k, .string tx, .int .u64 nn, .int .i64 at_, .slice la ll lc] 25) = W0 := ⟨_, rfl⟩
  have hB1 : Kp w1 W0 := by rw [← hW0]; exact ((Kp.refl w1).alloc _).alloc _
  have hsz : W0.heap.size = w1.heap.size + 1 + 1 := by rw [← hW0]; simp
  have hnb : W0.heap[w1.heap.size]? = some (.cells #[.int .i64 0] 3 (0, 0)) := by rw [← hW0]; exact (((Kp.refl _).alloc _).blk (by simp)).trans (heap_alloc_new w1 _)
  have hrN : W0.rangeAt (w1.heap.size + 1) 0 (⟨k, tx, nn, at_, la, ll, lc⟩ : Hn).cells := by
    rw [← hW0]
    intro j v hv
    rw [Nat.zero_add, cell_of_row _ (w1.heap.size + 1) j _ _ _ (heap_at (by simp))]
    simpa using hv
  have hlt1 : w.heap.size + 1 < w1.heap.size := (Array.getElem?_eq_some_iff.1 hrb).1
  have hrb0 : W0.heap[w.heap.size + 1]? = some (.cells #[.int .i64 0] 26 (0, 0)) := (hB1.blk (by omega)).trans hrb
  rw [hW0]
  have HW := Lib.hid hW0
  clear hW0
  have hB0 : Kp w W0 := hkw1.trans hB1
  have HL0 : Hid (Lies W0 (Out (fun b => b = w1.heap.size ∨ b = w.heap.size + 1)) R T ⟨k, tx, nn, at_, la, ll, lc⟩) := Lib.hid (out_of HL.out hB0 (fun b hb => by omega))
  have hCl : ∀ b, (b = w1.heap.size ∨ b = w.heap.size + 1) → b < W0.heap.size := fun b hb => by omega
  have HSZ := Lib.hid hsz
  clear hsz
  refine wpIn_rangeFunc_ownH hro hn1 (gf := 43) (lb := #[.pointer (some ⟨w1.heap.size + 1, 0, none⟩)]) rfl trivial (enters_of Try.func43 (by kernel_rfl) rfl)
    (each_stops Fence.wide rfl (n - 1) trivial trivial hro R (w1.heap.size + 1) W0 W0 (fun b => b = w1.heap.size ∨ b = w.heap.size + 1) (fun y => FormsOK y.2) hCl T ⟨k, tx, nn, at_, la, ll, lc⟩ HL0.out HM.out (Cel.refl _ _) hrN) (fun h k => h.trans k) celK_b (Below.refl _ _) (fun _ => rfl)
    (fun pre W => ((W.heap[w1.heap.size]? = some (.cells #[.int .i64 pre.length] 3 (0, 0)) ∧ W.heap[w.heap.size + 1]? = some (.cells #[.int .i64 0] 26 (0, 0))) ∧ Kp w W) ∧ Cel (fun b => b = w1.heap.size ∨ b = w.heap.size + 1) W0 W ∧ GoodL (pre.map Item.pr))
    (fun c pre W => (W.heap[w.heap.size + 1]? = some (.cells #[.int .i64 1] 26 (0, 0)) ∧ Kp w W) ∧ c = Code.ret ∧ BadL (pre.map Item.pr))
    (fun pre A B' row hs hg hr => ⟨⟨⟨own_row hs.1.1.1 hg hr, own_row hs.1.1.2 hg hr⟩, hs.1.2.grown hg (fun k e => Nat.le_trans hB0.sz (hr k e).1)⟩, ownFrom_cel (β := Unit) () A B' row hs.2.1 hg hr, hs.2.2⟩)
    (fun c pre A B' row hs hg hr => ⟨⟨own_row hs.1.1 hg hr, hs.1.2.grown hg (fun k e => Nat.le_trans hB0.sz (hr k e).1)⟩, hs.2⟩)
    ⟨⟨⟨hnb, hrb0⟩, hB0⟩, Cel.refl _ _, ⟨by simp, by simp⟩⟩
    (fun x a' W => ∃ q, a' = ⟨#[(⟨k, tx, nn, at_, la, ll, lc⟩ : Hn).val, .func (.func 32) #[] #[], .pointer (some ⟨w.heap.size, 0, none⟩), undef, .pointer (some ⟨w.heap.size + 1, 0, none⟩), .pointer (some ⟨w1.heap.size, 0, none⟩), .int .i64 x.1.1, .pointer (some ⟨q, 0, none⟩), .func (.func 32) #[] #[], .agg #[.int .i64 k, .string tx, .int .u64 nn, .int .i64 at_, .slice la ll lc], .bool true, .bool false, .agg #[.int .i64 k, .string tx, .int .u64 nn, .int .i64 at_, .slice la ll lc], .func (.func 43) #[] #[.pointer (some ⟨w1.heap.size + 1, 0, none⟩)], .int .i64 x.1.1, x.1.2.2.val, undef, undef, undef, undef, undef, undef, undef, undef, undef, undef, undef, undef, undef], []⟩ ∧ W0.heap.size ≤ q ∧ W.rangeAt q 0 x.1.2.2.cells)
    ?ax ?assign ?body ?done ?stop
  case ax =>
    rintro x a' s A B row ⟨q, h1, h2, h3⟩ hg hr
    exact ⟨q, h1, h2, fun j v hv => cell_kept (h3 j v hv) hg (fun r e => (hr r e).2)⟩
  case assign =>
    rintro l pre x W K ⟨⟨⟨hnb, hrb⟩, hB⟩, hC, hG⟩ hK
    gi_wp2
    refine hK _ _ (KeepsFrom.of_grownBy (World.grownBy_alloc W _ none) (by simp)) (((Kp.refl W).alloc _).cel) ⟨⟨⟨(((Kp.refl W).alloc _).blk (Array.getElem?_eq_some_iff.1 hnb).1).trans hnb, (((Kp.refl W).alloc _).blk (Array.getElem?_eq_some_iff.1 hrb).1).trans hrb⟩, hB.alloc _⟩, hC.trans (((Kp.refl W).alloc _).cel), hG⟩ ⟨W.heap.size, ?_, by have := hC.size; omega, fun j v hv => ?_⟩
    · rfl
    · rw [Nat.zero_add, cell_of_row _ _ _ _ _ _ (heap_alloc_new _ _)]; simpa using hv
  case body =>
    rintro l pre x a' W hlw ⟨rl, hrl⟩ ⟨⟨⟨hnb, hrb⟩, hB⟩, hC, hG⟩ ⟨q, rfl, hq, hqr⟩ hlen
    have hm := hG.1
    rw [List.length_map] at hm
    have g0 := row_cell hnb 0
    have gf := frozen_of_row _ _ 0 _ _ hnb
    have r0 := row_cell hrb 0
    have rf := frozen_of_row _ _ 0 _ _ hrb
    simp at g0 r0
    obtain ⟨x0, x1, x2, x3, x4⟩ := node_at hqr
    have hnq : w1.heap.size ≠ q := by have := HSZ.out; omega
    have hrq : w.heap.size + 1 ≠ q := by have := HSZ.out; omega
    have hql := lt_of_cell x0
    have HG := Lib.hid hG
    have HNB := Lib.hid hnb
    have HRB := Lib.hid hrb
    have HC := Lib.hid hC
    have HBW := Lib.hid hB
    have HQR := Lib.hid hqr
    clear hG hnb hrb hC hB hqr
    have CF := Lib.hid (fun (W' : World) (m : Nat) (hc : Cel (fun b => b = w1.heap.size ∨ b = w.heap.size + 1) W0 W') => (show CallsIn (Fence.wide.inRound l) m _ _ _ _ _ from (callsIn_wide (n := m)).2 (x.2.2 R x.1.2.2 W' ((Lies.cel hc x.2.1).weak (A0_le _)))))
    have hnr : w1.heap.size ≠ w.heap.size + 1 := by omega
    have hC1 : Cel (fun b => b = w1.heap.size ∨ b = w.heap.size + 1) W (W.setCell ⟨w1.heap.size, 0, none⟩ (.int .i64 ((pre.length : Int) + 1))) := cel_set W _ _ (.inl rfl)
    have hN1 : (W.setCell ⟨w1.heap.size, 0, none⟩ (.int .i64 ((pre.length : Int) + 1))).heap[w1.heap.size]? = some (.cells #[.int .i64 (((pre ++ [x]).length : Nat) : Int)] 3 (0, 0)) := by
      rw [List.length_append, List.length_singleton]
      exact row_set HNB.out
    have hR1 : (W.setCell ⟨w1.heap.size, 0, none⟩ (.int .i64 ((pre.length : Int) + 1))).heap[w.heap.size + 1]? = some (.cells #[.int .i64 0] 26 (0, 0)) := (Below.heap_setCell _ _ _ _ (Ne.symm hnr)).trans HRB.out
    have hB1' : Kp w (W.setCell ⟨w1.heap.size, 0, none⟩ (.int .i64 ((pre.length : Int) + 1))) := HBW.out.setCell (by show w.heap.size ≤ w1.heap.size; omega) _
    have hK1 : KeepsFrom W0.heap.size W (W.setCell ⟨w1.heap.size, 0, none⟩ (.int .i64 ((pre.length : Int) + 1))) := (KeepsOthers.setCell W _ _).from _
    obtain ⟨W2, hW2⟩ : ∃ W2, W.setCell ⟨w1.heap.size, 0, none⟩ (.int .i64 ((pre.length : Int) + 1)) = W2 := ⟨_, rfl⟩
    have HS := Lib.hid hW2
    rw [hW2] at hC1 hN1 hR1 hB1' hK1
    have rfz := frozen_of_row _ _ 0 _ _ hR1
    have HC1 := Lib.hid hC1
    have HN1 := Lib.hid hN1
    have HR1 := Lib.hid hR1
    have HB1 := Lib.hid hB1'
    have HK1 := Lib.hid hK1
    clear hW2 hC1 hN1 hR1 hB1' hK1
    have hl1 : (pre ++ [x]).map Item.pr = pre.map Item.pr ++ [(x.1.1, x.1.2.1)] := by simp [Item.pr]
    have HL1 := Lib.hid hl1
    clear hl1
    have bad : ∀ (W3 : World), Kp W2 W3 → BadL (pre.map Item.pr ++ [(x.1.1, x.1.2.1)]) → (KeepsFrom W0.heap.size W (W3.setCell ⟨w.heap.size + 1, 0, none⟩ (.int .i64 1))) ∧ ((W3.setCell ⟨w.heap.size + 1, 0, none⟩ (.int .i64 1)).heap[w.heap.size + 1]? = some (.cells #[.int .i64 1] 26 (0, 0)) ∧ Kp w (W3.setCell ⟨w.heap.size + 1, 0, none⟩ (.int .i64 1))) ∧ Code.ret = Code.ret ∧ BadL ((pre ++ [x]).map Item.pr) := by
      intro W3 hk hb
      refine ⟨(HK1.out.trans (KeepsFrom.of_grownBy (row := none) ⟨hk.os, hk.tape, hk.output, hk.size, fun i hi _ => hk.blk hi⟩ (by simp))).trans ((KeepsOthers.setCell W3 _ _).from _), ⟨row_set ((hk.blk (Array.getElem?_eq_some_iff.1 HR1.out).1).trans HR1.out), (HB1.out.trans hk).setCell (by show w.heap.size ≤ w.heap.size + 1; omega) _⟩, rfl, by rw [HL1.out]; exact hb⟩
    have BAD := Lib.hid bad
    clear bad
    by_cases h1 : pre.length + 1 ≤ 16384
    · have d1 : decide ((16384 : Int) < ((pre.length : Nat) : Int) + 1) = false := decide_eq_false (by omega)
      by_cases h2 : x.1.1 ≤ 64
      · have d2 : decide ((64 : Int) < x.1.1) = false := decide_eq_false (by omega)
        cases h3 : formN x.1.2.1 with
        | true =>
          gi_wp2_with (first | (refine ⟨trivial, fun h => absurd h (by decide), ?_⟩; gi_at_call 40; go_loud (rw [HS.out]; refine (CF.out _ _ (HC.out.trans HC1.out)).mono ?_; rintro e w3 ⟨rfl, hk3⟩; rw [h3]; have rf3 := frozen_of_row _ _ 0 _ _ ((hk3.blk (Array.getElem?_eq_some_iff.1 HR1.out).1).trans HR1.out); have rc3 := row_cell ((hk3.blk (Array.getElem?_eq_some_iff.1 HR1.out).1).trans HR1.out) 0; simp only [List.getElem?_toArray, List.getElem?_cons_zero] at rc3)) | (refine ⟨trivial, ?_⟩))
          exact ⟨HK1.out.trans (KeepsFrom.of_grownBy (row := none) ⟨hk3.os, hk3.tape, hk3.output, hk3.size, fun i hi _ => hk3.blk hi⟩ (by simp)), HC1.out.trans hk3.cel, ⟨⟨(hk3.blk (Array.getElem?_eq_some_iff.1 HN1.out).1).trans HN1.out, (hk3.blk (Array.getElem?_eq_some_iff.1 HR1.out).1).trans HR1.out⟩, HB1.out.trans hk3⟩, (HC.out.trans HC1.out).trans hk3.cel, by rw [HL1.out]; exact HG.out.snoc (by rw [List.length_map]; exact h1) h2 h3⟩
        | false =>
          gi_wp2_with (first | (refine ⟨trivial, fun h => absurd h (by decide), ?_⟩; gi_at_call 40; go_loud (rw [HS.out]; refine (CF.out _ _ (HC.out.trans HC1.out)).mono ?_; rintro e w3 ⟨rfl, hk3⟩; rw [h3]; have rf3 := frozen_of_row _ _ 0 _ _ ((hk3.blk (Array.getElem?_eq_some_iff.1 HR1.out).1).trans HR1.out); have rc3 := row_cell ((hk3.blk (Array.getElem?_eq_some_iff.1 HR1.out).1).trans HR1.out) 0; simp only [List.getElem?_toArray, List.getElem?_cons_zero] at rc3)) | (refine ⟨trivial, ?_⟩))
          have h4 := BAD.out _ hk3 (.inr ⟨_, List.mem_append_right _ (List.mem_singleton.2 rfl), .inr h3⟩)
          exact ⟨h4.1, h4.2.1, rfl, h4.2.2.2⟩
      · have d2 : decide ((64 : Int) < x.1.1) = true := decide_eq_true (by omega)
        gi_wp2_with (first | (refine ⟨trivial, fun h => absurd h (by decide), ?_⟩; gi_at_call 40; go_loud (rw [HS.out]; refine (CF.out _ _ (HC.out.trans HC1.out)).mono ?_; rintro e w3 ⟨rfl, hk3⟩; rw [h3]; have rf3 := frozen_of_row _ _ 0 _ _ ((hk3.blk (Array.getElem?_eq_some_iff.1 HR1.out).1).trans HR1.out); have rc3 := row_cell ((hk3.blk (Array.getElem?_eq_some_iff.1 HR1.out).1).trans HR1.out) 0; simp only [List.getElem?_toArray, List.getElem?_cons_zero] at rc3)) | (refine ⟨trivial, ?_⟩))
        have h4 := BAD.out _ (Kp.refl W2) (.inr ⟨_, List.mem_append_right _ (List.mem_singleton.2 rfl), .inl (by show (64 : Int) < x.1.1; omega)⟩)
        first | exact ⟨h4.1, h4.2.1, rfl, h4.2.2.2⟩ | (rw [HS.out]; exact ⟨h4.1, h4.2.1, rfl, h4.2.2.2⟩)
    · have d1 : decide ((16384 : Int) < ((pre.length : Nat) : Int) + 1) = true := decide_eq_true (by omega)
      gi_wp2_with (first | (refine ⟨trivial, fun h => absurd h (by decide), ?_⟩; gi_at_call 40; go_loud (rw [HS.out]; refine (CF.out _ _ (HC.out.trans HC1.out)).mono ?_; rintro e w3 ⟨rfl, hk3⟩; rw [h3]; have rf3 := frozen_of_row _ _ 0 _ _ ((hk3.blk (Array.getElem?_eq_some_iff.1 HR1.out).1).trans HR1.out); have rc3 := row_cell ((hk3.blk (Array.getElem?_eq_some_iff.1 HR1.out).1).trans HR1.out) 0; simp only [List.getElem?_toArray, List.getElem?_cons_zero] at rc3)) | (refine ⟨trivial, ?_⟩))
      have h4 := BAD.out _ (Kp.refl W2) (.inl (by rw [List.length_append, List.length_map]; simp; omega))
      first | exact ⟨h4.1, h4.2.1, rfl, h4.2.2.2⟩ | (rw [HS.out]; exact ⟨h4.1, h4.2.1, rfl, h4.2.2.2⟩)
  case done =>
    rintro D ys W hD hys ⟨⟨⟨hnb, hrb⟩, hB⟩, hC, hG⟩ hK
    rw [hys] at hG
    have HOK := Lib.hid (show (0 : Int) = (errOf (okL (flatN R 0 T))) from by rw [okL_yes hG.1 hG.2]; rfl)
    clear hG
    have rf := frozen_of_row _ _ 0 _ _ hrb
    have r0 := row_cell hrb 0
    simp at r0
    have hrs := row_set (v' := .int .i64 0) hrb
    have hDn : w.heap.size + 1 ≠ D := by have := HSZ.out; omega
    have hwD : w.heap.size ≤ D := by have := HSZ.out; omega
    gi_wp2
    have hK' : (W.setCell ⟨w.heap.size + 1, 0, none⟩ (.int .i64 0)).heap[D]? = some (.deferred (some [])) := (Below.heap_setCell _ _ _ _ (Ne.symm hDn)).trans hK
    have hc := row_cell hrs 0
    simp only [List.getElem?_toArray, List.getElem?_cons_zero] at hc
    refine ⟨by simp, .inl ⟨_, _, rfl, run_takeDeferred hK', ?_⟩⟩
    have hcd := cell_kept hc (grownBy_putObj' (W.setCell ⟨w.heap.size + 1, 0, none⟩ (.int .i64 0)) D (.deferred none)) (fun r e => by cases e; exact ⟨_, hK', rfl⟩)
    exact ⟨.int .i64 0, by simp [results, Try.results30, go_sem, hcd], ret_err HOK.out, Below.trans (hB.setCell (p := ⟨w.heap.size + 1, 0, none⟩) (by show w.heap.size ≤ w.heap.size + 1; omega) _) (belowK_b (w := w) (Nat.le_refl _) _ D _ _ hwD hK' rfl rfl)⟩
  case stop =>
    rintro D c pre W hD hp ⟨⟨hrb, hB⟩, rfl, hb⟩ hK
    have HOK := Lib.hid (show (1 : Int) = (errOf (okL (flatN R 0 T))) from by rw [okL_no hp hb]; rfl)
    clear hb hp
    have hDn : w.heap.size + 1 ≠ D := by have := HSZ.out; omega
    have hwD : w.heap.size ≤ D := by have := HSZ.out; omega
    gi_wp2
    have hc := row_cell hrb 0
    simp only [List.getElem?_toArray, List.getElem?_cons_zero] at hc
    refine ⟨by simp, .inl ⟨_, _, rfl, run_takeDeferred hK, ?_⟩⟩
    have hcd := cell_kept hc (grownBy_putObj' W D (.deferred none)) (fun r e => by cases e; exact ⟨_, hK, rfl⟩)
    exact ⟨.int .i64 1, by simp [results, Try.results30, go_sem, hcd], ret_err HOK.out, Below.trans hB (belowK_b (w := w) (Nat.le_refl _) _ D _ _ hwD hK rfl rfl)⟩
set_option maxRecDepth 100000 in
set_option maxHeartbeats 8000000 in
theorem check_ex (n : Nat) (hn : 3 ≤ n) (R : Nat) (T : Nd) (h : Hn) (w : World) (hl : Lies w A0 R T h) (hT : exK h.k = true) (hM : ∀ y, y ∈ flatN R 0 T → FormsOK y.2) :
    CallsIn Fence.wide n Try.prog 30 #[h.val, .func (.func 33) #[] #[]] w fun e w' => e = .returned (.int .i64 (errOf (okL (flatN R 0 T)))) ∧ Kp w w' := by
  have hn1 : 1 ≤ n := by omega
  obtain ⟨k, tx, nn, at_, la, ll, lc⟩ := h
  simp only at hT
  have HL := Lib.hid hl
  have HM := Lib.hid hM
  clear hl hM
  have hro : Fence.wide.round = none := rfl
  have CR := Lib.hid (fun (W : World) (m : Nat) => (callsIn_wide (n := m)).2 (c_isExpression ⟨k, tx, nn, at_, la, ll, lc⟩ W))
  refine callsIn_of_wp_marks Try.func30 rfl trivial ?_ hro
  simp only [Try.ntmps30, List.size_toArray, List.length_cons, List.length_nil, Nat.reduceAdd, Nat.reduceSub, Array.replicate_succ, Array.replicate_zero, List.push_toArray, List.append_toArray, List.nil_append, List.cons_append]
  gi_wp2_with (first | (refine ⟨trivial, ?_⟩; gi_at_call 33; (with_reducible refine (CR.out _ _).mono ?_); rintro e w1 ⟨rfl, hk1⟩; rw [hT]; have b := boxed (w := w) (h := ⟨k, tx, nn, at_, la, ll, lc⟩) (show Kp _ w1 from Kp.back hk1 ((Kp.refl _).alloc _)); simp only at b; obtain ⟨b0, b1, b2, b3, b4, bs⟩ := b; have bl := lt_of_cell b0) | ((try refine ⟨trivial, ?_⟩); gi_at_call 35; refine (each_in Fence.wide (n - 1) trivial hro ⟨k, tx, nn, at_, la, ll, lc⟩ _).mono ?_; rintro e w' ⟨rfl, rfl⟩))
  have hrb := (hk1.blk (b := w.heap.size + 1) (by simp)).trans (heap_at (w := w.alloc (.cells #[.int .i64 k, .string tx, .int .u64 nn, .int .i64 at_, .slice la ll lc] 25)) (o := .cells #[.int .i64 0] 26) (by simp))
  have hkw1 : Kp w w1 := Kp.back hk1 (((Kp.refl w).alloc _).alloc _)
  obtain ⟨W0, hW0⟩ : ∃ W0, (w1.alloc (.cells #[.int .i64 0] 3)).alloc (.cells #[.int .i64 k, .string tx, .int .u64 nn, .int .i64 at_, .slice la ll lc] 25) = W0 := ⟨_, rfl⟩
  have hB1 : Kp w1 W0 := by rw [← hW0]; exact ((Kp.refl w1).alloc _).alloc _
  have hsz : W0.heap.size = w1.heap.size + 1 + 1 := by rw [← hW0]; simp
  have hnb : W0.heap[w1.heap.size]? = some (.cells #[.int .i64 0] 3 (0, 0)) := by rw [← hW0]; exact (((Kp.refl _).alloc _).blk (by simp)).trans (heap_alloc_new w1 _)
  have hrN : W0.rangeAt (w1.heap.size + 1) 0 (⟨k, tx, nn, at_, la, ll, lc⟩ : Hn).cells := by
    rw [← hW0]
    intro j v hv
    rw [Nat.zero_add, cell_of_row _ (w1.heap.size + 1) j _ _ _ (heap_at (by simp))]
    simpa using hv
  have hlt1 : w.heap.size + 1 < w1.heap.size := (Array.getElem?_eq_some_iff.1 hrb).1
  have hrb0 : W0.heap[w.heap.size + 1]? = some (.cells #[.int .i64 0] 26 (0, 0)) := (hB1.blk (by omega)).trans hrb
  rw [hW0]
  have HW := Lib.hid hW0
  clear hW0
  have hB0 : Kp w W0 := hkw1.trans hB1
  have HL0 : Hid (Lies W0 (Out (fun b => b = w1.heap.size ∨ b = w.heap.size + 1)) R T ⟨k, tx, nn, at_, la, ll, lc⟩) := Lib.hid (out_of HL.out hB0 (fun b hb => by omega))
  have hCl : ∀ b, (b = w1.heap.size ∨ b = w.heap.size + 1) → b < W0.heap.size := fun b hb => by omega
  have HSZ := Lib.hid hsz
  clear hsz
  refine wpIn_rangeFunc_ownH hro hn1 (gf := 43) (lb := #[.pointer (some ⟨w1.heap.size + 1, 0, none⟩)]) rfl trivial (enters_of Try.func43 (by kernel_rfl) rfl)
    (each_stops Fence.wide rfl (n - 1) trivial trivial hro R (w1.heap.size + 1) W0 W0 (fun b => b = w1.heap.size ∨ b = w.heap.size + 1) (fun y => FormsOK y.2) hCl T ⟨k, tx, nn, at_, la, ll, lc⟩ HL0.out HM.out (Cel.refl _ _) hrN) (fun h k => h.trans k) celK_b (Below.refl _ _) (fun _ => rfl)
    (fun pre W => ((W.heap[w1.heap.size]? = some (.cells #[.int .i64 pre.length] 3 (0, 0)) ∧ W.heap[w.heap.size + 1]? = some (.cells #[.int .i64 0] 26 (0, 0))) ∧ Kp w W) ∧ Cel (fun b => b = w1.heap.size ∨ b = w.heap.size + 1) W0 W ∧ GoodL (pre.map Item.pr))
    (fun c pre W => (W.heap[w.heap.size + 1]? = some (.cells #[.int .i64 1] 26 (0, 0)) ∧ Kp w W) ∧ c = Code.ret ∧ BadL (pre.map Item.pr))
    (fun pre A B' row hs hg hr => ⟨⟨⟨own_row hs.1.1.1 hg hr, own_row hs.1.1.2 hg hr⟩, hs.1.2.grown hg (fun k e => Nat.le_trans hB0.sz (hr k e).1)⟩, ownFrom_cel (β := Unit) () A B' row hs.2.1 hg hr, hs.2.2⟩)
    (fun c pre A B' row hs hg hr => ⟨⟨own_row hs.1.1 hg hr, hs.1.2.grown hg (fun k e => Nat.le_trans hB0.sz (hr k e).1)⟩, hs.2⟩)
    ⟨⟨⟨hnb, hrb0⟩, hB0⟩, Cel.refl _ _, ⟨by simp, by simp⟩⟩
    (fun x a' W => ∃ q, a' = ⟨#[(⟨k, tx, nn, at_, la, ll, lc⟩ : Hn).val, .func (.func 33) #[] #[], .pointer (some ⟨w.heap.size, 0, none⟩), undef, .pointer (some ⟨w.heap.size + 1, 0, none⟩), .pointer (some ⟨w1.heap.size, 0, none⟩), .int .i64 x.1.1, .pointer (some ⟨q, 0, none⟩), .func (.func 33) #[] #[], .agg #[.int .i64 k, .string tx, .int .u64 nn, .int .i64 at_, .slice la ll lc], .bool true, .bool false, .agg #[.int .i64 k, .string tx, .int .u64 nn, .int .i64 at_, .slice la ll lc], .func (.func 43) #[] #[.pointer (some ⟨w1.heap.size + 1, 0, none⟩)], .int .i64 x.1.1, x.1.2.2.val, undef, undef, undef, undef, undef, undef, undef, undef, undef, undef, undef, undef, undef], []⟩ ∧ W0.heap.size ≤ q ∧ W.rangeAt q 0 x.1.2.2.cells)
    ?ax ?assign ?body ?done ?stop
  case ax =>
    rintro x a' s A B row ⟨q, h1, h2, h3⟩ hg hr
    exact ⟨q, h1, h2, fun j v hv => cell_kept (h3 j v hv) hg (fun r e => (hr r e).2)⟩
  case assign =>
    rintro l pre x W K ⟨⟨⟨hnb, hrb⟩, hB⟩, hC, hG⟩ hK
    gi_wp2
    refine hK _ _ (KeepsFrom.of_grownBy (World.grownBy_alloc W _ none) (by simp)) (((Kp.refl W).alloc _).cel) ⟨⟨⟨(((Kp.refl W).alloc _).blk (Array.getElem?_eq_some_iff.1 hnb).1).trans hnb, (((Kp.refl W).alloc _).blk (Array.getElem?_eq_some_iff.1 hrb).1).trans hrb⟩, hB.alloc _⟩, hC.trans (((Kp.refl W).alloc _).cel), hG⟩ ⟨W.heap.size, ?_, by have := hC.size; omega, fun j v hv => ?_⟩
    · rfl
    · rw [Nat.zero_add, cell_of_row _ _ _ _ _ _ (heap_alloc_new _ _)]; simpa using hv
  case body =>
    rintro l pre x a' W hlw ⟨rl, hrl⟩ ⟨⟨⟨hnb, hrb⟩, hB⟩, hC, hG⟩ ⟨q, rfl, hq, hqr⟩ hlen
    have hm := hG.1
    rw [List.length_map] at hm
    have g0 := row_cell hnb 0
    have gf := frozen_of_row _ _ 0 _ _ hnb
    have r0 := row_cell hrb 0
    have rf := frozen_of_row _ _ 0 _ _ hrb
    simp at g0 r0
    obtain ⟨x0, x1, x2, x3, x4⟩ := node_at hqr
    have hnq : w1.heap.size ≠ q := by have := HSZ.out; omega
    have hrq : w.heap.size + 1 ≠ q := by have := HSZ.out; omega
    have hql := lt_of_cell x0
    have HG := Lib.hid hG
    have HNB := Lib.hid hnb
    have HRB := Lib.hid hrb
    have HC := Lib.hid hC
    have HBW := Lib.hid hB
    have HQR := Lib.hid hqr
    clear hG hnb hrb hC hB hqr
    have CF := Lib.hid (fun (W' : World) (m : Nat) (hc : Cel (fun b => b = w1.heap.size ∨ b = w.heap.size + 1) W0 W') => (show CallsIn (Fence.wide.inRound l) m _ _ _ _ _ from (callsIn_wide (n := m)).2 (x.2.2 R x.1.2.2 W' ((Lies.cel hc x.2.1).weak (A0_le _)))))
    have hnr : w1.heap.size ≠ w.heap.size + 1 := by omega
    have hC1 : Cel (fun b => b = w1.heap.size ∨ b = w.heap.size + 1) W (W.setCell ⟨w1.heap.size, 0, none⟩ (.int .i64 ((pre.length : Int) + 1))) := cel_set W _ _ (.inl rfl)
    have hN1 : (W.setCell ⟨w1.heap.size, 0, none⟩ (.int .i64 ((pre.length : Int) + 1))).heap[w1.heap.size]? = some (.cells #[.int .i64 (((pre ++ [x]).length : Nat) : Int)] 3 (0, 0)) := by
      rw [List.length_append, List.length_singleton]
      exact row_set HNB.out
    have hR1 : (W.setCell ⟨w1.heap.size, 0, none⟩ (.int .i64 ((pre.length : Int) + 1))).heap[w.heap.size + 1]? = some (.cells #[.int .i64 0] 26 (0, 0)) := (Below.heap_setCell _ _ _ _ (Ne.symm hnr)).trans HRB.out
    have hB1' : Kp w (W.setCell ⟨w1.heap.size, 0, none⟩ (.int .i64 ((pre.length : Int) + 1))) := HBW.out.setCell (by show w.heap.size ≤ w1.heap.size; omega) _
    have hK1 : KeepsFrom W0.heap.size W (W.setCell ⟨w1.heap.size, 0, none⟩ (.int .i64 ((pre.length : Int) + 1))) := (KeepsOthers.setCell W _ _).from _
    obtain ⟨W2, hW2⟩ : ∃ W2, W.setCell ⟨w1.heap.size, 0, none⟩ (.int .i64 ((pre.length : Int) + 1)) = W2 := ⟨_, rfl⟩
    have HS := Lib.hid hW2
    rw [hW2] at hC1 hN1 hR1 hB1' hK1
    have rfz := frozen_of_row _ _ 0 _ _ hR1
    have HC1 := Lib.hid hC1
    have HN1 := Lib.hid hN1
    have HR1 := Lib.hid hR1
    have HB1 := Lib.hid hB1'
    have HK1 := Lib.hid hK1
    clear hW2 hC1 hN1 hR1 hB1' hK1
    have hl1 : (pre ++ [x]).map Item.pr = pre.map Item.pr ++ [(x.1.1, x.1.2.1)] := by simp [Item.pr]
    have HL1 := Lib.hid hl1
    clear hl1
    have bad : ∀ (W3 : World), Kp W2 W3 → BadL (pre.map Item.pr ++ [(x.1.1, x.1.2.1)]) → (KeepsFrom W0.heap.size W (W3.setCell ⟨w.heap.size + 1, 0, none⟩ (.int .i64 1))) ∧ ((W3.setCell ⟨w.heap.size + 1, 0, none⟩ (.int .i64 1)).heap[w.heap.size + 1]? = some (.cells #[.int .i64 1] 26 (0, 0)) ∧ Kp w (W3.setCell ⟨w.heap.size + 1, 0, none⟩ (.int .i64 1))) ∧ Code.ret = Code.ret ∧ BadL ((pre ++ [x]).map Item.pr) := by
      intro W3 hk hb
      refine ⟨(HK1.out.trans (KeepsFrom.of_grownBy (row := none) ⟨hk.os, hk.tape, hk.output, hk.size, fun i hi _ => hk.blk hi⟩ (by simp))).trans ((KeepsOthers.setCell W3 _ _).from _), ⟨row_set ((hk.blk (Array.getElem?_eq_some_iff.1 HR1.out).1).trans HR1.out), (HB1.out.trans hk).setCell (by show w.heap.size ≤ w.heap.size + 1; omega) _⟩, rfl, by rw [HL1.out]; exact hb⟩
    have BAD := Lib.hid bad
    clear bad
    by_cases h1 : pre.length + 1 ≤ 16384
    · have d1 : decide ((16384 : Int) < ((pre.length : Nat) : Int) + 1) = false := decide_eq_false (by omega)
      by_cases h2 : x.1.1 ≤ 64
      · have d2 : decide ((64 : Int) < x.1.1) = false := decide_eq_false (by omega)
        cases h3 : formN x.1.2.1 with
        | true =>
          gi_wp2_with (first | (refine ⟨trivial, fun h => absurd h (by decide), ?_⟩; gi_at_call 40; go_loud (rw [HS.out]; refine (CF.out _ _ (HC.out.trans HC1.out)).mono ?_; rintro e w3 ⟨rfl, hk3⟩; rw [h3]; have rf3 := frozen_of_row _ _ 0 _ _ ((hk3.blk (Array.getElem?_eq_some_iff.1 HR1.out).1).trans HR1.out); have rc3 := row_cell ((hk3.blk (Array.getElem?_eq_some_iff.1 HR1.out).1).trans HR1.out) 0; simp only [List.getElem?_toArray, List.getElem?_cons_zero] at rc3)) | (refine ⟨trivial, ?_⟩))
          exact ⟨HK1.out.trans (KeepsFrom.of_grownBy (row := none) ⟨hk3.os, hk3.tape, hk3.output, hk3.size, fun i hi _ => hk3.blk hi⟩ (by simp)), HC1.out.trans hk3.cel, ⟨⟨(hk3.blk (Array.getElem?_eq_some_iff.1 HN1.out).1).trans HN1.out, (hk3.blk (Array.getElem?_eq_some_iff.1 HR1.out).1).trans HR1.out⟩, HB1.out.trans hk3⟩, (HC.out.trans HC1.out).trans hk3.cel, by rw [HL1.out]; exact HG.out.snoc (by rw [List.length_map]; exact h1) h2 h3⟩
        | false =>
          gi_wp2_with (first | (refine ⟨trivial, fun h => absurd h (by decide), ?_⟩; gi_at_call 40; go_loud (rw [HS.out]; refine (CF.out _ _ (HC.out.trans HC1.out)).mono ?_; rintro e w3 ⟨rfl, hk3⟩; rw [h3]; have rf3 := frozen_of_row _ _ 0 _ _ ((hk3.blk (Array.getElem?_eq_some_iff.1 HR1.out).1).trans HR1.out); have rc3 := row_cell ((hk3.blk (Array.getElem?_eq_some_iff.1 HR1.out).1).trans HR1.out) 0; simp only [List.getElem?_toArray, List.getElem?_cons_zero] at rc3)) | (refine ⟨trivial, ?_⟩))
          have h4 := BAD.out _ hk3 (.inr ⟨_, List.mem_append_right _ (List.mem_singleton.2 rfl), .inr h3⟩)
          exact ⟨h4.1, h4.2.1, rfl, h4.2.2.2⟩
      · have d2 : decide ((64 : Int) < x.1.1) = true := decide_eq_true (by omega)
        gi_wp2_with (first | (refine ⟨trivial, fun h => absurd h (by decide), ?_⟩; gi_at_call 40; go_loud (rw [HS.out]; refine (CF.out _ _ (HC.out.trans HC1.out)).mono ?_; rintro e w3 ⟨rfl, hk3⟩; rw [h3]; have rf3 := frozen_of_row _ _ 0 _ _ ((hk3.blk (Array.getElem?_eq_some_iff.1 HR1.out).1).trans HR1.out); have rc3 := row_cell ((hk3.blk (Array.getElem?_eq_some_iff.1 HR1.out).1).trans HR1.out) 0; simp only [List.getElem?_toArray, List.getElem?_cons_zero] at rc3)) | (refine ⟨trivial, ?_⟩))
        have h4 := BAD.out _ (Kp.refl W2) (.inr ⟨_, List.mem_append_right _ (List.mem_singleton.2 rfl), .inl (by show (64 : Int) < x.1.1; omega)⟩)
        first | exact ⟨h4.1, h4.2.1, rfl, h4.2.2.2⟩ | (rw [HS.out]; exact ⟨h4.1, h4.2.1, rfl, h4.2.2.2⟩)
    · have d1 : decide ((16384 : Int) < ((pre.length : Nat) : Int) + 1) = true := decide_eq_true (by omega)
      gi_wp2_with (first | (refine ⟨trivial, fun h => absurd h (by decide), ?_⟩; gi_at_call 40; go_loud (rw [HS.out]; refine (CF.out _ _ (HC.out.trans HC1.out)).mono ?_; rintro e w3 ⟨rfl, hk3⟩; rw [h3]; have rf3 := frozen_of_row _ _ 0 _ _ ((hk3.blk (Array.getElem?_eq_some_iff.1 HR1.out).1).trans HR1.out); have rc3 := row_cell ((hk3.blk (Array.getElem?_eq_some_iff.1 HR1.out).1).trans HR1.out) 0; simp only [List.getElem?_toArray, List.getElem?_cons_zero] at rc3)) | (refine ⟨trivial, ?_⟩))
      have h4 := BAD.out _ (Kp.refl W2) (.inl (by rw [List.length_append, List.length_map]; simp; omega))
      first | exact ⟨h4.1, h4.2.1, rfl, h4.2.2.2⟩ | (rw [HS.out]; exact ⟨h4.1, h4.2.1, rfl, h4.2.2.2⟩)
  case done =>
    rintro D ys W hD hys ⟨⟨⟨hnb, hrb⟩, hB⟩, hC, hG⟩ hK
    rw [hys] at hG
    have HOK := Lib.hid (show (0 : Int) = (errOf (okL (flatN R 0 T))) from by rw [okL_yes hG.1 hG.2]; rfl)
    clear hG
    have rf := frozen_of_row _ _ 0 _ _ hrb
    have r0 := row_cell hrb 0
    simp at r0
    have hrs := row_set (v' := .int .i64 0) hrb
    have hDn : w.heap.size + 1 ≠ D := by have := HSZ.out; omega
    have hwD : w.heap.size ≤ D := by have := HSZ.out; omega
    gi_wp2
    have hK' : (W.setCell ⟨w.heap.size + 1, 0, none⟩ (.int .i64 0)).heap[D]? = some (.deferred (some [])) := (Below.heap_setCell _ _ _ _ (Ne.symm hDn)).trans hK
    have hc := row_cell hrs 0
    simp only [List.getElem?_toArray, List.getElem?_cons_zero] at hc
    refine ⟨by simp, .inl ⟨_, _, rfl, run_takeDeferred hK', ?_⟩⟩
    have hcd := cell_kept hc (grownBy_putObj' (W.setCell ⟨w.heap.size + 1, 0, none⟩ (.int .i64 0)) D (.deferred none)) (fun r e => by cases e; exact ⟨_, hK', rfl⟩)
    exact ⟨.int .i64 0, by simp [results, Try.results30, go_sem, hcd], ret_err HOK.out, Below.trans (hB.setCell (p := ⟨w.heap.size + 1, 0, none⟩) (by show w.heap.size ≤ w.heap.size + 1; omega) _) (belowK_b (w := w) (Nat.le_refl _) _ D _ _ hwD hK' rfl rfl)⟩
  case stop =>
    rintro D c pre W hD hp ⟨⟨hrb, hB⟩, rfl, hb⟩ hK
    have HOK := Lib.hid (show (1 : Int) = (errOf (okL (flatN R 0 T))) from by rw [okL_no hp hb]; rfl)
    clear hb hp
    have hDn : w.heap.size + 1 ≠ D := by have := HSZ.out; omega
    have hwD : w.heap.size ≤ D := by have := HSZ.out; omega
    gi_wp2
    have hc := row_cell hrb 0
    simp only [List.getElem?_toArray, List.getElem?_cons_zero] at hc
    refine ⟨by simp, .inl ⟨_, _, rfl, run_takeDeferred hK, ?_⟩⟩
    have hcd := cell_kept hc (grownBy_putObj' W D (.deferred none)) (fun r e => by cases e; exact ⟨_, hK, rfl⟩)
    exact ⟨.int .i64 1, by simp [results, Try.results30, go_sem, hcd], ret_err HOK.out, Below.trans hB (belowK_b (w := w) (Nat.le_refl _) _ D _ _ hwD hK rfl rfl)⟩
set_option maxRecDepth 100000 in
set_option maxHeartbeats 8000000 in
theorem check_of (n : Nat) (hn : 3 ≤ n) (R : Nat) (T : Nd) (h : Hn) (w : World) (hl : Lies w A0 R T h) (pb : Nat) (L : List Int) (ho : OfAt w pb L) (hT : inK L h.k = true) (hM : ∀ y, y ∈ flatN R 0 T → FormsOK y.2) :
    CallsIn Fence.wide n Try.prog 30 #[h.val, .func (.func 41) #[] #[.pointer (some ⟨pb, 0, none⟩)]] w fun e w' => e = .returned (.int .i64 (errOf (okL (flatN R 0 T)))) ∧ Kp w w' := by
  have hn1 : 1 ≤ n := by omega
  obtain ⟨k, tx, nn, at_, la, ll, lc⟩ := h
  simp only at hT
  have HL := Lib.hid hl
  have HM := Lib.hid hM
  clear hl hM
  have hro : Fence.wide.round = none := rfl
  have CR := Lib.hid (fun (W : World) (m : Nat) (hk : Kp w W) => (callsIn_wide (n := m)).2 (c_of1 ⟨k, tx, nn, at_, la, ll, lc⟩ W pb L (ho.keep hk)))
  clear ho
  refine callsIn_of_wp_marks Try.func30 rfl trivial ?_ hro
  simp only [Try.ntmps30, List.size_toArray, List.length_cons, List.length_nil, Nat.reduceAdd, Nat.reduceSub, Array.replicate_succ, Array.replicate_zero, List.push_toArray, List.append_toArray, List.nil_append, List.cons_append]
  gi_wp2_with (first | (refine ⟨trivial, ?_⟩; gi_at_call 41; (with_reducible refine (CR.out _ _ (((Kp.refl _).alloc _).alloc _)).mono ?_); rintro e w1 ⟨rfl, hk1⟩; rw [hT]; have b := boxed (w := w) (h := ⟨k, tx, nn, at_, la, ll, lc⟩) (show Kp _ w1 from Kp.back hk1 ((Kp.refl _).alloc _)); simp only at b; obtain ⟨b0, b1, b2, b3, b4, bs⟩ := b; have bl := lt_of_cell b0) | ((try refine ⟨trivial, ?_⟩); gi_at_call 35; refine (each_in Fence.wide (n - 1) trivial hro ⟨k, tx, nn, at_, la, ll, lc⟩ _).mono ?_; rintro e w' ⟨rfl, rfl⟩))
  have hrb := (hk1.blk (b := w.heap.size + 1) (by simp)).trans (heap_at (w := w.alloc (.cells #[.int .i64 k, .string tx, .int .u64 nn, .int .i64 at_, .slice la ll lc] 25)) (o := .cells #[.int .i64 0] 26) (by simp))
  have hkw1 : Kp w w1 := Kp.back hk1 (((Kp.refl w).alloc _).alloc _)
  obtain ⟨W0, hW0⟩ : ∃ W0, (w1.alloc (.cells #[.int .i64 0] 3)).alloc (.cells #[.int .i64 k, .string tx, .int .u64 nn, .int .i64 at_, .slice la ll lc] 25) = W0 := ⟨_, rfl⟩
  have hB1 : Kp w1 W0 := by rw [← hW0]; exact ((Kp.refl w1).alloc _).alloc _
  have hsz : W0.heap.size = w1.heap.size + 1 + 1 := by rw [← hW0]; simp
  have hnb : W0.heap[w1.heap.size]? = some (.cells #[.int .i64 0] 3 (0, 0)) := by rw [← hW0]; exact (((Kp.refl _).alloc _).blk (by simp)).trans (heap_alloc_new w1 _)
  have hrN : W0.rangeAt (w1.heap.size + 1) 0 (⟨k, tx, nn, at_, la, ll, lc⟩ : Hn).cells := by
    rw [← hW0]
    intro j v hv
    rw [Nat.zero_add, cell_of_row _ (w1.heap.size + 1) j _ _ _ (heap_at (by simp))]
    simpa using hv
  have hlt1 : w.heap.size + 1 < w1.heap.size := (Array.getElem?_eq_some_iff.1 hrb).1
  have hrb0 : W0.heap[w.heap.size + 1]? = some (.cells #[.int .i64 0] 26 (0, 0)) := (hB1.blk (by omega)).trans hrb
  rw [hW0]
  have HW := Lib.hid hW0
  clear hW0
  have hB0 : Kp w W0 := hkw1.trans hB1
  have HL0 : Hid (Lies W0 (Out (fun b => b = w1.heap.size ∨ b = w.heap.size + 1)) R T ⟨k, tx, nn, at_, la, ll, lc⟩) := Lib.hid (out_of HL.out hB0 (fun b hb => by omega))
  have hCl : ∀ b, (b = w1.heap.size ∨ b = w.heap.size + 1) → b < W0.heap.size := fun b hb => by omega
  have HSZ := Lib.hid hsz
  clear hsz
  refine wpIn_rangeFunc_ownH hro hn1 (gf := 43) (lb := #[.pointer (some ⟨w1.heap.size + 1, 0, none⟩)]) rfl trivial (enters_of Try.func43 (by kernel_rfl) rfl)
    (each_stops Fence.wide rfl (n - 1) trivial trivial hro R (w1.heap.size + 1) W0 W0 (fun b => b = w1.heap.size ∨ b = w.heap.size + 1) (fun y => FormsOK y.2) hCl T ⟨k, tx, nn, at_, la, ll, lc⟩ HL0.out HM.out (Cel.refl _ _) hrN) (fun h k => h.trans k) celK_b (Below.refl _ _) (fun _ => rfl)
    (fun pre W => ((W.heap[w1.heap.size]? = some (.cells #[.int .i64 pre.length] 3 (0, 0)) ∧ W.heap[w.heap.size + 1]? = some (.cells #[.int .i64 0] 26 (0, 0))) ∧ Kp w W) ∧ Cel (fun b => b = w1.heap.size ∨ b = w.heap.size + 1) W0 W ∧ GoodL (pre.map Item.pr))
    (fun c pre W => (W.heap[w.heap.size + 1]? = some (.cells #[.int .i64 1] 26 (0, 0)) ∧ Kp w W) ∧ c = Code.ret ∧ BadL (pre.map Item.pr))
    (fun pre A B' row hs hg hr => ⟨⟨⟨own_row hs.1.1.1 hg hr, own_row hs.1.1.2 hg hr⟩, hs.1.2.grown hg (fun k e => Nat.le_trans hB0.sz (hr k e).1)⟩, ownFrom_cel (β := Unit) () A B' row hs.2.1 hg hr, hs.2.2⟩)
    (fun c pre A B' row hs hg hr => ⟨⟨own_row hs.1.1 hg hr, hs.1.2.grown hg (fun k e => Nat.le_trans hB0.sz (hr k e).1)⟩, hs.2⟩)
    ⟨⟨⟨hnb, hrb0⟩, hB0⟩, Cel.refl _ _, ⟨by simp, by simp⟩⟩
    (fun x a' W => ∃ q, a' = ⟨#[(⟨k, tx, nn, at_, la, ll, lc⟩ : Hn).val, .func (.func 41) #[] #[.pointer (some ⟨pb, 0, none⟩)], .pointer (some ⟨w.heap.size, 0, none⟩), undef, .pointer (some ⟨w.heap.size + 1, 0, none⟩), .pointer (some ⟨w1.heap.size, 0, none⟩), .int .i64 x.1.1, .pointer (some ⟨q, 0, none⟩), .func (.func 41) #[] #[.pointer (some ⟨pb, 0, none⟩)], .agg #[.int .i64 k, .string tx, .int .u64 nn, .int .i64 at_, .slice la ll lc], .bool true, .bool false, .agg #[.int .i64 k, .string tx, .int .u64 nn, .int .i64 at_, .slice la ll lc], .func (.func 43) #[] #[.pointer (some ⟨w1.heap.size + 1, 0, none⟩)], .int .i64 x.1.1, x.1.2.2.val, undef, undef, undef, undef, undef, undef, undef, undef, undef, undef, undef, undef, undef], []⟩ ∧ W0.heap.size ≤ q ∧ W.rangeAt q 0 x.1.2.2.cells)
    ?ax ?assign ?body ?done ?stop
  case ax =>
    rintro x a' s A B row ⟨q, h1, h2, h3⟩ hg hr
    exact ⟨q, h1, h2, fun j v hv => cell_kept (h3 j v hv) hg (fun r e => (hr r e).2)⟩
  case assign =>
    rintro l pre x W K ⟨⟨⟨hnb, hrb⟩, hB⟩, hC, hG⟩ hK
    gi_wp2
    refine hK _ _ (KeepsFrom.of_grownBy (World.grownBy_alloc W _ none) (by simp)) (((Kp.refl W).alloc _).cel) ⟨⟨⟨(((Kp.refl W).alloc _).blk (Array.getElem?_eq_some_iff.1 hnb).1).trans hnb, (((Kp.refl W).alloc _).blk (Array.getElem?_eq_some_iff.1 hrb).1).trans hrb⟩, hB.alloc _⟩, hC.trans (((Kp.refl W).alloc _).cel), hG⟩ ⟨W.heap.size, ?_, by have := hC.size; omega, fun j v hv => ?_⟩
    · rfl
    · rw [Nat.zero_add, cell_of_row _ _ _ _ _ _ (heap_alloc_new _ _)]; simpa using hv
  case body =>
    rintro l pre x a' W hlw ⟨rl, hrl⟩ ⟨⟨⟨hnb, hrb⟩, hB⟩, hC, hG⟩ ⟨q, rfl, hq, hqr⟩ hlen
    have hm := hG.1
    rw [List.length_map] at hm
    have g0 := row_cell hnb 0
    have gf := frozen_of_row _ _ 0 _ _ hnb
    have r0 := row_cell hrb 0
    have rf := frozen_of_row _ _ 0 _ _ hrb
    simp at g0 r0
    obtain ⟨x0, x1, x2, x3, x4⟩ := node_at hqr
    have hnq : w1.heap.size ≠ q := by have := HSZ.out; omega
    have hrq : w.heap.size + 1 ≠ q := by have := HSZ.out; omega
    have hql := lt_of_cell x0
    have HG := Lib.hid hG
    have HNB := Lib.hid hnb
    have HRB := Lib.hid hrb
    have HC := Lib.hid hC
    have HBW := Lib.hid hB
    have HQR := Lib.hid hqr
    clear hG hnb hrb hC hB hqr
    have CF := Lib.hid (fun (W' : World) (m : Nat) (hc : Cel (fun b => b = w1.heap.size ∨ b = w.heap.size + 1) W0 W') => (show CallsIn (Fence.wide.inRound l) m _ _ _ _ _ from (callsIn_wide (n := m)).2 (x.2.2 R x.1.2.2 W' ((Lies.cel hc x.2.1).weak (A0_le _)))))
    have hnr : w1.heap.size ≠ w.heap.size + 1 := by omega
    have hC1 : Cel (fun b => b = w1.heap.size ∨ b = w.heap.size + 1) W (W.setCell ⟨w1.heap.size, 0, none⟩ (.int .i64 ((pre.length : Int) + 1))) := cel_set W _ _ (.inl rfl)
    have hN1 : (W.setCell ⟨w1.heap.size, 0, none⟩ (.int .i64 ((pre.length : Int) + 1))).heap[w1.heap.size]? = some (.cells #[.int .i64 (((pre ++ [x]).length : Nat) : Int)] 3 (0, 0)) := by
      rw [List.length_append, List.length_singleton]
      exact row_set HNB.out
    have hR1 : (W.setCell ⟨w1.heap.size, 0, none⟩ (.int .i64 ((pre.length : Int) + 1))).heap[w.heap.size + 1]? = some (.cells #[.int .i64 0] 26 (0, 0)) := (Below.heap_setCell _ _ _ _ (Ne.symm hnr)).trans HRB.out
    have hB1' : Kp w (W.setCell ⟨w1.heap.size, 0, none⟩ (.int .i64 ((pre.length : Int) + 1))) := HBW.out.setCell (by show w.heap.size ≤ w1.heap.size; omega) _
    have hK1 : KeepsFrom W0.heap.size W (W.setCell ⟨w1.heap.size, 0, none⟩ (.int .i64 ((pre.length : Int) + 1))) := (KeepsOthers.setCell W _ _).from _
    obtain ⟨W2, hW2⟩ : ∃ W2, W.setCell ⟨w1.heap.size, 0, none⟩ (.int .i64 ((pre.length : Int) + 1)) = W2 := ⟨_, rfl⟩
    have HS := Lib.hid hW2
    rw [hW2] at hC1 hN1 hR1 hB1' hK1
    have rfz := frozen_of_row _ _ 0 _ _ hR1
    have HC1 := Lib.hid hC1
    have HN1 := Lib.hid hN1
    have HR1 := Lib.hid hR1
    have HB1 := Lib.hid hB1'
    have HK1 := Lib.hid hK1
    clear hW2 hC1 hN1 hR1 hB1' hK1
    have hl1 : (pre ++ [x]).map Item.pr = pre.map Item.pr ++ [(x.1.1, x.1.2.1)] := by simp [Item.pr]
    have HL1 := Lib.hid hl1
    clear hl1
    have bad : ∀ (W3 : World), Kp W2 W3 → BadL (pre.map Item.pr ++ [(x.1.1, x.1.2.1)]) → (KeepsFrom W0.heap.size W (W3.setCell ⟨w.heap.size + 1, 0, none⟩ (.int .i64 1))) ∧ ((W3.setCell ⟨w.heap.size + 1, 0, none⟩ (.int .i64 1)).heap[w.heap.size + 1]? = some (.cells #[.int .i64 1] 26 (0, 0)) ∧ Kp w (W3.setCell ⟨w.heap.size + 1, 0, none⟩ (.int .i64 1))) ∧ Code.ret = Code.ret ∧ BadL ((pre ++ [x]).map Item.pr) := by
      intro W3 hk hb
      refine ⟨(HK1.out.trans (KeepsFrom.of_grownBy (row := none) ⟨hk.os, hk.tape, hk.output, hk.size, fun i hi _ => hk.blk hi⟩ (by simp))).trans ((KeepsOthers.setCell W3 _ _).from _), ⟨row_set ((hk.blk (Array.getElem?_eq_some_iff.1 HR1.out).1).trans HR1.out), (HB1.out.trans hk).setCell (by show w.heap.size ≤ w.heap.size + 1; omega) _⟩, rfl, by rw [HL1.out]; exact hb⟩
    have BAD := Lib.hid bad
    clear bad
    by_cases h1 : pre.length + 1 ≤ 16384
    · have d1 : decide ((16384 : Int) < ((pre.length : Nat) : Int) + 1) = false := decide_eq_false (by omega)
      by_cases h2 : x.1.1 ≤ 64
      · have d2 : decide ((64 : Int) < x.1.1) = false := decide_eq_false (by omega)
        cases h3 : formN x.1.2.1 with
        | true =>
          gi_wp2_with (first | (refine ⟨trivial, fun h => absurd h (by decide), ?_⟩; gi_at_call 40; go_loud (rw [HS.out]; refine (CF.out _ _ (HC.out.trans HC1.out)).mono ?_; rintro e w3 ⟨rfl, hk3⟩; rw [h3]; have rf3 := frozen_of_row _ _ 0 _ _ ((hk3.blk (Array.getElem?_eq_some_iff.1 HR1.out).1).trans HR1.out); have rc3 := row_cell ((hk3.blk (Array.getElem?_eq_some_iff.1 HR1.out).1).trans HR1.out) 0; simp only [List.getElem?_toArray, List.getElem?_cons_zero] at rc3)) | (refine ⟨trivial, ?_⟩))
          exact ⟨HK1.out.trans (KeepsFrom.of_grownBy (row := none) ⟨hk3.os, hk3.tape, hk3.output, hk3.size, fun i hi _ => hk3.blk hi⟩ (by simp)), HC1.out.trans hk3.cel, ⟨⟨(hk3.blk (Array.getElem?_eq_some_iff.1 HN1.out).1).trans HN1.out, (hk3.blk (Array.getElem?_eq_some_iff.1 HR1.out).1).trans HR1.out⟩, HB1.out.trans hk3⟩, (HC.out.trans HC1.out).trans hk3.cel, by rw [HL1.out]; exact HG.out.snoc (by rw [List.length_map]; exact h1) h2 h3⟩
        | false =>
          gi_wp2_with (first | (refine ⟨trivial, fun h => absurd h (by decide), ?_⟩; gi_at_call 40; go_loud (rw [HS.out]; refine (CF.out _ _ (HC.out.trans HC1.out)).mono ?_; rintro e w3 ⟨rfl, hk3⟩; rw [h3]; have rf3 := frozen_of_row _ _ 0 _ _ ((hk3.blk (Array.getElem?_eq_some_iff.1 HR1.out).1).trans HR1.out); have rc3 := row_cell ((hk3.blk (Array.getElem?_eq_some_iff.1 HR1.out).1).trans HR1.out) 0; simp only [List.getElem?_toArray, List.getElem?_cons_zero] at rc3)) | (refine ⟨trivial, ?_⟩))
          have h4 := BAD.out _ hk3 (.inr ⟨_, List.mem_append_right _ (List.mem_singleton.2 rfl), .inr h3⟩)
          exact ⟨h4.1, h4.2.1, rfl, h4.2.2.2⟩
      · have d2 : decide ((64 : Int) < x.1.1) = true := decide_eq_true (by omega)
        gi_wp2_with (first | (refine ⟨trivial, fun h => absurd h (by decide), ?_⟩; gi_at_call 40; go_loud (rw [HS.out]; refine (CF.out _ _ (HC.out.trans HC1.out)).mono ?_; rintro e w3 ⟨rfl, hk3⟩; rw [h3]; have rf3 := frozen_of_row _ _ 0 _ _ ((hk3.blk (Array.getElem?_eq_some_iff.1 HR1.out).1).trans HR1.out); have rc3 := row_cell ((hk3.blk (Array.getElem?_eq_some_iff.1 HR1.out).1).trans HR1.out) 0; simp only [List.getElem?_toArray, List.getElem?_cons_zero] at rc3)) | (refine ⟨trivial, ?_⟩))
        have h4 := BAD.out _ (Kp.refl W2) (.inr ⟨_, List.mem_append_right _ (List.mem_singleton.2 rfl), .inl (by show (64 : Int) < x.1.1; omega)⟩)
        first | exact ⟨h4.1, h4.2.1, rfl, h4.2.2.2⟩ | (rw [HS.out]; exact ⟨h4.1, h4.2.1, rfl, h4.2.2.2⟩)
    · have d1 : decide ((16384 : Int) < ((pre.length : Nat) : Int) + 1) = true := decide_eq_true (by omega)
      gi_wp2_with (first | (refine ⟨trivial, fun h => absurd h (by decide), ?_⟩; gi_at_call 40; go_loud (rw [HS.out]; refine (CF.out _ _ (HC.out.trans HC1.out)).mono ?_; rintro e w3 ⟨rfl, hk3⟩; rw [h3]; have rf3 := frozen_of_row _ _ 0 _ _ ((hk3.blk (Array.getElem?_eq_some_iff.1 HR1.out).1).trans HR1.out); have rc3 := row_cell ((hk3.blk (Array.getElem?_eq_some_iff.1 HR1.out).1).trans HR1.out) 0; simp only [List.getElem?_toArray, List.getElem?_cons_zero] at rc3)) | (refine ⟨trivial, ?_⟩))
      have h4 := BAD.out _ (Kp.refl W2) (.inl (by rw [List.length_append, List.length_map]; simp; omega))
      first | exact ⟨h4.1, h4.2.1, rfl, h4.2.2.2⟩ | (rw [HS.out]; exact ⟨h4.1, h4.2.1, rfl, h4.2.2.2⟩)
  case done =>
    rintro D ys W hD hys ⟨⟨⟨hnb, hrb⟩, hB⟩, hC, hG⟩ hK
    rw [hys] at hG
    have HOK := Lib.hid (show (0 : Int) = (errOf (okL (flatN R 0 T))) from by rw [okL_yes hG.1 hG.2]; rfl)
    clear hG
    have rf := frozen_of_row _ _ 0 _ _ hrb
    have r0 := row_cell hrb 0
    simp at r0
    have hrs := row_set (v' := .int .i64 0) hrb
    have hDn : w.heap.size + 1 ≠ D := by have := HSZ.out; omega
    have hwD : w.heap.size ≤ D := by have := HSZ.out; omega
    gi_wp2
    have hK' : (W.setCell ⟨w.heap.size + 1, 0, none⟩ (.int .i64 0)).heap[D]? = some (.deferred (some [])) := (Below.heap_setCell _ _ _ _ (Ne.symm hDn)).trans hK
    have hc := row_cell hrs 0
    simp only [List.getElem?_toArray, List.getElem?_cons_zero] at hc
    refine ⟨by simp, .inl ⟨_, _, rfl, run_takeDeferred hK', ?_⟩⟩
    have hcd := cell_kept hc (grownBy_putObj' (W.setCell ⟨w.heap.size + 1, 0, none⟩ (.int .i64 0)) D (.deferred none)) (fun r e => by cases e; exact ⟨_, hK', rfl⟩)
    exact ⟨.int .i64 0, by simp [results, Try.results30, go_sem, hcd], ret_err HOK.out, Below.trans (hB.setCell (p := ⟨w.heap.size + 1, 0, none⟩) (by show w.heap.size ≤ w.heap.size + 1; omega) _) (belowK_b (w := w) (Nat.le_refl _) _ D _ _ hwD hK' rfl rfl)⟩
  case stop =>
    rintro D c pre W hD hp ⟨⟨hrb, hB⟩, rfl, hb⟩ hK
    have HOK := Lib.hid (show (1 : Int) = (errOf (okL (flatN R 0 T))) from by rw [okL_no hp hb]; rfl)
    clear hb hp
    have hDn : w.heap.size + 1 ≠ D := by have := HSZ.out; omega
    have hwD : w.heap.size ≤ D := by have := HSZ.out; omega
    gi_wp2
    have hc := row_cell hrb 0
    simp only [List.getElem?_toArray, List.getElem?_cons_zero] at hc
    refine ⟨by simp, .inl ⟨_, _, rfl, run_takeDeferred hK, ?_⟩⟩
    have hcd := cell_kept hc (grownBy_putObj' W D (.deferred none)) (fun r e => by cases e; exact ⟨_, hK, rfl⟩)
    exact ⟨.int .i64 1, by simp [results, Try.results30, go_sem, hcd], ret_err HOK.out, Below.trans hB (belowK_b (w := w) (Nat.le_refl _) _ D _ _ hwD hK rfl rfl)⟩
set_option maxRecDepth 100000 in
set_option maxHeartbeats 1600000 in
theorem check_ty_no (n : Nat) (hn : 3 ≤ n) (h : Hn) (w : World) (hT : tyK h.k = false) :
    CallsIn Fence.wide n Try.prog 30 #[h.val, .func (.func 34) #[] #[]] w fun e w' => e = .returned (.int .i64 1) ∧ Kp w w' := by
  have hn1 : 1 ≤ n := by omega
  obtain ⟨k, tx, nn, at_, la, ll, lc⟩ := h
  simp only at hT
  have hro : Fence.wide.round = none := rfl
  have CR := Lib.hid (fun (W : World) (m : Nat) => (callsIn_wide (n := m)).2 (c_isType ⟨k, tx, nn, at_, la, ll, lc⟩ W))
  refine callsIn_of_wp_marks Try.func30 rfl trivial ?_ hro
  simp only [Try.ntmps30, List.size_toArray, List.length_cons, List.length_nil, Nat.reduceAdd, Nat.reduceSub, Array.replicate_succ, Array.replicate_zero, List.push_toArray, List.append_toArray, List.nil_append, List.cons_append]
  gi_wp2_with (first | (refine ⟨trivial, ?_⟩; gi_at_call 34; (with_reducible refine (CR.out _ _).mono ?_); rintro e w1 ⟨rfl, hk1⟩; rw [hT]; have hrb := (hk1.blk (b := w.heap.size + 1) (by simp)).trans (heap_at (w := w.alloc (.cells #[.int .i64 k, .string tx, .int .u64 nn, .int .i64 at_, .slice la ll lc] 25)) (o := .cells #[.int .i64 0] 26) (by simp)); have r0 := row_cell hrb 0; simp only [List.getElem?_toArray, List.getElem?_cons_zero] at r0; have rf := frozen_of_row _ _ 0 _ _ hrb))
  have hrs := row_cell (row_set (v' := .int .i64 1) hrb) 0
  simp only [List.getElem?_toArray, List.getElem?_cons_zero] at hrs
  exact ⟨.int .i64 1, by simp [results, Try.results30, go_sem, hrs], rfl, (Kp.back hk1 (((Kp.refl w).alloc _).alloc _)).setCell (p := ⟨w.heap.size + 1, 0, none⟩) (by show w.heap.size ≤ w.heap.size + 1; omega) _⟩
set_option maxRecDepth 100000 in
set_option maxHeartbeats 1600000 in
theorem check_st_no (n : Nat) (hn : 3 ≤ n) (h : Hn) (w : World) (hT : stK h.k = false) :
    CallsIn Fence.wide n Try.prog 30 #[h.val, .func (.func 32) #[] #[]] w fun e w' => e = .returned (.int .i64 1) ∧ Kp w w' := by
  have hn1 : 1 ≤ n := by omega
  obtain ⟨k, tx, nn, at_, la, ll, lc⟩ := h
  simp only at hT
  have hro : Fence.wide.round = none := rfl
  have CR := Lib.hid (fun (W : World) (m : Nat) => (callsIn_wide (n := m)).2 (c_isStatement ⟨k, tx, nn, at_, la, ll, lc⟩ W))
  refine callsIn_of_wp_marks Try.func30 rfl trivial ?_ hro
  simp only [Try.ntmps30, List.size_toArray, List.length_cons, List.length_nil, Nat.reduceAdd, Nat.reduceSub, Array.replicate_succ, Array.replicate_zero, List.push_toArray, List.append_toArray, List.nil_append, List.cons_append]
  gi_wp2_with (first | (refine ⟨trivial, ?_⟩; gi_at_call 32; (with_reducible refine (CR.out _ _).mono ?_); rintro e w1 ⟨rfl, hk1⟩; rw [hT]; have hrb := (hk1.blk (b := w.heap.size + 1) (by simp)).trans (heap_at (w := w.alloc (.cells #[.int .i64 k, .string tx, .int .u64 nn, .int .i64 at_, .slice la ll lc] 25)) (o := .cells #[.int .i64 0] 26) (by simp)); have r0 := row_cell hrb 0; simp only [List.getElem?_toArray, List.getElem?_cons_zero] at r0; have rf := frozen_of_row _ _ 0 _ _ hrb))
  have hrs := row_cell (row_set (v' := .int .i64 1) hrb) 0
  simp only [List.getElem?_toArray, List.getElem?_cons_zero] at hrs
  exact ⟨.int .i64 1, by simp [results, Try.results30, go_sem, hrs], rfl, (Kp.back hk1 (((Kp.refl w).alloc _).alloc _)).setCell (p := ⟨w.heap.size + 1, 0, none⟩) (by show w.heap.size ≤ w.heap.size + 1; omega) _⟩
set_option maxRecDepth 100000 in
set_option maxHeartbeats 1600000 in
theorem check_ex_no (n : Nat) (hn : 3 ≤ n) (h : Hn) (w : World) (hT : exK h.k = false) :
    CallsIn Fence.wide n Try.prog 30 #[h.val, .func (.func 33) #[] #[]] w fun e w' => e = .returned (.int .i64 1) ∧ Kp w w' := by
  have hn1 : 1 ≤ n := by omega
  obtain ⟨k, tx, nn, at_, la, ll, lc⟩ := h
  simp only at hT
  have hro : Fence.wide.round = none := rfl
  have CR := Lib.hid (fun (W : World) (m : Nat) => (callsIn_wide (n := m)).2 (c_isExpression ⟨k, tx, nn, at_, la, ll, lc⟩ W))
  refine callsIn_of_wp_marks Try.func30 rfl trivial ?_ hro
  simp only [Try.ntmps30, List.size_toArray, List.length_cons, List.length_nil, Nat.reduceAdd, Nat.reduceSub, Array.replicate_succ, Array.replicate_zero, List.push_toArray, List.append_toArray, List.nil_append, List.cons_append]
  gi_wp2_with (first | (refine ⟨trivial, ?_⟩; gi_at_call 33; (with_reducible refine (CR.out _ _).mono ?_); rintro e w1 ⟨rfl, hk1⟩; rw [hT]; have hrb := (hk1.blk (b := w.heap.size + 1) (by simp)).trans (heap_at (w := w.alloc (.cells #[.int .i64 k, .string tx, .int .u64 nn, .int .i64 at_, .slice la ll lc] 25)) (o := .cells #[.int .i64 0] 26) (by simp)); have r0 := row_cell hrb 0; simp only [List.getElem?_toArray, List.getElem?_cons_zero] at r0; have rf := frozen_of_row _ _ 0 _ _ hrb))
  have hrs := row_cell (row_set (v' := .int .i64 1) hrb) 0
  simp only [List.getElem?_toArray, List.getElem?_cons_zero] at hrs
  exact ⟨.int .i64 1, by simp [results, Try.results30, go_sem, hrs], rfl, (Kp.back hk1 (((Kp.refl w).alloc _).alloc _)).setCell (p := ⟨w.heap.size + 1, 0, none⟩) (by show w.heap.size ≤ w.heap.size + 1; omega) _⟩
set_option maxRecDepth 100000 in
set_option maxHeartbeats 1600000 in
theorem check_of_no (n : Nat) (hn : 3 ≤ n) (h : Hn) (w : World) (pb : Nat) (L : List Int) (ho : OfAt w pb L) (hT : inK L h.k = false) :
    CallsIn Fence.wide n Try.prog 30 #[h.val, .func (.func 41) #[] #[.pointer (some ⟨pb, 0, none⟩)]] w fun e w' => e = .returned (.int .i64 1) ∧ Kp w w' := by
  have hn1 : 1 ≤ n := by omega
  obtain ⟨k, tx, nn, at_, la, ll, lc⟩ := h
  simp only at hT
  have hro : Fence.wide.round = none := rfl
  have CR := Lib.hid (fun (W : World) (m : Nat) (hk : Kp w W) => (callsIn_wide (n := m)).2 (c_of1 ⟨k, tx, nn, at_, la, ll, lc⟩ W pb L (ho.keep hk)))
  clear ho
  refine callsIn_of_wp_marks Try.func30 rfl trivial ?_ hro
  simp only [Try.ntmps30, List.size_toArray, List.length_cons, List.length_nil, Nat.reduceAdd, Nat.reduceSub, Array.replicate_succ, Array.replicate_zero, List.push_toArray, List.append_toArray, List.nil_append, List.cons_append]
  gi_wp2_with (first | (refine ⟨trivial, ?_⟩; gi_at_call 41; (with_reducible refine (CR.out _ _ (((Kp.refl _).alloc _).alloc _)).mono ?_); rintro e w1 ⟨rfl, hk1⟩; rw [hT]; have hrb := (hk1.blk (b := w.heap.size + 1) (by simp)).trans (heap_at (w := w.alloc (.cells #[.int .i64 k, .string tx, .int .u64 nn, .int .i64 at_, .slice la ll lc] 25)) (o := .cells #[.int .i64 0] 26) (by simp)); have r0 := row_cell hrb 0; simp only [List.getElem?_toArray, List.getElem?_cons_zero] at r0; have rf := frozen_of_row _ _ 0 _ _ hrb))
  have hrs := row_cell (row_set (v' := .int .i64 1) hrb) 0
  simp only [List.getElem?_toArray, List.getElem?_cons_zero] at hrs
  exact ⟨.int .i64 1, by simp [results, Try.results30, go_sem, hrs], rfl, (Kp.back hk1 (((Kp.refl w).alloc _).alloc _)).setCell (p := ⟨w.heap.size + 1, 0, none⟩) (by show w.heap.size ≤ w.heap.size + 1; omega) _⟩
end Go.Proofs.Ytgamenimbkafjaa
