/- The law TreeLeaves. Condition: the node lies in memory, and has not more nodes than a row may hold. -/
import Derived.Test.YtgamenimbkafjaaWl
import Derived.Test.YtgamenimbkafjaaWo
import Derived.Test.YtgamenimbkafjaaWg
import Derived.Test.YtgamenimbkafjaaH2
import Derived.Test.YtgamenimbkafjaaC2
namespace Go.Proofs.Ytgamenimbkafjaa
open Go.RowKit Go.Shelf
set_option linter.unusedVariables false
set_option linter.unusedSimpArgs false
attribute [local go_sem] Oper.semAt_some

/-- What the loop's body owns: the count and the flag. -/
def leafD (z : Nat) : Dyn := ⟨fun b => b = z ∨ b = z + 1, fun _ => False, z + 1 + 1, fun b hb => by omega, fun q hq => hq.elim⟩
theorem leafD_at {z : Nat} {W : World} {b : Nat} (h : (leafD z).At W b) : b = z ∨ b = z + 1 := h.elim id (fun ⟨_, _, hq, _⟩ => hq.elim)
/-- What was there has not turned, but for the count and the flag. -/
theorem leaf_cef {z : Nat} {A B : World} (hs : A.heap.size ≤ B.heap.size) (hb : ∀ b, b < A.heap.size → b ≠ z → b ≠ z + 1 → B.heap[b]? = A.heap[b]?) : Cef (leafD z) A B :=
  ⟨hs, fun _ p v hp hc => (cell_blk (hb p.block (lt_of_cell hc) (fun e => hp (.inl (.inl e))) (fun e => hp (.inl (.inr e))))).trans hc, fun _ b hx => .inl (.inl (leafD_at hx)), fun hn _ b hx => by
    have h1 : z + 1 + 1 ≤ A.heap.size := hn
    rcases leafD_at hx with h | h <;> omega⟩
structure LeafI (z : Nat) (w4 : World) (Fl : List (Int × Nd)) (pre : List CEl) (W : World) : Prop where
  kp : Kp w4 W
  k : W.heap[z]? = some (.cells #[.int .i64 pre.length] 3 (0, 0))
  ok : ∃ b, W.heap[z + 1]? = some (.cells #[.bool b] 4 (0, 0)) ∧ (pre.map CEl.pr <+: Fl → b = true)
theorem LeafI.grown {z : Nat} {w4 A B : World} {Fl : List (Int × Nd)} {pre : List CEl} {row : Option Nat} (h : LeafI z w4 Fl pre A) (hz : w4.heap.size ≤ z) (hg : A.grownBy B row) (hr : ∀ r, row = some r → z + 1 + 1 ≤ r ∧ ∃ o : Obj, A.heap[r]? = some o ∧ o.isCells = false) : LeafI z w4 Fl pre B where
  kp := h.kp.grown hg (fun k e => by have := (hr k e).1; omega)
  k := own_row h.k hg (fun r e => (hr r e))
  ok := let ⟨b, h1, h2⟩ := h.ok; ⟨b, own_row h1 hg (fun r e => (hr r e)), h2⟩
theorem LeafI.keep {z : Nat} {w4 A B : World} {Fl : List (Int × Nd)} {pre : List CEl} (h : LeafI z w4 Fl pre A) (k : Kp A B) : LeafI z w4 Fl pre B where
  kp := h.kp.trans k
  k := (k.blk (Array.getElem?_eq_some_iff.1 h.k).1).trans h.k
  ok := let ⟨b, h1, h2⟩ := h.ok; ⟨b, (k.blk (Array.getElem?_eq_some_iff.1 h1).1).trans h1, h2⟩
theorem there_put {w : World} {b o n l : Nat} {ob o' : Obj} (h : w.there b o n) (hl : w.heap[l]? = some ob) (hc : ob.isCells = false) : (w.putObj l o').there b o n := fun j hj => by
  obtain ⟨h1, h2⟩ := h j hj
  have hne : b ≠ l := fun e => by
    subst e
    unfold World.cell? at h1
    simp only [hl] at h1
    cases ob <;> first | (simp at h1; done) | (simp [Obj.isCells] at hc; done)
  have hb : (w.putObj l o').heap[b]? = w.heap[b]? := (grownBy_putObj' w l o').block b (by
    obtain ⟨v, hv⟩ := Option.isSome_iff_exists.1 h1
    exact lt_of_cell hv) (fun e => hne (Option.some.inj e))
  refine ⟨by rw [World.cell?_of_block (w := w) (by exact hb)]; exact h1, ?_⟩
  rw [← h2]
  unfold World.frozen?
  rw [hb]
theorem own_slice {w : World} {B : Nat} {e : TypeId} {m n : Nat} {v : Value} {xs : List Value} (h : w.ownsRow B e m v n xs) : ∃ a c, v = .slice a n c := by
  rcases h.2 with ⟨e1, e2⟩ | ⟨g, cap, cur, e1, _⟩
  · subst e2; exact ⟨_, _, e1⟩
  · exact ⟨_, _, e1⟩
set_option maxRecDepth 100000 in
set_option maxHeartbeats 16000000 in
theorem law_in (n : Nat) (hn : 6 ≤ n) (R : Nat) (T : Nd) (h : Hn) (cut : Int) (w : World) (hl : Lies w A0 R T h) (hN : sizeN R T ≤ 1048576) :
    CallsIn Fence.wide n Try.prog 9 #[h.val, .int .u8 cut] w fun e w' => e = .returned (.bool true) ∧ Kp w w' := by
  have hn1 : 1 ≤ n := by omega
  obtain ⟨k, tx, nn, at_, la, ll, lc⟩ := h
  have HL := Lib.hid hl
  have OW := Lib.hid (fun (W : World) (m : Nat) (hk : Kp w W) => (callsIn_wide (n := m)).2 (c_Own R T _ W (hl.keep hk)))
  have WK := Lib.hid (fun (h' : Hn) (W : World) (m : Nat) (hk : Lies W A0 R T h') => (callsIn_wide (n := m)).2 (c_Walk R T h' W hk))
  have FL := Lib.hid (fun (W : World) (m : Nat) (hk : Kp w W) => (callsIn_wide (n := m)).2 (c_Flat0 R T _ W (hl.keep hk) (by omega)))
  have AN := Lib.hid (fun (W : World) (m : Nat) => (callsIn_wide (n := m)).2 (c_answers W))
  clear hl
  have hro : Fence.wide.round = none := rfl
  have hnil := nil_no
  obtain ⟨N, hNN⟩ : ∃ N, N = (flatN R 0 T).length := ⟨_, rfl⟩
  have hNl : N ≤ 1048576 := by rw [hNN, flat_size]; exact hN
  have HNN := Lib.hid hNN
  clear hNN
  refine callsIn_of_wp_marks Try.func9 rfl trivial ?_ hro
  simp only [Try.ntmps9, List.size_toArray, List.length_cons, List.length_nil, Nat.reduceAdd, Nat.reduceSub, Array.replicate_succ, Array.replicate_zero, List.push_toArray, List.append_toArray, List.nil_append, List.cons_append]
  gi_wp2_with (first | ((try refine ⟨trivial, ?_⟩); gi_at_call 14; refine (OW.out _ (n - 1) (by (repeat (first | with_reducible exact Kp.refl _ | refine Kp.alloc ?_ _)))).mono ?_; rintro e w1 ⟨⟨k', tx', n', at', la', ll', lc'⟩, rfl, hli, hk1⟩; have HLI := Lib.hid hli; have HK1 := Lib.hid hk1; clear hli hk1) | ((try refine ⟨trivial, ?_⟩); gi_at_call 27; refine (WK.out ⟨k', tx', n', at', la', ll', lc'⟩ _ (n - 1) ((HLI.out.weak (A0_le _)).keep ((Kp.refl _).alloc _))).mono ?_; rintro e w2 ⟨h2, kb, rfl, hr2, hkb, hl2, hk2⟩; have HK2 := Lib.hid hk2; have HR2 := Lib.hid hr2; have HKB := Lib.hid hkb; have HL2 := Lib.hid hl2; have JA := Lib.hid (show Kp (w.alloc (.cells #[.int .i64 k, .string tx, .int .u64 nn, .int .i64 at_, .slice la ll lc] 25)) w2 from (((Kp.refl _).alloc _).trans HK1.out).trans (((Kp.refl _).alloc _).trans hk2)); obtain ⟨b0, b1, b2, b3, b4, bs⟩ := boxed (w := w) (h := ⟨k, tx, nn, at_, la, ll, lc⟩) JA.out; simp only at b0 b1 b2 b3 b4; clear hk2 hr2 hkb hl2) | ((try refine ⟨trivial, ?_⟩); gi_at_call 22; refine (FL.out _ (n - 1) (((Kp.refl w).alloc _).trans JA.out)).mono ?_; rintro e w3 ⟨vn, vd, ys, rfl, hys, hfs, hk3⟩; obtain ⟨an, cn, ad, cd, rfl, rfl, ta, td⟩ := hfs.tabs; have HYS := Lib.hid hys; have HTA := Lib.hid ta; have HK3 := Lib.hid hk3; clear hys hfs hk3 ta td b0 b1 b2 b3 b4 bs) | ((try refine ⟨trivial, ?_⟩); gi_at_call 12; refine (AN.out _ (n - 1)).mono ?_; rintro e w4 ⟨rfl, hk4⟩; have HK4 := Lib.hid hk4; clear hk4))
  obtain ⟨W0, hW0⟩ : ∃ W0, (w4.alloc (.cells #[.int .i64 0] 3)).alloc (.cells #[.bool true] 4) = W0 := ⟨_, rfl⟩
  have hB0 : Kp w4 W0 := by rw [← hW0]; exact ((Kp.refl w4).alloc _).alloc _
  have hsz : W0.heap.size = w4.heap.size + 1 + 1 := by rw [← hW0]; simp
  have hkk0 : W0.heap[w4.heap.size]? = some (.cells #[.int .i64 0] 3 (0, 0)) := by rw [← hW0]; exact (((Kp.refl _).alloc _).blk (by simp)).trans (heap_alloc_new w4 _)
  have hok0 : W0.heap[w4.heap.size + 1]? = some (.cells #[.bool true] 4 (0, 0)) := by rw [← hW0]; exact heap_at (by simp)
  rw [hW0]
  clear hW0
  have K24 := Lib.hid (HK3.out.trans (((Kp.refl w3).alloc _).trans HK4.out))
  have K14 := Lib.hid (((Kp.refl w1).alloc (.cells #[.int .i64 k', .string tx', .int .u64 n', .int .i64 at', .slice la' ll' lc'] 25)).trans (HK2.out.trans K24.out))
  have KW4 := Lib.hid (((Kp.refl w).alloc _).trans (JA.out.trans K24.out))
  have hzw : w.heap.size + 1 + 1 ≤ w4.heap.size := by have a := HK1.out.sz; have b := K14.out.sz; simp only [World.size_alloc] at a; omega
  have hz34 : w3.heap.size + 1 ≤ w4.heap.size := by have a := HK4.out.sz; simp only [World.size_alloc] at a; omega
  have hwf : (leafD w4.heap.size).WF W0 := fun b hb => by rcases leafD_at hb with e | e <;> omega
  have hn0 : (leafD w4.heap.size).n0 ≤ W0.heap.size := by show w4.heap.size + 1 + 1 ≤ _; omega
  have hI0 : LeafI w4.heap.size w4 (flatN R 0 T) [] W0 := ⟨hB0, hkk0, true, hok0, fun _ => rfl⟩
  have hz24 : w2.heap.size ≤ w4.heap.size := K24.out.sz
  have hL0 : Lies W0 (Out ((leafD w4.heap.size).At W0)) R T h2 := ((HL2.out.below (Nat.le_refl _)).keep (K24.out.trans hB0)).weak ⟨fun h => (show False from h).elim, fun b hb hc => by
    have h1 : b < w2.heap.size := hb.2
    rcases leafD_at hc with e | e <;> omega⟩
  have HNN2 := Lib.hid (show ys.length = N by rw [HNN.out, ← HYS.out, List.length_map])
  -- what lies at w4
  have CB := Lib.hid (fun W (q : Kp w4 W) => (show W.cell? ⟨w3.heap.size, 0, none⟩ = some (.slice an ys.length cn) ∧ W.cell? ⟨w.heap.size + 1, 0, none⟩ = some (.int .u8 cut) from
    ⟨q.cellv (HK4.out.cellv (by rw [cell_of_row _ w3.heap.size 0 _ _ _ (heap_alloc_new w3 _)]; rfl)),
     q.cellv (K14.out.cellv (HK1.out.cellv (by rw [cell_of_row _ (w.heap.size + 1) 0 _ _ _ (heap_at (by simp))]; rfl)))⟩))
  have CI := Lib.hid (fun W (q : Kp w4 W) => boxed (w := w1) (h := ⟨k', tx', n', at', la', ll', lc'⟩) (HK2.out.trans (K24.out.trans q)))
  have CN := Lib.hid (fun W (q : Kp w4 W) => boxed (w := w) (h := ⟨k, tx, nn, at_, la, ll, lc⟩) (JA.out.trans (K24.out.trans q)))
  clear hkk0 hok0
  refine range_H (α := CEl) hro hn1 (gf := 37) (lb := #[.pointer (some ⟨kb, 0, none⟩)]) rfl trivial (enters_of Try.func37 (by kernel_rfl) rfl)
    (walk_seqH (n - 1) (by omega) R kb W0 (leafD w4.heap.size) hn0 hwf T h2 hL0 ((K24.out.trans hB0).range HR2.out)) (fun h k => h.trans k) (cefK_b hn0) (Below.refl _ _) (fun _ => rfl)
    (fun pre W => LeafI w4.heap.size w4 (flatN R 0 T) pre W) (fun c pre W => c = Code.exit 0 ∧ LeafI w4.heap.size w4 (flatN R 0 T) pre W)
    (fun pre A B' row hs hg hr => hs.grown (Nat.le_refl _) hg (fun r e => ⟨by have := (hr r e).1; omega, (hr r e).2⟩)) (fun c pre A B' row hs hg hr => ⟨hs.1, hs.2.grown (Nat.le_refl _) hg (fun r e => ⟨by have := (hr r e).1; omega, (hr r e).2⟩)⟩) hI0 ?round ?done ?stop
  case round =>
    rintro l pre x Wp W hlw hI hbb hG hlen
    obtain ⟨d, X, ⟨xk, xt, xn, xa, xla, xll, xlc⟩⟩ := x
    have hkW : Kp Wp W := hbb
    gi_wp2
    refine ⟨keeps_kp (hkW.alloc _), fun o o' ho hoc => ?_⟩
    have ka : Kp W (W.alloc (.cells #[.int .i64 xk, .string xt, .int .u64 xn, .int .i64 xa, .slice xla xll xlc] 25)) := (Kp.refl W).alloc _
    have hg5 := grownBy_putObj' (W.alloc (.cells #[.int .i64 xk, .string xt, .int .u64 xn, .int .i64 xa, .slice xla xll xlc] 25)) l o'
    have hr5 : ∀ r, some l = some r → W0.heap.size ≤ r ∧ ∃ o : Obj, (W.alloc (.cells #[.int .i64 xk, .string xt, .int .u64 xn, .int .i64 xa, .slice xla xll xlc] 25)).heap[r]? = some o ∧ o.isCells = false := by
      rintro r e; cases e; exact ⟨hlw, o, ho, hoc⟩
    have hc5 : ∀ p v, W.cell? p = some v → ((W.alloc (.cells #[.int .i64 xk, .string xt, .int .u64 xn, .int .i64 xa, .slice xla xll xlc] 25)).putObj l o').cell? p = some v := fun p v hv => cell_kept (ka.cellv hv) hg5 (fun r e => (hr5 r e).2)
    have rq : ((W.alloc (.cells #[.int .i64 xk, .string xt, .int .u64 xn, .int .i64 xa, .slice xla xll xlc] 25)).putObj l o').rangeAt W.heap.size 0 (⟨xk, xt, xn, xa, xla, xll, xlc⟩ : Hn).cells := by
      intro j v hv
      rw [Nat.zero_add]
      exact cell_kept (by rw [cell_of_row _ W.heap.size j _ _ _ (heap_alloc_new _ _)]; simpa using hv) hg5 (fun r e => (hr5 r e).2)
    have lX5 : Lies ((W.alloc (.cells #[.int .i64 xk, .string xt, .int .u64 xn, .int .i64 xa, .slice xla xll xlc] 25)).putObj l o') A0 R X (⟨xk, xt, xn, xa, xla, xll, xlc⟩ : Hn) := by
      have t1 : Lies (W.alloc (.cells #[.int .i64 xk, .string xt, .int .u64 xn, .int .i64 xa, .slice xla xll xlc] 25)) (Out (fun _ => False)) R X (⟨xk, xt, xn, xa, xla, xll, xlc⟩ : Hn) := (hG.1.keep ka).weak ⟨fun h => (show False from h).elim, fun b _ h => h⟩
      exact (Lies.cel (Cel.putObj _ l _ _ ho hoc) t1).weak (A0_le _)
    have hz1 : Wp.heap.size ≤ W.heap.size := hkW.sz
    have hz5 : ((W.alloc (.cells #[.int .i64 xk, .string xt, .int .u64 xn, .int .i64 xa, .slice xla xll xlc] 25)).putObj l o').heap.size = W.heap.size + 1 := by simp
    have hz0 : w4.heap.size + 1 + 1 ≤ Wp.heap.size := by have := (Array.getElem?_eq_some_iff.1 hI.ok.choose_spec.1).1; have := hI.kp.sz; omega
    have hk5 : Kp w4 ((W.alloc (.cells #[.int .i64 xk, .string xt, .int .u64 xn, .int .i64 xa, .slice xla xll xlc] 25)).putObj l o') := (((hI.kp.trans hkW).trans ka)).grown hg5 (fun k e => by cases e; omega)
    have hI5 := (LeafI.grown (LeafI.grown (hI.keep hkW) (Nat.le_refl _) (World.grownBy_alloc W (.cells #[.int .i64 xk, .string xt, .int .u64 xn, .int .i64 xa, .slice xla xll xlc] 25) none) (fun r e => by cases e)) (Nat.le_refl _) hg5 (fun r e => ⟨by have := (hr5 r e).1; omega, (hr5 r e).2⟩))
    have hf5 : ∀ b, 0 < xll → xla = some ⟨b, 0, none⟩ → W.there b 0 5 → ((W.alloc (.cells #[.int .i64 xk, .string xt, .int .u64 xn, .int .i64 xa, .slice xla xll xlc] 25)).putObj l o').there b 0 5 := fun b _ _ ht => there_put (World.there_alloc ht _) ho hoc
    obtain ⟨W5, hW5⟩ : ∃ W5, (W.alloc (.cells #[.int .i64 xk, .string xt, .int .u64 xn, .int .i64 xa, .slice xla xll xlc] 25)).putObj l o' = W5 := ⟨_, rfl⟩
    have hkf0 : W.heap.size < W5.heap.size := by rw [← hW5, hz5]; omega
    rw [hW5] at hI5 rq lX5 hc5 hk5 hf5
    rw [hW5]
    clear hW5 hg5 hr5 ka ho hz5
    obtain ⟨bv, hokb, hpre⟩ := hI5.ok
    have hkb := hI5.k
    have hlt : pre.length < ys.length := by rw [HNN2.out, HNN.out]; exact hlen
    obtain ⟨y, hy⟩ : ∃ y, ys[pre.length]? = some y := ⟨_, List.getElem?_eq_getElem hlt⟩
    have K35 := HK4.out.trans hk5
    obtain ⟨bA, oA, han, rA⟩ := HTA.out.at (by omega)
    subst han
    have rA5 : W5.rangeAt bA (oA + pre.length * 5) (itH ys pre.length).cells := (((Kp.refl w3).alloc _).trans K35).range (rA pre.length hlt)
    have LA : Lies W5 A0 R y.1.2.1 (itH ys pre.length) := by rw [itH_at hy]; exact (y.2.1.keep ((K24.out.trans hk5))).weak (A0_le _)
    obtain ⟨cB, cU⟩ := CB.out W5 hk5
    have ck := row_cell hkb 0
    simp only [List.getElem?_toArray, List.getElem?_cons_zero] at ck
    have cx := rq 4 _ rfl
    simp only [Nat.zero_add] at cx
    have j1 : (pre.length : Int) < (ys.length : Int) := by omega
    have HP := Lib.hid hpre
    have HG2 := Lib.hid hG.2
    have HY := Lib.hid hy
    have HC5 := Lib.hid hc5
    have HF5 := Lib.hid hf5
    have HK5 := Lib.hid hk5
    have HIP := Lib.hid hI
    have HKWW := Lib.hid hkW
    clear hpre hG hy hc5 hf5 hI hI5 hbb
    have l1 := lt_of_cell cB
    have l2 := lt_of_cell ck
    have l3 := lt_of_cell cx
    simp only at l1 l2 l3
    gi_wp2
    refine regE _ l _ W5 bv (y.1.2.1 = X) bA oA pre.length ys.length cn (w4.heap.size + 1) w4.heap.size w3.heap.size W.heap.size (itH ys pre.length) (⟨xk, xt, xn, xa, xla, xll, xlc⟩ : Hn) (by intro k hk; simp [WE] at hk; simp; omega) rfl hokb rfl ck rfl cB hlt rA5 rfl rq (fun V hV => c_rExactOr (LA.keep hV) (lX5.keep hV)) ?_
    rintro v q V hq hkV
    simp only [WE, List.foldl_cons, List.foldl_nil, Act.put, List.setIfInBounds_toArray, List.set_cons_zero, List.set_cons_succ]
    have hkb5 := (hkV.blk (Array.getElem?_eq_some_iff.1 hkb).1).trans hkb
    have hob5 := (hkV.blk (Array.getElem?_eq_some_iff.1 hokb).1).trans hokb
    obtain ⟨Wr, hWr⟩ : ∃ Wr, V.setCell ⟨w4.heap.size + 1, 0, none⟩ (.bool q) = Wr := ⟨_, rfl⟩
    have soR : ∀ c, c ≠ w4.heap.size + 1 → Wr.heap[c]? = V.heap[c]? := fun c hc => by rw [← hWr]; exact Below.heap_setCell _ _ _ _ hc
    have okR : Wr.heap[w4.heap.size + 1]? = some (.cells #[.bool q] 4 (0, 0)) := by rw [← hWr]; exact row_set hob5
    have hzV : W5.heap.size ≤ V.heap.size := hkV.sz
    have hzR : Wr.heap.size = V.heap.size := by rw [← hWr]; simp
    have kR := (soR w4.heap.size (by omega)).trans hkb5
    have scR : ∀ (p : Addr) (u : Value), p.block ≠ w4.heap.size + 1 → W5.cell? p = some u → Wr.cell? p = some u := fun p u hp hc => (cell_blk (soR p.block hp)).trans (hkV.cellv hc)
    have kkR : KeepsFrom W0.heap.size W5 Wr := (keeps_kp hkV).trans (by rw [← hWr]; exact (KeepsOthers.setCell V _ _).from _)
    have kpR : Kp w4 Wr := by rw [← hWr]; exact (HK5.out.trans hkV).setCell (by show w4.heap.size ≤ w4.heap.size + 1; omega) _
    have thR : ∀ b, 0 < xll → xla = some ⟨b, 0, none⟩ → W.there b 0 5 → Wr.there b 0 5 := fun b h0 ha ht => by
      have h1 := HF5.out b h0 ha ht
      have h2 := there_keep h1 hkV (by obtain ⟨u, hu⟩ := Option.isSome_iff_exists.1 (h1 0 (by omega)).1; exact lt_of_cell hu)
      rw [← hWr]
      exact there_set h2 rfl
    rw [hWr]
    have cxR := scR _ _ (by show W.heap.size ≠ w4.heap.size + 1; omega) cx
    have cBR := scR _ _ (by show w3.heap.size ≠ w4.heap.size + 1; omega) cB
    have cUR := scR _ _ (by show w.heap.size + 1 ≠ w4.heap.size + 1; omega) cU
    have ckR := row_cell kR 0
    simp only [List.getElem?_toArray, List.getElem?_cons_zero] at ckR
    have fkR := frozen_of_row _ _ 0 _ _ kR
    have m1 := lt_of_cell cxR
    have m2 := lt_of_cell cBR
    have m3 := lt_of_cell cUR
    have m4 := lt_of_cell ckR
    simp only at m1 m2 m3 m4
    have HQ := Lib.hid hq
    have HSO := Lib.hid soR
    have HOK := Lib.hid okR
    have HKR := Lib.hid kR
    have HKK := Lib.hid kkR
    have HKP := Lib.hid kpR
    have HTH := Lib.hid thR
    have HKV := Lib.hid hkV
    have HHR := Lib.hid hzR
    clear hWr hq soR okR kR scR kkR kpR thR hkV hkb5 hob5 hkb hokb ck cx cB cU rA rA5 rq lX5 LA K35 l1 l2 l3 hzR
    obtain ⟨kk, hkk⟩ : ∃ kk, wrap64 ((pre.length : Int) + 1) = kk := ⟨_, rfl⟩
    obtain ⟨cc, hcc⟩ : ∃ cc, wrap64 cut = cc := ⟨_, rfl⟩
    have HKKK := Lib.hid (show kk = (pre.length : Int) + 1 by have h9 := HNN2.out; rw [← hkk]; unfold wrap64; omega)
    have d2 : ¬ ((ys.length : Int) < kk) := by have := HKKK.out; omega
    have FIN := Lib.hid (fun (WE : World) (hs : WE.heap.size = Wr.heap.size) (hso : ∀ c, c < Wp.heap.size → c ≠ w4.heap.size → WE.heap[c]? = Wr.heap[c]?) (hke : WE.heap[w4.heap.size]? = some (.cells #[.int .i64 kk] 3 (0, 0))) (hkf : KeepsFrom W0.heap.size Wr WE) (hkp : Kp w4 WE) =>
      (show KeepsFrom W0.heap.size W5 WE ∧ Cef (leafD w4.heap.size) Wp WE ∧ LeafI w4.heap.size w4 (flatN R 0 T) (pre ++ [(d, X, (⟨xk, xt, xn, xa, xla, xll, xlc⟩ : Hn))]) WE from by
        have hzv := HKV.out.sz
        have hzr := HHR.out
        refine ⟨HKK.out.trans hkf, ⟨by omega, fun hn p u hp hc => ?_, fun _ c hx => .inl (.inl (leafD_at hx)), fun _ _ c hx => by rcases leafD_at hx with e | e <;> omega⟩, hkp, ?_, q, ?_, fun hpx => ?_⟩
        · have h1 : p.block ≠ w4.heap.size := fun e => hp (.inl (.inl e))
          have h2 : p.block ≠ w4.heap.size + 1 := fun e => hp (.inl (.inr e))
          have h3 : p.block < Wp.heap.size := lt_of_cell hc
          exact (cell_blk ((hso p.block h3 h1).trans (HSO.out p.block h2))).trans (HKV.out.cellv (HC5.out p u (HKWW.out.cellv hc)))
        · rw [hke, HKKK.out, List.length_append, List.length_singleton]
          rfl
        · exact (hso _ (by omega) (by omega)).trans HOK.out
        · rw [List.map_append, List.map_singleton] at hpx
          obtain ⟨t, ht⟩ := hpx
          have hb : bv = true := HP.out ⟨[CEl.pr (d, X, (⟨xk, xt, xn, xa, xla, xll, xlc⟩ : Hn))] ++ t, by rw [← List.append_assoc]; exact ht⟩
          refine HQ.out hb ?_
          have h1 : (flatN R 0 T)[pre.length]? = some (d, X) := by
            rw [← ht, List.append_assoc, List.getElem?_append_right (by rw [List.length_map]; omega), List.length_map, Nat.sub_self]
            rfl
          rw [← HYS.out, List.getElem?_map, HY.out] at h1
          have h2 : (y.1.1, y.1.2.1) = (d, X) := Option.some.inj h1
          exact (Prod.mk.inj h2).2))
    clear HKK HSO HOK HQ HP HY HC5 HKWW
    have SC := Lib.hid (fun (A : World) (g o : Nat) (u : Value) => (show ∀ c, c ≠ g → (A.setCell ⟨g, o, none⟩ u).heap[c]? = A.heap[c]? from fun c hc => Below.heap_setCell _ _ _ _ hc))
    by_cases h0 : 0 < xll
    · obtain ⟨b, hb, hbS, hth⟩ := HG2.out h0
      simp only at hb
      have th := HTH.out b h0 hb hth
      subst hb
      obtain ⟨⟨t0, f0⟩, ⟨t1, f1⟩, ⟨t2, f2⟩, ⟨t3, f3⟩, ⟨t4, f4⟩⟩ := And.intro (th 0 (by omega)) (And.intro (th 1 (by omega)) (And.intro (th 2 (by omega)) (And.intro (th 3 (by omega)) (th 4 (by omega)))))
      obtain ⟨u0, c0⟩ := Option.isSome_iff_exists.1 t0
      obtain ⟨u1, c1⟩ := Option.isSome_iff_exists.1 t1
      obtain ⟨u2, c2⟩ := Option.isSome_iff_exists.1 t2
      obtain ⟨u3, c3⟩ := Option.isSome_iff_exists.1 t3
      obtain ⟨u4, c4⟩ := Option.isSome_iff_exists.1 t4
      simp only [Nat.zero_add] at c0 c1 c2 c3 c4 f0 f1 f2 f3 f4
      have hg : (0 : Int) < xll := by omega
      have hbW : Wp.heap.size ≤ b := hbS
      have hbz : b ≠ w4.heap.size := by omega
      have hbz' : w4.heap.size ≠ b := by omega
      have hbl := lt_of_cell c0
      simp only at hbl
      have HBZ := Lib.hid hbW
      have bx1 : ¬ (W.heap.size = b) := fun e => by
        have h9 : (World.there W b 0 5) := hth
        have h10 := lt_of_cell (Option.isSome_iff_exists.1 (h9 0 (by omega)).1).choose_spec
        simp only at h10
        omega
      have bx2 : ¬ (w.heap.size + 1 = b) := by omega
      have bx3 : ¬ (w3.heap.size = b) := by omega
      clear t0 t1 t2 t3 t4 th hth hbS hbW
      by_cases hct : cc < kk
      · gi_wp2
        obtain ⟨a1, a2, a3⟩ := FIN.out ((((((Wr.setCell ⟨b, 0, none⟩ (.int .i64 99)).setCell ⟨b, 1, none⟩ (.string ⟨#[]⟩)).setCell ⟨b, 2, none⟩ (.int .u64 0)).setCell ⟨b, 3, none⟩ (.int .i64 0)).setCell ⟨b, 4, none⟩ (.slice none 0 0)).setCell ⟨w4.heap.size, 0, none⟩ (.int .i64 kk)) (by simp) (fun c h1 h2 => (SC.out _ _ _ _ c h2).trans ((SC.out _ _ _ _ c (by have := HBZ.out; omega)).trans ((SC.out _ _ _ _ c (by have := HBZ.out; omega)).trans ((SC.out _ _ _ _ c (by have := HBZ.out; omega)).trans ((SC.out _ _ _ _ c (by have := HBZ.out; omega)).trans ((SC.out _ _ _ _ c (by have := HBZ.out; omega)))))))) (row_set (((SC.out _ _ _ _ w4.heap.size hbz').trans ((SC.out _ _ _ _ w4.heap.size hbz').trans ((SC.out _ _ _ _ w4.heap.size hbz').trans ((SC.out _ _ _ _ w4.heap.size hbz').trans ((SC.out _ _ _ _ w4.heap.size hbz')))))).trans HKR.out)) (KeepsFrom.trans (KeepsFrom.trans (KeepsFrom.trans (KeepsFrom.trans (KeepsFrom.trans ((KeepsOthers.setCell _ _ _).from _) ((KeepsOthers.setCell _ _ _).from _)) ((KeepsOthers.setCell _ _ _).from _)) ((KeepsOthers.setCell _ _ _).from _)) ((KeepsOthers.setCell _ _ _).from _)) ((KeepsOthers.setCell _ _ _).from _)) ((((((HKP.out.setCell (by show w4.heap.size ≤ b; have := HBZ.out; omega) _).setCell (by show w4.heap.size ≤ b; have := HBZ.out; omega) _).setCell (by show w4.heap.size ≤ b; have := HBZ.out; omega) _).setCell (by show w4.heap.size ≤ b; have := HBZ.out; omega) _).setCell (by show w4.heap.size ≤ b; have := HBZ.out; omega) _).setCell (by exact Nat.le_refl _) _)
        rw [hsz] at a1
        exact ⟨a1, rfl, a3⟩
      · gi_wp2
        obtain ⟨a1, a2, a3⟩ := FIN.out ((((((Wr.setCell ⟨b, 0, none⟩ (.int .i64 99)).setCell ⟨b, 1, none⟩ (.string ⟨#[]⟩)).setCell ⟨b, 2, none⟩ (.int .u64 0)).setCell ⟨b, 3, none⟩ (.int .i64 0)).setCell ⟨b, 4, none⟩ (.slice none 0 0)).setCell ⟨w4.heap.size, 0, none⟩ (.int .i64 kk)) (by simp) (fun c h1 h2 => (SC.out _ _ _ _ c h2).trans ((SC.out _ _ _ _ c (by have := HBZ.out; omega)).trans ((SC.out _ _ _ _ c (by have := HBZ.out; omega)).trans ((SC.out _ _ _ _ c (by have := HBZ.out; omega)).trans ((SC.out _ _ _ _ c (by have := HBZ.out; omega)).trans ((SC.out _ _ _ _ c (by have := HBZ.out; omega)))))))) (row_set (((SC.out _ _ _ _ w4.heap.size hbz').trans ((SC.out _ _ _ _ w4.heap.size hbz').trans ((SC.out _ _ _ _ w4.heap.size hbz').trans ((SC.out _ _ _ _ w4.heap.size hbz').trans ((SC.out _ _ _ _ w4.heap.size hbz')))))).trans HKR.out)) (KeepsFrom.trans (KeepsFrom.trans (KeepsFrom.trans (KeepsFrom.trans (KeepsFrom.trans ((KeepsOthers.setCell _ _ _).from _) ((KeepsOthers.setCell _ _ _).from _)) ((KeepsOthers.setCell _ _ _).from _)) ((KeepsOthers.setCell _ _ _).from _)) ((KeepsOthers.setCell _ _ _).from _)) ((KeepsOthers.setCell _ _ _).from _)) ((((((HKP.out.setCell (by show w4.heap.size ≤ b; have := HBZ.out; omega) _).setCell (by show w4.heap.size ≤ b; have := HBZ.out; omega) _).setCell (by show w4.heap.size ≤ b; have := HBZ.out; omega) _).setCell (by show w4.heap.size ≤ b; have := HBZ.out; omega) _).setCell (by show w4.heap.size ≤ b; have := HBZ.out; omega) _).setCell (by exact Nat.le_refl _) _)
        rw [hsz] at a1
        exact ⟨a1, a2, a3⟩
    · obtain rfl : xll = 0 := by omega
      by_cases hct : cc < kk
      · gi_wp2
        obtain ⟨a1, a2, a3⟩ := FIN.out (Wr.setCell ⟨w4.heap.size, 0, none⟩ (.int .i64 kk)) (by simp) (fun c _ h2 => SC.out _ _ _ _ c h2) (row_set HKR.out) ((KeepsOthers.setCell Wr _ _).from _) (HKP.out.setCell (by exact Nat.le_refl _) _)
        rw [hsz] at a1
        exact ⟨a1, rfl, a3⟩
      · gi_wp2
        obtain ⟨a1, a2, a3⟩ := FIN.out (Wr.setCell ⟨w4.heap.size, 0, none⟩ (.int .i64 kk)) (by simp) (fun c _ h2 => SC.out _ _ _ _ c h2) (row_set HKR.out) ((KeepsOthers.setCell Wr _ _).from _) (HKP.out.setCell (by exact Nat.le_refl _) _)
        rw [hsz] at a1
        exact ⟨a1, a2, a3⟩
  case done =>
    rintro Dd xs Wd hD hS hI hK
    obtain ⟨cB, cU⟩ := CB.out Wd hI.kp
    obtain ⟨bv, hokb, hbv⟩ := hI.ok
    obtain rfl : bv = true := hbv (by rw [hS]; exact List.prefix_refl _)
    have ck := row_cell hI.k 0
    have co := row_cell hokb 0
    simp only [List.getElem?_toArray, List.getElem?_cons_zero] at ck co
    obtain ⟨i0, i1, i2, i3, i4, is⟩ := CI.out Wd hI.kp
    simp only at i0 i1 i2 i3 i4
    have hle : xs.length ≤ ys.length := by rw [HNN2.out, HNN.out]; exact Nat.le_of_eq (by rw [← hS, List.length_map])
    have hle2 : (xs.length : Int) ≤ (ys.length : Int) := by omega
    have hyN : ys.length = (flatN R 0 T).length := by rw [← HYS.out, List.length_map]
    have WD := Lib.hid (fun (W : World) (m : Nat) (hm : 4 ≤ m) (hk : Kp w1 W) => (show CallsIn Fence.wide m Try.prog 23 #[(⟨k', tx', n', at', la', ll', lc'⟩ : Hn).val, .int .i64 (ys.length : Nat)] W fun e w' => ∃ (an2 : Option Addr) (cn2 : Nat) (vd2 : Value) (L2 : Nat), e = .returned (.tuple #[.slice an2 L2 cn2, vd2, .bool true]) ∧ L2 = ys.length ∧ Kp W w' from by
      rw [hyN]
      exact (c_walked m hm R T _ W ((HLI.out.weak (A0_le _)).keep hk) (by have h9 := HNN.out; omega)).mono (fun e w' ⟨vn2, vd2, xs2, a1, a2, a3, _, _, a6⟩ => by
        obtain ⟨an2, cn2, rfl⟩ := own_slice a3
        exact ⟨an2, cn2, vd2, xs2.length, a1, by rw [← a2, List.length_map], a6⟩)))
    have HIK := Lib.hid hI.kp
    have HKD := Lib.hid hK
    have HC := Lib.hid (fun W (q : Kp Wd W) => (show W.cell? ⟨w4.heap.size, 0, none⟩ = some (.int .i64 xs.length) ∧ W.cell? ⟨w4.heap.size + 1, 0, none⟩ = some (.bool true) from ⟨q.cellv ck, q.cellv co⟩))
    clear hyN hbv hokb hI hK
    have l1 := lt_of_cell cB
    have l2 := lt_of_cell ck
    have l3 := lt_of_cell co
    simp only at l1 l2 l3
    gi_wp2_with (first | ((try refine ⟨trivial, ?_⟩); gi_at_call 23; refine (WD.out _ (n - 1) (by omega) (K14.out.trans HIK.out)).mono ?_; rintro e w8 ⟨an2, cn2, vd2, L2, rfl, hL2, hk8⟩; have K8 := Lib.hid hk8; obtain ⟨cB8, _⟩ := CB.out w8 (HIK.out.trans hk8); obtain ⟨ck8, co8⟩ := HC.out w8 hk8; obtain ⟨a0, a1, a2, a3, a4, asz⟩ := CI.out w8 (HIK.out.trans hk8); obtain ⟨b0, b1, b2, b3, b4, bs⟩ := CN.out w8 (HIK.out.trans hk8); simp only at a0 a1 a2 a3 a4 b0 b1 b2 b3 b4; have hle8 : ((L2 : Int) == (ys.length : Int)) = true := (by rw [hL2]; simp); clear hL2 hk8 cB cU ck co i0 i1 i2 i3 i4 is) | ((try refine ⟨trivial, ?_⟩); gi_at_call 24; refine ((callsIn_wide (n := n - 1)).2 (c_rExact ((HLI.out.weak (A0_le _)).keep (K14.out.trans (HIK.out.trans K8.out))) (HL.out.keep (KW4.out.trans (HIK.out.trans K8.out))))).mono ?_; rintro e w9 ⟨rfl, hk9⟩; have K9 := Lib.hid hk9; clear hk9))
    have hKE : w9.heap[Dd]? = some (.deferred (some [])) := ((K8.out.trans K9.out).blk (Array.getElem?_eq_some_iff.1 HKD.out).1).trans HKD.out
    refine ⟨by simp, .inl ⟨_, _, rfl, run_takeDeferred hKE, ?_⟩⟩
    refine ⟨.bool true, by simp [results, Try.results9, go_sem], rfl, ?_⟩
    exact Below.trans (KW4.out.trans (HIK.out.trans (K8.out.trans K9.out))) (belowK_b (w := w) (Nat.le_refl _) _ Dd _ _ (by omega) hKE rfl rfl)
  case stop =>
    rintro Dd c pre Wd hD hSp ⟨rfl, hI⟩ hK
    obtain ⟨cB, cU⟩ := CB.out Wd hI.kp
    obtain ⟨bv, hokb, hbv⟩ := hI.ok
    obtain rfl : bv = true := hbv hSp
    have ck := row_cell hI.k 0
    have co := row_cell hokb 0
    simp only [List.getElem?_toArray, List.getElem?_cons_zero] at ck co
    obtain ⟨i0, i1, i2, i3, i4, is⟩ := CI.out Wd hI.kp
    simp only at i0 i1 i2 i3 i4
    have hle : pre.length ≤ ys.length := by rw [HNN2.out, HNN.out]; exact by have h9 := hSp.length_le; rw [List.length_map] at h9; exact h9
    have hle2 : (pre.length : Int) ≤ (ys.length : Int) := by omega
    have hyN : ys.length = (flatN R 0 T).length := by rw [← HYS.out, List.length_map]
    have WD := Lib.hid (fun (W : World) (m : Nat) (hm : 4 ≤ m) (hk : Kp w1 W) => (show CallsIn Fence.wide m Try.prog 23 #[(⟨k', tx', n', at', la', ll', lc'⟩ : Hn).val, .int .i64 (ys.length : Nat)] W fun e w' => ∃ (an2 : Option Addr) (cn2 : Nat) (vd2 : Value) (L2 : Nat), e = .returned (.tuple #[.slice an2 L2 cn2, vd2, .bool true]) ∧ L2 = ys.length ∧ Kp W w' from by
      rw [hyN]
      exact (c_walked m hm R T _ W ((HLI.out.weak (A0_le _)).keep hk) (by have h9 := HNN.out; omega)).mono (fun e w' ⟨vn2, vd2, xs2, a1, a2, a3, _, _, a6⟩ => by
        obtain ⟨an2, cn2, rfl⟩ := own_slice a3
        exact ⟨an2, cn2, vd2, xs2.length, a1, by rw [← a2, List.length_map], a6⟩)))
    have HIK := Lib.hid hI.kp
    have HKD := Lib.hid hK
    have HC := Lib.hid (fun W (q : Kp Wd W) => (show W.cell? ⟨w4.heap.size, 0, none⟩ = some (.int .i64 pre.length) ∧ W.cell? ⟨w4.heap.size + 1, 0, none⟩ = some (.bool true) from ⟨q.cellv ck, q.cellv co⟩))
    clear hyN hbv hokb hI hK
    have l1 := lt_of_cell cB
    have l2 := lt_of_cell ck
    have l3 := lt_of_cell co
    simp only at l1 l2 l3
    gi_wp2_with (first | ((try refine ⟨trivial, ?_⟩); gi_at_call 23; refine (WD.out _ (n - 1) (by omega) (K14.out.trans HIK.out)).mono ?_; rintro e w8 ⟨an2, cn2, vd2, L2, rfl, hL2, hk8⟩; have K8 := Lib.hid hk8; obtain ⟨cB8, _⟩ := CB.out w8 (HIK.out.trans hk8); obtain ⟨ck8, co8⟩ := HC.out w8 hk8; obtain ⟨a0, a1, a2, a3, a4, asz⟩ := CI.out w8 (HIK.out.trans hk8); obtain ⟨b0, b1, b2, b3, b4, bs⟩ := CN.out w8 (HIK.out.trans hk8); simp only at a0 a1 a2 a3 a4 b0 b1 b2 b3 b4; have hle8 : ((L2 : Int) == (ys.length : Int)) = true := (by rw [hL2]; simp); clear hL2 hk8 cB cU ck co i0 i1 i2 i3 i4 is) | ((try refine ⟨trivial, ?_⟩); gi_at_call 24; refine ((callsIn_wide (n := n - 1)).2 (c_rExact ((HLI.out.weak (A0_le _)).keep (K14.out.trans (HIK.out.trans K8.out))) (HL.out.keep (KW4.out.trans (HIK.out.trans K8.out))))).mono ?_; rintro e w9 ⟨rfl, hk9⟩; have K9 := Lib.hid hk9; clear hk9))
    have hKE : w9.heap[Dd]? = some (.deferred (some [])) := ((K8.out.trans K9.out).blk (Array.getElem?_eq_some_iff.1 HKD.out).1).trans HKD.out
    refine ⟨by simp, .inl ⟨_, _, rfl, run_takeDeferred hKE, ?_⟩⟩
    refine ⟨.bool true, by simp [results, Try.results9, go_sem], rfl, ?_⟩
    exact Below.trans (KW4.out.trans (HIK.out.trans (K8.out.trans K9.out))) (belowK_b (w := w) (Nat.le_refl _) _ Dd _ _ (by omega) hKE rfl rfl)
theorem law_TreeLeaves (R : Nat) (T : Nd) (h : Hn) (w : World) (cut : Int) (hl : Lies w A0 R T h) (hN : sizeN R T ≤ 1048576) : Calls Try.prog 9 #[h.val, .int .u8 cut] w fun e w' => e = .returned (.bool true) ∧ Kp w w' :=
  callsIn_wide.1 (law_in 6 (by omega) R T h cut w hl hN)
end Go.Proofs.Ytgamenimbkafjaa
