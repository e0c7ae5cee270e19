/- Walk of package tree: the iterator gives a copy of each node, in order; the body may do with a copy what it will. Condition: the node lies in memory, and the loop's body keeps what it does not own and was not made for it. -/
import Derived.Test.YtgamenimbkafjaaWd
import Derived.Test.YtgamenimbkafjaaWq
import Derived.Test.YtgamenimbkafjaaWk
import Derived.Laws.EntriesVeiled
namespace Go.Proofs.Ytgamenimbkafjaa
open Go.RowKit Go.Shelf
set_option linter.unusedVariables false
set_option linter.unusedSimpArgs false
attribute [local go_sem] Oper.semAt_some

set_option maxRecDepth 100000 in
set_option maxHeartbeats 8000000 in
theorem walk_seqH (n : Nat) (hn : 3 ≤ n) (R kb : Nat) (w : World) (D : Dyn) (hn0 : D.n0 ≤ w.heap.size) (hwf : D.WF w) (T : Nd) (h : Hn) (hl : Lies w (Out (D.At w)) R T h) (hN : w.rangeAt kb 0 h.cells) :
    SeqH Fence.wide n Try.prog 37 #[.pointer (some ⟨kb, 0, none⟩)] CEl.enc (Cef D) (fun x W0 W1 => Lies W1 (Since W0.heap.size) R x.2.1 x.2.2 ∧ Free W0.heap.size W1 x.2.2) (fun xs => xs.map CEl.pr = flatN R 0 T) (fun pre => pre.map CEl.pr <+: flatN R 0 T) (flatN R 0 T).length w := by
  intro l J Jx W hW hJ hJx hY hj
  have hKW : Kp w W := hW
  have hn1 : 1 ≤ n := by omega
  have hro : Fence.wide.round = none := rfl
  obtain ⟨k, tx, nn, at_, la, ll, lc⟩ := h
  obtain ⟨c0, c1, c2, c3, c4⟩ := node_at (hKW.range hN)
  have HL := Lib.hid hl
  have HN := Lib.hid hN
  have HWF := Lib.hid hwf
  have HJ := Lib.hid hJ
  have HJX := Lib.hid hJx
  have HY := Lib.hid hY
  have HKW := Lib.hid hKW
  have hbl := lt_of_cell c0
  clear hl hN hwf hJ hJx hY hW hKW
  refine callsIn_of_wp_marks Try.func37 rfl trivial ?_ hro
  simp only [Try.ntmps37, List.size_toArray, List.length_cons, List.length_nil, Nat.reduceAdd, Nat.reduceSub, Array.replicate_succ, Array.replicate_zero, List.push_toArray, List.append_toArray, List.nil_append, List.cons_append]
  gi_wp2_with (first | ((try refine ⟨trivial, ?_⟩); gi_at_call 35; refine (each_in Fence.wide (n - 1) trivial hro ⟨k, tx, nn, at_, la, ll, lc⟩ _).mono ?_; rintro e w' ⟨rfl, rfl⟩))
  obtain ⟨W0, hW0⟩ : ∃ W0, (W.alloc (.cells #[.func (.yield l) #[] #[]] 52)).alloc (.cells #[.int .i64 k, .string tx, .int .u64 nn, .int .i64 at_, .slice la ll lc] 25) = W0 := ⟨_, rfl⟩
  have hB0 : Kp W W0 := by rw [← hW0]; exact ((Kp.refl W).alloc _).alloc _
  have hsz : W0.heap.size = W.heap.size + 1 + 1 := by rw [← hW0]; simp
  have hyb : W0.cell? ⟨W.heap.size, 0, none⟩ = some (.func (.yield l) #[] #[]) := by
    rw [← hW0]
    exact ((Kp.refl _).alloc _).cellv (by rw [cell_of_row _ W.heap.size 0 _ _ _ (heap_alloc_new W _)]; rfl)
  have hrN : W0.rangeAt (W.heap.size + 1) 0 (⟨k, tx, nn, at_, la, ll, lc⟩ : Hn).cells := by
    rw [← hW0]
    intro j v hv
    rw [Nat.zero_add, cell_of_row _ (W.heap.size + 1) j _ _ _ (heap_at (by simp))]
    simpa using hv
  rw [hW0]
  have hKB : Kp w W0 := HKW.out.trans hB0
  have hn0' : D.n0 ≤ W0.heap.size := Nat.le_trans hn0 hKB.sz
  have hnW : D.n0 ≤ W.heap.size := Nat.le_trans hn0 HKW.out.sz
  have hwf0 : D.WF W0 := (Kp.cef (D := D) hKB).wf hn0 HWF.out
  have hwfW : D.WF W := (Kp.cef (D := D) HKW.out).wf hn0 HWF.out
  have HL0 := Lib.hid (Lies.cefAt (D := D) hn0 (Kp.cef hKB) HL.out)
  have NYB : ¬ D.At W0 W.heap.size := fun hc => by have := hwfW _ (hB0.at hnW hc); omega
  have HNYB := Lib.hid NYB
  have HYB := Lib.hid hyb
  clear hW0 NYB hyb
  refine wpIn_rangeFunc_ownH hro hn1 (gf := 43) (lb := #[.pointer (some ⟨W.heap.size + 1, 0, none⟩)]) rfl trivial (enters_of Try.func43 (by kernel_rfl) rfl)
    (each_stopsD Fence.wide rfl (n - 1) trivial trivial hro R (W.heap.size + 1) W0 W0 D hn0' (fun _ => True) T ⟨k, tx, nn, at_, la, ll, lc⟩ HL0.out (fun _ _ => trivial) (Cef.refl _ _) hwf0 hrN) (fun h k => h.trans k) (cefK_b hn0') (Below.refl _ _) (fun _ => rfl)
    (fun pre W' => (∃ xs : List CEl, xs.map CEl.pr = pre.map Item.pr ∧ J xs W') ∧ Cef D W0 W')
    (fun c pre W' => c = Code.ret ∧ ∃ xs : List CEl, xs.map CEl.pr = pre.map Item.pr ∧ Jx xs W')
    (fun pre A B' row hs hg hr => ⟨hs.1.imp fun xs h => ⟨h.1, HJ.out xs A B' row h.2 hg (fun r e => ⟨by have := (hr r e).1; omega, (hr r e).2⟩)⟩, hs.2.trans (cef_grown hg (fun r e => ⟨by have := (hr r e).1; omega, (hr r e).2⟩))⟩)
    (fun c pre A B' row hs hg hr => ⟨hs.1, hs.2.imp fun xs h => ⟨h.1, HJX.out xs A B' row h.2 hg (fun r e => ⟨by have := (hr r e).1; omega, (hr r e).2⟩)⟩⟩)
    ⟨⟨[], rfl, own_abide HJ.out hj hB0⟩, Cef.refl _ _⟩
    (fun x a' W' => ∃ q, a' = ⟨#[.func (.yield l) #[] #[], .pointer (some ⟨kb, 0, none⟩), .pointer (some ⟨W.heap.size, 0, none⟩), .int .i64 x.1.1, .pointer (some ⟨q, 0, none⟩), .agg #[.int .i64 k, .string tx, .int .u64 nn, .int .i64 at_, .slice la ll lc], .func (.func 43) #[] #[.pointer (some ⟨W.heap.size + 1, 0, none⟩)], .int .i64 x.1.1, x.1.2.2.val, undef, undef, undef, undef, undef, undef], []⟩ ∧ W0.heap.size ≤ q ∧ W'.rangeAt q 0 x.1.2.2.cells)
    ?ax ?assign ?body ?done ?stop
  case ax =>
    rintro x a' s A B row ⟨q, h1, h2, h3⟩ hg hr
    exact ⟨q, h1, h2, fun j v hv => cell_kept (h3 j v hv) hg (fun r e => (hr r e).2)⟩
  case assign =>
    rintro l2 pre x W2 K ⟨⟨xs, hxs, hjx⟩, hC⟩ hK
    gi_wp2
    refine hK _ _ (KeepsFrom.of_grownBy (World.grownBy_alloc W2 _ none) (by simp)) (((Kp.refl W2).alloc _).cef) ⟨⟨xs, hxs, own_abide HJ.out hjx ((Kp.refl W2).alloc _)⟩, hC.trans (((Kp.refl W2).alloc _).cef)⟩ ⟨W2.heap.size, ?_, hC.size, fun j v hv => ?_⟩
    · rfl
    · rw [Nat.zero_add, cell_of_row _ _ _ _ _ _ (heap_alloc_new _ _)]; simpa using hv
  case body =>
    rintro l2 pre x a' W2 hlw ⟨rl, hrl⟩ ⟨⟨xs, hxs, hjx⟩, hC⟩ ⟨q, rfl, hq, hqr⟩ hlen
    have hlx : xs.length = pre.length := by have := congrArg List.length hxs; simpa using this
    have hnW2 : D.n0 ≤ W2.heap.size := Nat.le_trans hn0' hC.size
    have hwf2 : D.WF W2 := hC.wf hn0' hwf0
    have hyb2 := hC.cell hn0' _ _ HNYB.out HYB.out
    have lX : Lies W2 A0 R x.1.2.1 x.1.2.2 := (Lies.cef (Cef.refl D W0) hn0' hC x.2.1).weak (A0_le _)
    have hY2 : ∀ (h' : Hn) (W1 : World), Kp W2 W1 → Lies W1 (Since W2.heap.size) R x.1.2.1 h' → Free W2.heap.size W1 h' → YieldAt (Fence.wide.inRound l2) (n - 1) Try.prog l #[.int .i64 x.1.1, h'.val] W1 fun e W3 => ∃ b, e = .returned (.bool b) ∧
        ∃ h' : Hn, (b = true ∧ J (xs ++ [(x.1.1, x.1.2.1, h')]) W3 ∧ Cef D W2 W3 ∧ KeepsFrom W0.heap.size W2 W3) ∨ (b = false ∧ Jx (xs ++ [(x.1.1, x.1.2.1, h')]) W3 ∧ KeepsFrom W0.heap.size W2 W3) := by
      intro h' W1 hk1 hl1 hf1
      have := HY.out xs (x.1.1, x.1.2.1, h') W2 W1 hjx hk1 ⟨hl1, hf1⟩ (by omega)
      obtain ⟨fn, tm, asg, bo, hy, hR⟩ := this
      refine ⟨fn, tm, asg, bo, hy, RoundIn.mono (show RoundIn (Fence.wide.inRound l2) (n - 1) _ _ _ _ _ _ _ _ from hR) ?_⟩
      rintro e W3 (⟨rfl, h1, h2, h3⟩ | ⟨rfl, h1, h3⟩)
      · exact ⟨true, rfl, h', .inl ⟨rfl, h1, h2, keeps_up h3 (by omega)⟩⟩
      · exact ⟨false, rfl, h', .inr ⟨rfl, h1, keeps_up h3 (by omega)⟩⟩
    have hpx : ∀ h' : Hn, (xs ++ [((x.1.1, x.1.2.1, h') : CEl)]).map CEl.pr = (pre ++ [x]).map Item.pr := fun h' => by simp [hxs, CEl.pr, Item.pr]
    have HPX := Lib.hid hpx
    have HCC := Lib.hid hC
    refine wpIn_block (wpIn_seq (regZ (n - 1 - 1) l2 l _ W2 x.1.1 R x.1.2.1 x.1.2.2 W.heap.size q (by intro k hk; simp [WY] at hk; simp; omega) rfl hyb2 rfl rfl hqr lX _ (n - 1) hY2 ?_))
    clear hY2 hpx hC hsz
    rintro v b w3 e14 ⟨h', ⟨rfl, h1, h2, h3⟩ | ⟨rfl, h1, h3⟩⟩
    · simp only [WY, List.foldl_cons, List.foldl_nil, e14, Bool.not_true]
      gi_wp2
      exact ⟨h3, h2, ⟨_, HPX.out h', h1⟩, HCC.out.trans h2⟩
    · simp only [WY, List.foldl_cons, List.foldl_nil, e14, Bool.not_false]
      gi_wp2
      exact ⟨h3, rfl, _, HPX.out h', h1⟩
  case done =>
    rintro Dd ys W2 hD hys ⟨⟨xs, hxs, hjx⟩, hC⟩ hK
    gi_wp2
    refine ⟨by simp, .inl ⟨_, _, rfl, run_takeDeferred hK, ?_⟩⟩
    exact ⟨_, by simp [results, Try.results37, go_sem]; try rfl, ⟨_, rfl⟩, .inl ⟨xs, hxs.trans hys, HJ.out.putObj _ hjx (by omega) hK rfl⟩⟩
  case stop =>
    rintro Dd c pre W2 hD hp ⟨rfl, xs, hxs, hjx⟩ hK
    gi_wp2
    refine ⟨by simp, .inl ⟨_, _, rfl, run_takeDeferred hK, ?_⟩⟩
    exact ⟨_, by simp [results, Try.results37, go_sem]; try rfl, ⟨_, rfl⟩, .inr ⟨xs, by rw [hxs]; exact hp, HJX.out.putObj _ hjx (by omega) hK rfl⟩⟩
end Go.Proofs.Ytgamenimbkafjaa
