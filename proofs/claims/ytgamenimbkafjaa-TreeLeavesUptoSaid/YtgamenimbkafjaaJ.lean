/- each of package tree gives all nodes of a node with their depths. Condition: the node lies in memory, and the loop's body keeps the cells that it does not own. -/
import Derived.Test.YtgamenimbkafjaaI
import Derived.Laws.EntriesVeiled
namespace Go.Proofs.Ytgamenimbkafjaa
open Go.RowKit Go.Shelf
set_option linter.unusedVariables false
set_option linter.unusedSimpArgs false
attribute [local go_sem] Oper.semAt_some

theorem each_in (F : Fence) (n : Nat) (hf : F.fn 35) (hro : F.round = none) (h : Hn) (w : World) :
    CallsIn F n Try.prog 35 #[h.val] w fun e w' => e = .returned (.func (.func 43) #[] #[.pointer (some ⟨w.heap.size, 0, none⟩)]) ∧ w' = w.alloc (.cells #[.int .i64 h.k, .string h.tx, .int .u64 h.n, .int .i64 h.at_, .slice h.la h.ll h.lc] 25) := by
  obtain ⟨k, tx, nn, at_, la, ll, lc⟩ := h
  refine callsIn_of_wp Try.func35 rfl hf ?_ hro
  simp only [Try.ntmps35, List.size_toArray, List.length_cons, List.length_nil, Nat.reduceAdd, Nat.reduceSub, Array.replicate_succ, Array.replicate_zero, List.push_toArray, List.append_toArray, List.nil_append, List.cons_append]
  gi_wp2
  go_ret
  exact ⟨rfl, rfl⟩
set_option maxRecDepth 100000 in
set_option maxHeartbeats 4000000 in
theorem each1_in (F : Fence) (hd : F.depth = none) (n : Nat) (hf : F.fn 43) (hf2 : F.fn 44) (hro : F.round = none) (l R B bN : Nat) (w0 : World) (C : Nat → Prop) (M : Int × Nd → Prop) (hC : ∀ b, C b → b < w0.heap.size) (T : Nd) (h : Hn) (hl : Lies w0 (Out C) R T h) (hM : ∀ y, y ∈ flatN R 0 T → M y)
    (J Jx : List (Item w0 C R M) → World → Prop) (hJ : AbidesFrom B J)
    (hY : ∀ m pre (x : Item w0 C R M) W, J pre W → pre.length < (flatN R 0 T).length → YieldAt F m Try.prog l x.enc W fun e W' =>
      (e = .returned (.bool true) ∧ J (pre ++ [x]) W' ∧ Cel C W W') ∨ (e = .returned (.bool false) ∧ Jx (pre ++ [x]) W'))
    (W : World) (hW : Cel C w0 W) (hN : W.rangeAt bN 0 h.cells) (hj : J [] W) :
    CallsIn F n Try.prog 43 #[.func (.yield l) #[] #[], .pointer (some ⟨bN, 0, none⟩)] W fun e W' => (∃ v, e = .returned v) ∧
      ((∃ ys : List (Item w0 C R M), ys.map Item.pr = flatN R 0 T ∧ J ys W') ∨ (∃ pre : List (Item w0 C R M), pre.map Item.pr <+: flatN R 0 T ∧ Jx pre W')) := by
  have hdd : ∀ k : Nat, (F.depth.isSome = true → 1 ≤ k) := fun k h => by rw [hd] at h; cases h
  obtain ⟨k, tx, nn, at_, la, ll, lc⟩ := h
  obtain ⟨n0, n1, n2, n3, n4⟩ := node_at hN
  have hbl := lt_of_cell n0
  have hsz := hW.size
  have hnb : ¬ C W.heap.size := fun hc => by have := hC _ hc; omega
  have hnb2 : ¬ C (W.heap.size + 1) := fun hc => by have := hC _ hc; omega
  have HN := Lib.hid hN
  have HW := Lib.hid hW
  have WI := Lib.hid (fun W1 n => walk_in F hd hf2 hro l (flatN R 0 T).length R B w0 C M hC J Jx hJ hY W.heap.size (W.heap.size + 1) hnb hnb2 R T ⟨k, tx, nn, at_, la, ll, lc⟩ 0 n [] W1 (Nat.le_refl _) hl hM)
  have HJ := Lib.hid hJ
  clear hN hW hJ hY hl
  refine callsIn_of_wp Try.func43 rfl hf ?_ hro
  simp only [Try.ntmps43, List.size_toArray, List.length_cons, List.length_nil, Nat.reduceAdd, Nat.reduceSub, Array.replicate_succ, Array.replicate_zero, List.push_toArray, List.append_toArray, List.nil_append, List.cons_append]
  gi_wp2
  refine (WI.out _ _ (HW.out.trans (Kp.cel ?_)) ?_ ?_ (abide HJ.out hj ?_) (by simp)).mono ?_
  · repeat (first | exact Kp.refl _ | refine Kp.alloc ?_ _ | refine Kp.setCell ?_ (by simp) _)
  · simp [go_sem]
  · simp [go_sem]
  · repeat (first | exact Kp.refl _ | refine Kp.alloc ?_ _ | refine Kp.setCell ?_ (by simp) _)
  rintro e W2 (⟨rfl, ys, h1, h2, h3⟩ | ⟨rfl, ys, h1, h2⟩)
  · gi_wp2
    go_end0
    exact ⟨⟨_, rfl⟩, .inl ⟨ys, h1, by simpa using h2⟩⟩
  · gi_wp2
    go_end0
    exact ⟨⟨_, rfl⟩, .inr ⟨ys, h1, by simpa using h2⟩⟩
theorem each_stops (F : Fence) (hd : F.depth = none) (n : Nat) (hf : F.fn 43) (hf2 : F.fn 44) (hro : F.round = none) (R bN : Nat) (w0 w : World) (C : Nat → Prop) (M : Int × Nd → Prop) (hC : ∀ b, C b → b < w0.heap.size) (T : Nd) (h : Hn) (hl : Lies w0 (Out C) R T h) (hM : ∀ y, y ∈ flatN R 0 T → M y)
    (hw : Cel C w0 w) (hN : w.rangeAt bN 0 h.cells) :
    SeqStopsK F n Try.prog 43 #[.pointer (some ⟨bN, 0, none⟩)] (Item.enc (w0 := w0) (C := C) (R := R) (M := M)) (Cel C) (fun ys => ys.map Item.pr = flatN R 0 T) (fun pre => pre.map Item.pr <+: flatN R 0 T) (flatN R 0 T).length w := fun l J Jx W hW hJ hJx hY hj =>
  each1_in F hd n hf hf2 hro l R W.heap.size bN w0 C M hC T h hl hM J Jx hJ (fun m pre x W1 hj hl => YieldAt.anyDepth hd m (hY pre x W1 hj hl)) W (hw.trans (Kp.cel hW)) (Kp.range hW hN) hj
theorem celK_b {C : Nat → Prop} {w : World} (W : World) (l : Nat) (o o' : Obj) (hl : w.heap.size ≤ l) (h : W.heap[l]? = some o) (hc : o.isCells = false) (_ : o.isWalk = false) : Cel C W (W.putObj l o') := Cel.putObj W l o o' h hc
end Go.Proofs.Ytgamenimbkafjaa
