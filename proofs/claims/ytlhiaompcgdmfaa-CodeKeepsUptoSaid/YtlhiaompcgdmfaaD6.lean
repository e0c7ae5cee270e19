/- What the program's reader does with a case of a select. Condition: the reader lies so. -/
import Derived.Test.YtlhiaompcgdmfaaD5
namespace Go.Proofs.Ytlhiaompcgdmfaa
open Go.RowKit
set_option linter.unusedVariables false
set_option linter.unusedSimpArgs false
/-- What is left to be read is g, from st on: all comes to what F from st0 on comes to. -/
def SeqI {β : Type} (F : Pr β) (l : List UInt8) (st0 : St) (g : Pr β) (st : St) : Prop := stepS g l st = stepS F l st0 ∧ ∀ z, Got g l st z → Got F l st0 z
theorem SeqI.start {β : Type} (F : Pr β) (l : List UInt8) (st : St) : SeqI F l st F st := ⟨rfl, fun _ h => h⟩
theorem SeqI.next {α β : Type} {F : Pr β} {l : List UInt8} {st0 st : St} {f : Pr α} {g : α → Pr β} {x : α} (h : SeqI F l st0 (pThen f g) st) (hx : Got f l st x) : SeqI F l st0 (g x) (stepS f l st) :=
  ⟨(seq_st hx).trans h.1, fun z hz => h.2 z (seq_got hx hz)⟩
theorem SeqI.fin {β : Type} {F : Pr β} {l : List UInt8} {st0 st : St} {z : β} (h : SeqI F l st0 (pPure z) st) : Got F l st0 z ∧ st = stepS F l st0 := ⟨h.2 z (got_pure z), by rw [← h.1, pure_st]⟩
/-- The reader's box, and behind it the box that is filled. -/
structure BX (T : TypeId) (w0 : World) (rb ra ro : Nat) (cs : Array Value) (w : World) : Prop where
  rd : w.heap[w0.heap.size]? = some (.cells #[.func (.func 46) #[] #[.pointer (some ⟨rb, 0, none⟩), .pointer (some ⟨ra, 0, none⟩), .pointer (some ⟨ro, 0, none⟩)], .func (.func 48) #[] #[.pointer (some ⟨ro, 0, none⟩)]] 95 (0, 0))
  row : w.heap[w0.heap.size + 1]? = some (.cells cs T (0, 0))
  ws : WS ra ro w0 w
  lt : ra < w0.heap.size ∧ ro < w0.heap.size
theorem BX.start (T : TypeId) (w : World) (rb ra ro : Nat) (cs : Array Value) (h : ra < w.heap.size ∧ ro < w.heap.size) : BX T w rb ra ro cs ((w.alloc (.cells #[.func (.func 46) #[] #[.pointer (some ⟨rb, 0, none⟩), .pointer (some ⟨ra, 0, none⟩), .pointer (some ⟨ro, 0, none⟩)], .func (.func 48) #[] #[.pointer (some ⟨ro, 0, none⟩)]] 95)).alloc (.cells cs T)) := by
  refine ⟨row_keep ((Kp.refl _).alloc _) (heap_alloc_new w (.cells #[.func (.func 46) #[] #[.pointer (some ⟨rb, 0, none⟩), .pointer (some ⟨ra, 0, none⟩), .pointer (some ⟨ro, 0, none⟩)], .func (.func 48) #[] #[.pointer (some ⟨ro, 0, none⟩)]] 95)), ?_, (((Kp.refl w).alloc _).alloc _).ws, h⟩
  have := heap_alloc_new (w.alloc (.cells #[.func (.func 46) #[] #[.pointer (some ⟨rb, 0, none⟩), .pointer (some ⟨ra, 0, none⟩), .pointer (some ⟨ro, 0, none⟩)], .func (.func 48) #[] #[.pointer (some ⟨ro, 0, none⟩)]] 95)) (.cells cs T)
  simpa using this
theorem BX.on {T : TypeId} {w0 w w' : World} {rb ra ro : Nat} {cs : Array Value} (h : BX T w0 rb ra ro cs w) (hw : WS ra ro w w') : BX T w0 rb ra ro cs w' := by
  obtain ⟨h1, h2⟩ := h.lt
  exact ⟨hw.heap h.rd (by omega) (by omega), hw.heap h.row (by omega) (by omega), h.ws.trans hw, h.lt⟩
theorem BX.set {T : TypeId} {w0 w : World} {rb ra ro : Nat} {cs : Array Value} (h : BX T w0 rb ra ro cs w) (j : Nat) (v : Value) : BX T w0 rb ra ro (cs.setIfInBounds j v) (w.setCell ⟨w0.heap.size + 1, j, none⟩ v) :=
  ⟨(Below.heap_setCell _ _ _ _ (by simp)).trans h.rd, heap_setCell_same w _ j _ _ v h.row, h.ws.set _ _ _ (by omega), h.lt⟩
theorem natb1 (N : Nat) : ((N : Int) == 1) = (N == 1) := by
  by_cases h : N = 1
  · subst h; rfl
  · have h2 : ¬ (N : Int) = 1 := by omega
    rw [beq_eq_false_iff_ne.2 h2, beq_eq_false_iff_ne.2 h]
/-- What is in the box comes back. -/
theorem ret_row {fn : Func} {R : Ending → World → Prop} {a : Act} {w : World} {r g : Nat} {T : TypeId} {cs : Array Value} {i : TypeInfo} {fs} (hfn : fn.results = #[ResultVar.cell r T]) (ha : a.tmps.getD r undef = .pointer (some ⟨g, 0, none⟩)) (hg : w.heap[g]? = some (.cells cs T (0, 0)))
    (hu : Try.prog.underlying T = some (.struct fs)) (hi : Try.prog.info? T = some i) (hs : i.size = cs.size) (hd : a.defers = []) (hR : R (.returned (.agg cs)) w) : bodyPost Try.prog fn R .ret a w :=
  bodyPost_ret_by (results_cell_row hfn _ w g T cs (0, 0) _ ha hg hu (by rfl) (by rw [hi]; simp [hs])) hd hR
set_option maxHeartbeats 1600000 in
set_option maxRecDepth 100000 in
theorem c_sel (n rb ra ro : Nat) (l : List UInt8) (st : St) (w : World) (h : RD w n rb ra ro l st) :
    Calls Try.prog 78 #[.agg #[.func (.func 46) #[] #[.pointer (some ⟨rb, 0, none⟩), .pointer (some ⟨ra, 0, none⟩), .pointer (some ⟨ro, 0, none⟩)], .func (.func 48) #[] #[.pointer (some ⟨ro, 0, none⟩)]]] w (RdP pCase (fun w' x v => v = .agg #[.bool x.s, .int .i64 x.c, .int .i64 x.v, .int .i64 x.t] ∧ i64 x.c ∧ i64 x.v ∧ i64 x.t) n rb ra ro l st w) := by
  obtain ⟨l1, l2, l3⟩ := h.lt
  obtain ⟨n1, n2, n3, n4, n5⟩ := h.ne
  have HC : Hid (w.heap.size + 1 ≠ rb ∧ w.heap.size + 1 ≠ ra ∧ w.heap.size + 1 ≠ ro ∧ n ≤ w.heap.size + 1) := Lib.hid ⟨by omega, by omega, by omega, by omega⟩
  have HX := Lib.hid (BX.start 90 w rb ra ro #[.bool false, .int .i64 0, .int .i64 0, .int .i64 0] ⟨l1, l2⟩)
  have HR := Lib.hid (h.keep (((Kp.refl w).alloc (.cells #[.func (.func 46) #[] #[.pointer (some ⟨rb, 0, none⟩), .pointer (some ⟨ra, 0, none⟩), .pointer (some ⟨ro, 0, none⟩)], .func (.func 48) #[] #[.pointer (some ⟨ro, 0, none⟩)]] 95)).alloc (.cells #[.bool false, .int .i64 0, .int .i64 0, .int .i64 0] 90)))
  have HS := Lib.hid (SeqI.start pCase l st)
  have HY := Lib.hid (show (1 : Int) = ((1 : Nat) : Int) from rfl)
  obtain ⟨c0, c1⟩ := row2 HX.out.rd
  obtain ⟨q0, q1, q2, q3⟩ := row4 HX.out.row
  have f0 := frozen_of_row _ _ 0 _ _ HX.out.row
  have f1 := frozen_of_row _ _ 1 _ _ HX.out.row
  have f2 := frozen_of_row _ _ 2 _ _ HX.out.row
  have f3 := frozen_of_row _ _ 3 _ _ HX.out.row
  clear h
  rw [pCase] at HS
  go_enter Try.func78, Try.ntmps78
  go_wp2_with (first | (go_at_call 46; (with_reducible refine (c_rd1I 1 n rb ra ro _ l st _ HR.out (by decide) HY.out).mono ?_); rintro e w1 ⟨N, rfl, hN, hg, hr, hw⟩; have HX := Lib.hid (HX.out.on hw); have HR := Lib.hid hr; have HS := Lib.hid (HS.out.next hg); obtain ⟨c0, c1⟩ := row2 HX.out.rd; obtain ⟨q0, q1, q2, q3⟩ := row4 HX.out.row; have f0 := frozen_of_row _ _ 0 _ _ HX.out.row; have f1 := frozen_of_row _ _ 1 _ _ HX.out.row; have f2 := frozen_of_row _ _ 2 _ _ HX.out.row; have f3 := frozen_of_row _ _ 3 _ _ HX.out.row; clear hg hr hw) | (go_at_call 72; (with_reducible refine (int_0 n rb ra ro _ _ _ (HR.out.set _ _ _ HC.out)).mono ?_); rintro e w1 ⟨x, _, rfl, ⟨rfl, hx0, hx1⟩, hg, hr, hw⟩; have HX := Lib.hid ((HX.out.set _ _).on hw); have HR := Lib.hid hr; have HS := Lib.hid (HS.out.next hg); obtain ⟨c0, c1⟩ := row2 HX.out.rd; obtain ⟨q0, q1, q2, q3⟩ := row4 HX.out.row; have f0 := frozen_of_row _ _ 0 _ _ HX.out.row; have f1 := frozen_of_row _ _ 1 _ _ HX.out.row; have f2 := frozen_of_row _ _ 2 _ _ HX.out.row; have f3 := frozen_of_row _ _ 3 _ _ HX.out.row; clear hg hr hw) | (go_at_call 72; (with_reducible refine (int_m n rb ra ro _ _ _ (HR.out.set _ _ _ HC.out)).mono ?_); rintro e w1 ⟨x, _, rfl, ⟨rfl, hx0, hx1⟩, hg, hr, hw⟩; have HX := Lib.hid ((HX.out.set _ _).on hw); have HR := Lib.hid hr; have HS := Lib.hid (HS.out.next hg); obtain ⟨c0, c1⟩ := row2 HX.out.rd; obtain ⟨q0, q1, q2, q3⟩ := row4 HX.out.row; have f0 := frozen_of_row _ _ 0 _ _ HX.out.row; have f1 := frozen_of_row _ _ 1 _ _ HX.out.row; have f2 := frozen_of_row _ _ 2 _ _ HX.out.row; have f3 := frozen_of_row _ _ 3 _ _ HX.out.row; clear hg hr hw))
  obtain ⟨iC, hC, hC0, hC1, hC2⟩ := info_parts infoC
  refine ret_row (by rfl) (by rfl) (((((HX.out.set _ _).set _ _).set _ _).set _ _).set _ _).row Try.underlying90 hC (by rw [hC1]; rfl) (by rfl) ⟨_, _, rfl, ⟨?_, ?_, ?_, ?_⟩, HS.out.fin.1, ?_, (((((HX.out.set _ _).set _ _).set _ _).set _ _).set _ _).ws⟩
  · rw [← natb1]; rfl
  · unfold i64; dsimp only; omega
  · unfold i64; dsimp only; omega
  · unfold i64; dsimp only; omega
  · rw [show stepS pCase l st = _ from HS.out.fin.2.symm]
    exact ((((HR.out.set _ _ _ HC.out).set _ _ _ HC.out).set _ _ _ HC.out).set _ _ _ HC.out).set _ _ _ HC.out
end Go.Proofs.Ytlhiaompcgdmfaa
