/- Size of package tree: how many nodes are given. Condition: the node lies in memory. -/
import Derived.Test.YtgamenimbkafjaaJ
namespace Go.Proofs.Ytgamenimbkafjaa
open Go.RowKit Go.Shelf
set_option linter.unusedVariables false
set_option linter.unusedSimpArgs false
attribute [local go_sem] Oper.semAt_some

theorem wrap_next (n : Nat) : wrap64 (wrap64 (n : Int) + 1) = wrap64 ((n + 1 : Nat) : Int) := by unfold wrap64; omega
theorem out_of {w w' : World} {r : Nat} {T : Nd} {h : Hn} {C : Nat → Prop} (hl : Lies w A0 r T h) (hk : Kp w w') (hC : ∀ b, C b → w.heap.size ≤ b) : Lies w' (Out C) r T h :=
  ((hl.below (Nat.le_refl _)).weak (show Sel.le (Out C) ⟨A0.fresh, fun b => A0.S b ∧ b < w.heap.size⟩ from ⟨fun h => h, fun b hb hc => by have := hC b hc; have := hb.2; omega⟩)).keep hk
theorem cel_set {C : Nat → Prop} (W : World) (p : Addr) (v : Value) (hp : C p.block) : Cel C W (W.setCell p v) :=
  ⟨fun q u hq hc => (World.cell?_setCell_other W p q v (fun e => hq (by rw [← e] at *; exact hp))).trans hc, by simp⟩
set_option maxRecDepth 100000 in
set_option maxHeartbeats 2000000 in
theorem size_in (F : Fence) (hd : F.depth = none) (n : Nat) (h1 : F.fn 16) (h2 : F.fn 35) (h3 : F.fn 43) (h4 : F.fn 44) (hro : F.round = none) (hn : 3 ≤ n) (R : Nat) (T : Nd) (h : Hn) (w : World) (hl : Lies w A0 R T h) :
    CallsIn F n Try.prog 16 #[h.val] w fun e w' => e = .returned (.int .i64 (wrap64 (flatN R 0 T).length)) ∧ Kp w w' := by
  have hn1 : 1 ≤ n := by omega
  obtain ⟨k, tx, nn, at_, la, ll, lc⟩ := h
  have HL := Lib.hid hl
  clear hl
  refine callsIn_of_wp_marks Try.func16 rfl h1 ?_ hro
  simp only [Try.ntmps16, List.size_toArray, List.length_cons, List.length_nil, Nat.reduceAdd, Nat.reduceSub, Array.replicate_succ, Array.replicate_zero, List.push_toArray, List.append_toArray, List.nil_append, List.cons_append]
  gi_wp2_with (gi_at_call 35; refine (each_in F (n - 1) h2 hro ⟨k, tx, nn, at_, la, ll, lc⟩ _).mono ?_; rintro e w' ⟨rfl, rfl⟩)
  have hB0 : Kp w (((w.alloc (.cells #[.int .i64 k, .string tx, .int .u64 nn, .int .i64 at_, .slice la ll lc] 25)).alloc (.cells #[.int .i64 0] 3)).alloc (.cells #[.int .i64 k, .string tx, .int .u64 nn, .int .i64 at_, .slice la ll lc] 25)) := (((Kp.refl w).alloc _).alloc _).alloc _
  obtain ⟨W0, hW0⟩ : ∃ W0, (((w.alloc (.cells #[.int .i64 k, .string tx, .int .u64 nn, .int .i64 at_, .slice la ll lc] 25)).alloc (.cells #[.int .i64 0] 3)).alloc (.cells #[.int .i64 k, .string tx, .int .u64 nn, .int .i64 at_, .slice la ll lc] 25)) = W0 := ⟨_, rfl⟩
  have hsz : W0.heap.size = w.heap.size + 1 + 1 + 1 := by rw [← hW0]; simp
  have hc0 : W0.cell? ⟨w.heap.size + 1, 0, none⟩ = some (.int .i64 (wrap64 ((0 : Nat) : Int))) ∧ W0.frozen? ⟨w.heap.size + 1, 0, none⟩ = false := by rw [← hW0, show wrap64 ((0 : Nat) : Int) = 0 by unfold wrap64; omega]; constructor <;> simp [go_sem]
  have hrN : W0.rangeAt (w.heap.size + 1 + 1) 0 (⟨k, tx, nn, at_, la, ll, lc⟩ : Hn).cells := by
    rw [← hW0]
    intro j v hv
    rw [Nat.zero_add, cell_of_row _ (w.heap.size + 1 + 1) j _ _ _ (by have := heap_alloc_new ((w.alloc (.cells #[.int .i64 k, .string tx, .int .u64 nn, .int .i64 at_, .slice la ll lc] 25)).alloc (.cells #[.int .i64 0] 3)) (.cells #[.int .i64 k, .string tx, .int .u64 nn, .int .i64 at_, .slice la ll lc] 25); simpa using this)]
    simpa using hv
  rw [hW0] at hB0 ⊢
  have hl0 : Lies W0 (Out (fun b => b = w.heap.size + 1)) R T ⟨k, tx, nn, at_, la, ll, lc⟩ := out_of HL.out hB0 (fun b hb => by omega)
  refine wpIn_rangeFunc_ownF hro hn1 (gf := 43) (lb := #[.pointer (some ⟨w.heap.size + 1 + 1, 0, none⟩)]) rfl h3 (enters_of Try.func43 (by kernel_rfl) rfl)
    (each_stops F hd (n - 1) h3 h4 hro R (w.heap.size + 1 + 1) W0 W0 (fun b => b = w.heap.size + 1) (fun _ => True) (fun b hb => by omega) T ⟨k, tx, nn, at_, la, ll, lc⟩ hl0 (fun _ _ => trivial) (Cel.refl _ _) hrN) (fun h k => h.trans k) celK_b (Below.refl _ _) (fun _ => rfl)
    (fun pre W => (W.cell? ⟨w.heap.size + 1, 0, none⟩ = some (.int .i64 (wrap64 pre.length)) ∧ W.frozen? ⟨w.heap.size + 1, 0, none⟩ = false) ∧ Below w.heap.size w W)
    (fun _ _ _ => False)
    (OwnFrom.and (Own.from (fun s A B row hs hg hr => ⟨cell_kept hs.1 hg hr, (frozen_kept hs.1 hg hr).trans hs.2⟩) _) (ownFrom_below (Nat.le_refl _) (by omega)))
    (fun _ _ _ _ _ hs _ _ => hs)
    ⟨hc0, hB0⟩
    (fun x => { tmps := #[(⟨k, tx, nn, at_, la, ll, lc⟩ : Hn).val, .pointer (some ⟨w.heap.size, 0, none⟩), .int .i64 0, .pointer (some ⟨w.heap.size + 1, 0, none⟩), .agg #[.int .i64 k, .string tx, .int .u64 nn, .int .i64 at_, .slice la ll lc], .func (.func 43) #[] #[.pointer (some ⟨w.heap.size + 1 + 1, 0, none⟩)], .int .i64 x.1.1, x.1.2.2.val, undef, undef, undef], defers := [] }) ?assign ?body ?done ?stop
  case assign =>
    intro l x W K hK
    gi_wp2
    simpa [Item.enc] using hK
  case body =>
    rintro l pre x W ⟨⟨hc, hf⟩, hB⟩ _
    gi_wp2
    exact ⟨KeepsOthers.setCell _ _ _, cel_set W ⟨w.heap.size + 1, 0, none⟩ _ rfl, ⟨by rw [List.length_append, List.length_singleton, ← wrap_next]; exact World.cell?_setCell_same' _ _ _ (by rw [hc]; rfl), by rw [World.frozen?_setCell]; exact hf⟩, hB.setCell (p := ⟨w.heap.size + 1, 0, none⟩) (by simp) _⟩
  case done =>
    rintro D ys W hD hys ⟨⟨hc, _⟩, hB⟩ hK
    have hlen : ys.length = (flatN R 0 T).length := by rw [← hys, List.length_map]
    rw [hlen] at hc
    gi_wp2
    refine ⟨by simp, .inl ⟨_, _, rfl, run_takeDeferred hK, ?_⟩⟩
    exact ⟨_, results_tmp rfl _ _ _, rfl, hB.trans (belowK_b (w := w) (Nat.le_refl _) W D _ _ (by omega) hK rfl rfl)⟩
  case stop =>
    rintro D c pre W _ _ h _
    exact h.elim
theorem c_Size (R : Nat) (T : Nd) (h : Hn) (w : World) (hl : Lies w A0 R T h) : Calls Try.prog 16 #[h.val] w fun e w' => e = .returned (.int .i64 (wrap64 (flatN R 0 T).length)) ∧ Kp w w' :=
  callsIn_wide.1 (size_in Fence.wide rfl 3 trivial trivial trivial trivial rfl (by omega) R T h w hl)
end Go.Proofs.Ytgamenimbkafjaa
