/- Depth of package tree: the greatest depth that is given. Condition: the node lies in memory. -/
import Derived.Test.YtgamenimbkafjaaK
import Derived.Test.YtgamenimbkafjaaC1
namespace Go.Proofs.Ytgamenimbkafjaa
open Go.RowKit Go.Shelf
set_option linter.unusedVariables false
set_option linter.unusedSimpArgs false
attribute [local go_sem] Oper.semAt_some

/-- The greatest of the depths, and of what was there before. -/
def maxD (l : List (Int × Nd)) : Int := l.foldl (fun a y => if a < y.1 then y.1 else a) 0
theorem maxD_snoc (l : List (Int × Nd)) (y : Int × Nd) : maxD (l ++ [y]) = if maxD l < y.1 then y.1 else maxD l := by
  unfold maxD
  rw [List.foldl_append]
  rfl
set_option maxRecDepth 100000 in
set_option maxHeartbeats 2000000 in
theorem depth_in (n : Nat) (hn : 3 ≤ n) (R : Nat) (T : Nd) (h : Hn) (w : World) (hl : Lies w A0 R T h) :
    CallsIn Fence.wide n Try.prog 18 #[h.val] w fun e w' => e = .returned (.int .i64 (maxD (flatN R 0 T))) ∧ Kp w w' := by
  have hn1 : 1 ≤ n := by omega
  have hro : Fence.wide.round = none := rfl
  obtain ⟨k, tx, nn, at_, la, ll, lc⟩ := h
  have HL := Lib.hid hl
  clear hl
  refine callsIn_of_wp_marks Try.func18 rfl trivial ?_ hro
  simp only [Try.ntmps18, List.size_toArray, List.length_cons, List.length_nil, Nat.reduceAdd, Nat.reduceSub, Array.replicate_succ, Array.replicate_zero, List.push_toArray, List.append_toArray, List.nil_append, List.cons_append]
  gi_wp2_with ((try refine ⟨trivial, ?_⟩); gi_at_call 35; refine (each_in Fence.wide (n - 1) trivial hro ⟨k, tx, nn, at_, la, ll, lc⟩ _).mono ?_; rintro e w' ⟨rfl, rfl⟩)
  have hB0 : Kp w (((w.alloc (.cells #[.int .i64 k, .string tx, .int .u64 nn, .int .i64 at_, .slice la ll lc] 25)).alloc (.cells #[.int .i64 0] 3)).alloc (.cells #[.int .i64 k, .string tx, .int .u64 nn, .int .i64 at_, .slice la ll lc] 25)) := (((Kp.refl w).alloc _).alloc _).alloc _
  obtain ⟨W0, hW0⟩ : ∃ W0, (((w.alloc (.cells #[.int .i64 k, .string tx, .int .u64 nn, .int .i64 at_, .slice la ll lc] 25)).alloc (.cells #[.int .i64 0] 3)).alloc (.cells #[.int .i64 k, .string tx, .int .u64 nn, .int .i64 at_, .slice la ll lc] 25)) = W0 := ⟨_, rfl⟩
  have hsz : W0.heap.size = w.heap.size + 1 + 1 + 1 := by rw [← hW0]; simp
  have hc0 : W0.cell? ⟨w.heap.size + 1, 0, none⟩ = some (.int .i64 (maxD (([] : List (Item W0 (fun b => b = w.heap.size + 1) R (fun _ => True))).map Item.pr))) ∧ W0.frozen? ⟨w.heap.size + 1, 0, none⟩ = false := by rw [← hW0]; constructor <;> simp [go_sem, maxD]
  have hrN : W0.rangeAt (w.heap.size + 1 + 1) 0 (⟨k, tx, nn, at_, la, ll, lc⟩ : Hn).cells := by
    rw [← hW0]
    intro j v hv
    rw [Nat.zero_add, cell_of_row _ (w.heap.size + 1 + 1) j _ _ _ (by have := heap_alloc_new ((w.alloc (.cells #[.int .i64 k, .string tx, .int .u64 nn, .int .i64 at_, .slice la ll lc] 25)).alloc (.cells #[.int .i64 0] 3)) (.cells #[.int .i64 k, .string tx, .int .u64 nn, .int .i64 at_, .slice la ll lc] 25); simpa using this)]
    simpa using hv
  rw [hW0] at hB0 ⊢
  have hl0 : Lies W0 (Out (fun b => b = w.heap.size + 1)) R T ⟨k, tx, nn, at_, la, ll, lc⟩ := out_of HL.out hB0 (fun b hb => by omega)
  refine wpIn_rangeFunc_ownF hro hn1 (gf := 43) (lb := #[.pointer (some ⟨w.heap.size + 1 + 1, 0, none⟩)]) rfl trivial (enters_of Try.func43 (by kernel_rfl) rfl)
    (each_stops Fence.wide rfl (n - 1) trivial trivial hro R (w.heap.size + 1 + 1) W0 W0 (fun b => b = w.heap.size + 1) (fun _ => True) (fun b hb => by omega) T ⟨k, tx, nn, at_, la, ll, lc⟩ hl0 (fun _ _ => trivial) (Cel.refl _ _) hrN) (fun h k => h.trans k) celK_b (Below.refl _ _) (fun _ => rfl)
    (fun pre W => (W.cell? ⟨w.heap.size + 1, 0, none⟩ = some (.int .i64 (maxD (pre.map Item.pr))) ∧ W.frozen? ⟨w.heap.size + 1, 0, none⟩ = false) ∧ Below w.heap.size w W)
    (fun _ _ _ => False)
    (OwnFrom.and (Own.from (fun s A B row hs hg hr => ⟨cell_kept hs.1 hg hr, (frozen_kept hs.1 hg hr).trans hs.2⟩) _) (ownFrom_below (Nat.le_refl _) (by omega)))
    (fun _ _ _ _ _ hs _ _ => hs)
    ⟨hc0, hB0⟩
    (fun x => { tmps := #[(⟨k, tx, nn, at_, la, ll, lc⟩ : Hn).val, .pointer (some ⟨w.heap.size, 0, none⟩), .int .i64 0, .pointer (some ⟨w.heap.size + 1, 0, none⟩), .int .i64 x.1.1, .agg #[.int .i64 k, .string tx, .int .u64 nn, .int .i64 at_, .slice la ll lc], .func (.func 43) #[] #[.pointer (some ⟨w.heap.size + 1 + 1, 0, none⟩)], .int .i64 x.1.1, x.1.2.2.val, undef, undef, undef, undef], defers := [] }) ?assign ?body ?done ?stop
  case assign =>
    intro l x W K hK
    gi_wp2
    simpa [Item.enc] using hK
  case body =>
    rintro l pre x W ⟨⟨hc, hf⟩, hB⟩ _
    have hm : ∀ a : Int, a = maxD ((pre ++ [x]).map Item.pr) → ((W.setCell ⟨w.heap.size + 1, 0, none⟩ (.int .i64 a)).cell? ⟨w.heap.size + 1, 0, none⟩ = some (.int .i64 (maxD ((pre ++ [x]).map Item.pr))) ∧ (W.setCell ⟨w.heap.size + 1, 0, none⟩ (.int .i64 a)).frozen? ⟨w.heap.size + 1, 0, none⟩ = false) ∧ Below w.heap.size w (W.setCell ⟨w.heap.size + 1, 0, none⟩ (.int .i64 a)) := by
      rintro a rfl
      exact ⟨⟨World.cell?_setCell_same' _ _ _ (by rw [hc]; rfl), by rw [World.frozen?_setCell]; exact hf⟩, hB.setCell (p := ⟨w.heap.size + 1, 0, none⟩) (by simp) _⟩
    have HM := Lib.hid hm
    have hx : maxD ((pre ++ [x]).map Item.pr) = if maxD (pre.map Item.pr) < x.1.1 then x.1.1 else maxD (pre.map Item.pr) := by
      rw [List.map_append, List.map_cons, List.map_nil, maxD_snoc]
      rfl
    have HX := Lib.hid hx
    clear hm hx
    gi_wp2
    all_goals exact ⟨KeepsOthers.setCell _ _ _, cel_set W ⟨w.heap.size + 1, 0, none⟩ _ rfl, HM.out _ (by rw [HX.out]; split <;> omega)⟩
  case done =>
    rintro D ys W hD hys ⟨⟨hc, _⟩, hB⟩ hK
    rw [hys] at hc
    gi_wp2
    refine ⟨by simp, .inl ⟨_, _, rfl, run_takeDeferred hK, ?_⟩⟩
    exact ⟨_, results_tmp rfl _ _ _, rfl, hB.trans (belowK_b (w := w) (Nat.le_refl _) W D _ _ (by omega) hK rfl rfl)⟩
  case stop =>
    rintro D c pre W _ _ h _
    exact h.elim
theorem c_Depth (R : Nat) (T : Nd) (h : Hn) (w : World) (hl : Lies w A0 R T h) : Calls Try.prog 18 #[h.val] w fun e w' => e = .returned (.int .i64 (maxD (flatN R 0 T))) ∧ Kp w w' :=
  callsIn_wide.1 (depth_in 3 (by omega) R T h w hl)
end Go.Proofs.Ytgamenimbkafjaa
