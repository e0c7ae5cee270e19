/- A module with a further shape behind: a struct of all that were there. Plain: no program is walked here. -/
import Derived.Test.YtkkcoaecidjecaaE9
namespace Go.Proofs.Ytkkcoaecidjecaa
set_option linter.unusedVariables false
set_option linter.unusedSimpArgs false
/-- The first k numbers. -/
def upTo (k : Nat) : List Int := (List.range k).map fun i : Nat => (i : Int)
theorem upTo_next (k : Nat) : upTo (k + 1) = upTo k ++ [(k : Int)] := by simp [upTo, List.range_succ]
theorem upTo_len (k : Nat) : (upTo k).length = k := by simp [upTo]
def wider (m : Mo) : Mo := ⟨m.ty ++ [⟨8, upTo m.ty.length, 0⟩], m.fu⟩
theorem widths_append : ∀ (a b seen : List Sh) (c : List Int), widths (a ++ b) seen c = match widths a seen c with
    | none => none
    | some d => widths b (seen ++ a) d
  | [], b, seen, c => by simp [widths]
  | s :: a, b, seen, c => by
    rw [List.cons_append, widths, widths]
    split
    · rw [widths_append a b]; simp
    · rfl
theorem areB_mono {l : List Int} {n n' most : Int} (h : areB l n most = true) (hn : n ≤ n') : areB l n' most = true := by
  rw [areB_iff] at h ⊢
  exact ⟨h.1, fun t ht => by have := h.2 t ht; omega⟩
theorem fuB_mono {f : Fu} {n n' : Int} (h : fuB n f = true) (hn : n ≤ n') : fuB n' f = true := by
  unfold fuB at h ⊢
  simp only [Bool.and_eq_true] at h ⊢
  refine ⟨areB_mono h.1 hn, areB_mono h.2.1 hn, h.2.2.1, h.2.2.2.1, ?_⟩
  have := h.2.2.2.2
  simp [resB] at this ⊢
  omega
theorem fusB_mono {l : List Fu} {n n' : Int} (h : fusB l n = true) (hn : n ≤ n') : fusB l n' = true := by
  unfold fusB at h ⊢
  simp only [Bool.and_eq_true, List.all_eq_true] at h ⊢
  exact ⟨h.1, fun f hf => fuB_mono (h.2.1 f hf) hn, h.2.2⟩
theorem meas_parts {m : Mo} {c : List Int} (h : measureP m = some c) : m.ty.length ≤ 256 ∧ widthsL m.ty = some c ∧ fusB m.fu m.ty.length = true := by
  unfold measureP shapesP at h
  by_cases hl : m.ty.length ≤ 256
  · rw [if_pos hl] at h
    cases hw : widthsL m.ty with
    | none => rw [hw] at h; cases h
    | some d =>
      rw [hw] at h
      simp only at h
      by_cases hf : fusB m.fu m.ty.length = true
      · rw [if_pos hf] at h; cases h; exact ⟨hl, rfl, hf⟩
      · rw [if_neg hf] at h; cases h
  · rw [if_neg hl] at h; cases h
theorem cells_len : ∀ (l seen : List Sh) (c d : List Int), widths l seen c = some d → d.length = c.length + l.length
  | [], seen, c, d, h => by cases h; simp
  | s :: l, seen, c, d, h => by
    rw [widths] at h
    split at h
    · have := cells_len l _ _ d h
      simp at this; simp; omega
    · cases h
theorem wider_meas {m : Mo} {c : List Int} (h : measureP m = some c) (hn : m.ty.length ≤ 16) : measureP (wider m) = if sumC c (upTo m.ty.length) ≤ 64 then some (c ++ [sumC c (upTo m.ty.length)]) else none := by
  obtain ⟨h1, h2, h3⟩ := meas_parts h
  have hok : okSh m.ty c ⟨8, upTo m.ty.length, 0⟩ = decide (sumC c (upTo m.ty.length) ≤ 64) := by
    have ha : areB (upTo m.ty.length) m.ty.length 16 = true := by
      rw [areB_iff, upTo_len]
      refine ⟨by omega, fun t ht => ?_⟩
      simp [upTo] at ht
      obtain ⟨i, hi, rfl⟩ := ht
      omega
    unfold okSh formB
    rw [ha]
    simp [kindB, cellsB]
  have hw : widthsL (wider m).ty = if sumC c (upTo m.ty.length) ≤ 64 then some (c ++ [sumC c (upTo m.ty.length)]) else none := by
    unfold widthsL wider
    rw [widths_append]
    unfold widthsL at h2
    rw [h2]
    simp only [List.nil_append, widths, hok, decide_eq_true_eq]
    simp [cellsB]
  have hf : fusB m.fu (wider m).ty.length = true := fusB_mono h3 (by simp [wider]; omega)
  unfold measureP shapesP
  rw [if_pos (by simp [wider]; omega), hw]
  split
  · rename_i d hd
    rw [show (wider m).fu = m.fu from rfl, if_pos hf, ← hd]
  · rename_i hd
    rw [hd]
theorem wider_check {m : Mo} {c : List Int} (h : measureP m = some c) (hn : m.ty.length ≤ 16) : checkE (wider m) = if sumC c (upTo m.ty.length) ≤ 64 then 0 else 1 := by
  unfold checkE
  rw [wider_meas h hn]
  split <;> rfl
theorem wider_cells {m : Mo} {c : List Int} (h : measureP m = some c) (hn : m.ty.length ≤ 16) (hs : sumC c (upTo m.ty.length) ≤ 64) : cellsP (wider m) c.length = (sumC c (upTo m.ty.length), 0) := by
  unfold cellsP
  rw [wider_meas h hn, if_pos hs]
  have hp : plB (c.length : Int) ((c ++ [sumC c (upTo m.ty.length)]).length) = true := by simp [plB]; omega
  simp only [hp, if_true]
  simp [getI]
end Go.Proofs.Ytkkcoaecidjecaa
