/- What the laws ask of collections, allocations and of what is reached, plain. No condition; no program is walked here. -/
import Derived.Test.YtkaeigklhdpifaaM0
namespace Go.Proofs.Ytkaeigklhdpifaa
set_option linter.unusedVariables false
set_option linter.unusedSimpArgs false
theorem knownR_iff {S : Hs} {roots : List Int} : knownR S roots = true ↔ ∀ r ∈ roots, r = 0 ∨ hasN S r = true := by
  unfold knownR
  rw [List.all_eq_true]
  constructor
  · intro h r hr
    simpa using h r hr
  · intro h r hr
    simpa using h r hr
theorem knownR_col {S : Hs} {roots : List Int} (h : knownR S roots = true) : knownR (col S roots) roots = true := by
  rw [knownR_iff] at *
  intro r hr
  rcases h r hr with e | e
  · exact .inl e
  · exact .inr (col_has.2 (.root hr e))
theorem knownR_append {S : Hs} {a b : List Int} : knownR S (a ++ b) = (knownR S a && knownR S b) := by unfold knownR; rw [List.all_append]
theorem col_len_le (S : Hs) (roots : List Int) : (col S roots).length ≤ S.length := List.length_filter_le _ _
theorem rl_len (S : Hs) (roots : List Int) : (rl S roots).length = (col S roots).length := by simp [rl]
theorem colP_known {S : Hs} {roots : List Int} (h : knownR S roots = true) : colP S roots = (col S roots, (S.length : Int) - (col S roots).length, 0) := by unfold colP; rw [if_pos h]
theorem colP_unknown {S : Hs} {roots : List Int} (h : knownR S roots = false) : colP S roots = (S, 0, 15) := by unfold colP; rw [if_neg (by rw [h]; decide)]
theorem colP_twice {S : Hs} {roots : List Int} (h : knownR S roots = true) : colP (col S roots) roots = (col S roots, 0, 0) := by
  rw [colP_known (knownR_col h), col_col]; simp
theorem reachP_known {S : Hs} {roots : List Int} (h : knownR S roots = true) : reachP S roots = (rl S roots, 0) := by unfold reachP; rw [if_pos h]
theorem reachP_unknown {S : Hs} {roots : List Int} (h : knownR S roots = false) : reachP S roots = ([], 15) := by unfold reachP; rw [if_neg (by rw [h]; decide)]
/-! ### allocations -/
theorem made_mem {bud n : Nat} {S : Hs} {roots : List Int} {o : Ob} (h : o ∈ col S roots) : o ∈ made bud S n roots := by
  unfold made
  split
  · exact (col_mem.1 h).1
  · exact h
theorem alloc_mem {bud : Nat} {S : Hs} {refs : List Bool} {roots : List Int} {o : Ob} (h : o ∈ col S roots) : o ∈ (allocP bud S refs roots).1 := by
  unfold allocP
  split
  · exact (col_mem.1 h).1
  · split
    · exact (col_mem.1 h).1
    · split
      · exact ins_mem.2 (.inr (made_mem h))
      · exact made_mem h
theorem alloc_name {bud : Nat} {S : Hs} (ok : Ok S bud) {refs : List Bool} {roots : List Int} {o : Ob} (h : o ∈ col S roots) : (allocP bud S refs roots).2.1 ≠ o.nm := by
  have hp := (ok.pos o (col_mem.1 h).1).1
  unfold allocP
  split
  · simp; omega
  · split
    · simp; omega
    · split
      · have okm := ok.made refs.length roots
        exact fun e => hasN_false.1 (free_not okm.up (fun o ho => (okm.pos o ho).1)) o (made_mem h) e.symm
      · simp; omega
theorem col_used (S : Hs) (roots : List Int) : used (col S roots) ≤ used S := used_filter _ _
theorem alloc_fits {bud : Nat} {S : Hs} {refs : List Bool} {roots : List Int} (hl : refs.length ≤ 262146) (hk : knownR S roots = true) :
    (used (col S roots) + 1 + refs.length ≤ bud ∧ (allocP bud S refs roots).2.2 = 0) ∨ (¬ used (col S roots) + 1 + refs.length ≤ bud ∧ (allocP bud S refs roots).2.2 = 20) := by
  have hu := col_used S roots
  unfold allocP
  rw [if_neg (by omega), if_neg (by rw [hk]; decide)]
  by_cases h1 : used S + 1 + refs.length ≤ bud
  · have hm : made bud S refs.length roots = S := by unfold made; rw [if_pos h1]
    rw [hm, if_pos h1]
    exact .inl ⟨by omega, rfl⟩
  · have hm : made bud S refs.length roots = col S roots := by unfold made; rw [if_neg h1]
    rw [hm]
    by_cases h2 : used (col S roots) + 1 + refs.length ≤ bud
    · rw [if_pos h2]; exact .inl ⟨h2, rfl⟩
    · rw [if_neg h2]; exact .inr ⟨h2, rfl⟩
theorem alloc_refused {bud : Nat} {S : Hs} {refs : List Bool} {roots : List Int} (h : 262146 < refs.length ∨ knownR S roots = false) : (allocP bud S refs roots).2.2 = 15 ∨ (allocP bud S refs roots).2.2 = 2 := by
  unfold allocP
  by_cases h1 : 262146 < refs.length
  · rw [if_pos h1]; exact .inr rfl
  · rw [if_neg h1, if_pos (h.resolve_left h1)]; exact .inl rfl
/-! ### all names as roots -/
theorem known_all (S : Hs) : knownR S (S.map (·.nm)) = true := by
  rw [knownR_iff]
  intro r hr
  obtain ⟨o, ho, rfl⟩ := List.mem_map.1 hr
  exact .inr (hasN_mem ho)
theorem col_all (S : Hs) : col S (S.map (·.nm)) = S := by
  show S.filter _ = _
  rw [List.filter_eq_self]
  intro o ho
  exact rc_iff.2 (.root (List.mem_map.2 ⟨o, ho, rfl⟩) (hasN_mem ho))
theorem allocP_all {bud : Nat} {S : Hs} {refs : List Bool} (hl : refs.length ≤ 262146) : allocP bud S refs (S.map (·.nm)) = if used S + 1 + refs.length ≤ bud then (ins S refs, (pre S 0 : Int) + 1, 0) else (S, 0, 20) := by
  have hm : made bud S refs.length (S.map (·.nm)) = S := by unfold made; rw [col_all]; split <;> rfl
  unfold allocP
  rw [if_neg (by omega), if_neg (by rw [known_all]; decide), hm]
theorem cell_new {bud : Nat} {S : Hs} (ok : Ok S bud) {refs : List Bool} (hf : used S + 1 + refs.length ≤ bud) {i : Nat} {r : Bool} (hr : refs[i]? = some r) : cellP (ins S refs) ((pre S 0 : Int) + 1) (i : Int) = (0, r, 0) := by
  have h1 : getN (ins S refs) ((pre S 0 : Int) + 1) = some (newOb (pre S 0) refs) := (ok.ins refs hf).get (o := newOb (pre S 0) refs) (ins_mem.2 (.inl rfl))
  have h2 : (newOb (pre S 0) refs).cs[i]? = some (0, r) := by simp [newOb, hr]
  unfold cellP
  rw [h1]
  simp [h2]
theorem known_ins (S : Hs) (refs : List Bool) : knownR (ins S refs) (S.map (·.nm)) = true := by
  rw [knownR_iff]
  intro r hr
  obtain ⟨o, ho, rfl⟩ := List.mem_map.1 hr
  exact .inr (hasN_mem (ins_mem.2 (.inr ho)))
theorem reached_old {bud : Nat} {S : Hs} (ok : Ok S bud) {refs : List Bool} {k : Int} (h : Rch (ins S refs) (S.map (·.nm)) k) : hasN S k = true := by
  induction h with
  | root h1 h2 =>
    obtain ⟨o, ho, rfl⟩ := List.mem_map.1 h1
    exact hasN_mem ho
  | step h1 h2 h3 h4 ih =>
    rename_i o v
    have ho : o ∈ S := by
      rcases ins_mem.1 h1 with rfl | h5
      · have hn : hasN S ((pre S 0 : Nat) + 1 : Int) = false := free_not ok.up (fun o ho => (ok.pos o ho).1)
        have ih' : hasN S ((pre S 0 : Nat) + 1 : Int) = true := ih
        rw [hn] at ih'; cases ih'
      · exact h5
    rcases ok.ref o ho _ h3 rfl with h6 | h6
    · rw [ins_has] at h4
      simp only [Bool.or_eq_true] at h4
      rcases h4 with h4 | h4
      · exact h4
      · have : v = 0 := h6
        subst this
        simp at h4
        omega
    · exact h6
theorem new_unreached {bud : Nat} {S : Hs} (ok : Ok S bud) {refs : List Bool} : ¬ Rch (ins S refs) (S.map (·.nm)) ((pre S 0 : Int) + 1) := fun h => by
  have h1 := reached_old ok h
  have h2 : hasN S ((pre S 0 : Nat) + 1 : Int) = false := free_not ok.up (fun o ho => (ok.pos o ho).1)
  rw [h2] at h1; cases h1
/-! ### what is reached -/
theorem known_rl (S : Hs) (a : List Int) : knownR S (rl S a) = true := by
  rw [knownR_iff]
  intro r hr
  exact .inr (rl_mem.1 hr).has
theorem rl_rl (S : Hs) (a : List Int) : rl S (rl S a) = rl S a := by
  unfold rl
  congr 1
  unfold col
  apply List.filter_congr
  intro o ho
  rw [Bool.eq_iff_iff, rc_iff, rc_iff]
  constructor
  · intro h
    exact Rch.mono (fun r hr => .inl (rl_mem.1 hr)) h
  · intro h
    exact .root (rl_mem.2 h) h.has
theorem rch_or {S : Hs} {a b : List Int} {k : Int} (h : Rch S (a ++ b) k) : Rch S a k ∨ Rch S b k := by
  induction h with
  | root h1 h2 =>
    rcases List.mem_append.1 h1 with h | h
    · exact .inl (.root h h2)
    · exact .inr (.root h h2)
  | step h1 h2 h3 h4 ih =>
    rcases ih with ih | ih
    · exact .inl (.step h1 ih h3 h4)
    · exact .inr (.step h1 ih h3 h4)
theorem rch_left {S : Hs} {a b : List Int} {k : Int} (h : Rch S a k) : Rch S (a ++ b) k := by
  induction h with
  | root h1 h2 => exact .root (List.mem_append_left _ h1) h2
  | step h1 h2 h3 h4 ih => exact .step h1 ih h3 h4
theorem rch_right {S : Hs} {a b : List Int} {k : Int} (h : Rch S b k) : Rch S (a ++ b) k := by
  induction h with
  | root h1 h2 => exact .root (List.mem_append_right _ h1) h2
  | step h1 h2 h3 h4 ih => exact .step h1 ih h3 h4
theorem rl_up {S : Hs} {bud : Nat} (ok : Ok S bud) (a : List Int) : (rl S a).Pairwise (· < ·) := by
  unfold rl
  rw [List.pairwise_map]
  exact (ok.col a).up
theorem rl_lt {S : Hs} {bud : Nat} (ok : Ok S bud) (a : List Int) {i j : Nat} {x y : Int} (hi : (rl S a)[i]? = some x) (hj : (rl S a)[j]? = some y) (h : i < j) : x < y := by
  have h1 := (List.getElem?_eq_some_iff.1 hi)
  have h2 := (List.getElem?_eq_some_iff.1 hj)
  obtain ⟨l1, e1⟩ := h1
  obtain ⟨l2, e2⟩ := h2
  have := List.pairwise_iff_getElem.1 (rl_up ok a) i j l1 l2 h
  rw [e1, e2] at this
  exact this
end Go.Proofs.Ytkaeigklhdpifaa
