/- There and back, and cut off. Plain: no program is walked here. -/
import Derived.Test.YtpikeeddanfhdaaD13
namespace Go.Proofs.Ytpikeeddanfhdaa
set_option linter.unusedVariables false
set_option linter.unusedSimpArgs false
def fitI : It → Prop
  | .sm n least => badN n least = false
  | .nu _ => True
theorem puts_off1 : ∀ (l : List It) (a : List UInt8), (puts (a, true) l).2 = true
  | [], a => rfl
  | .sm n least :: l, a => by
    rw [puts_cons]
    by_cases h : badN n least = true
    · simp only [put1, h, if_true]; exact puts_off1 l _
    · simp only [put1, if_neg h]; exact puts_off1 l _
  | .nu n :: l, a => by rw [puts_cons]; exact puts_off1 l _
theorem puts_ser : ∀ (l : List It) (a : List UInt8), ((puts (a, false) l).2 = false ↔ ∀ i ∈ l, fitI i) ∧ ((∀ i ∈ l, fitI i) → puts (a, false) l = (a ++ l.flatMap ser, false))
  | [], a => ⟨⟨fun _ _ h => (by cases h), fun _ => rfl⟩, fun _ => by simp [puts]⟩
  | .sm n least :: l, a => by
    rw [puts_cons]
    by_cases h : badN n least = true
    · have e : put1 (a, false) (.sm n least) = (a, true) := by simp only [put1, h, if_true]
      rw [e]
      have hn : ¬ ∀ i ∈ It.sm n least :: l, fitI i := fun hx => by
        have : badN n least = false := hx (.sm n least) (by simp)
        rw [this] at h; cases h
      exact ⟨⟨fun hx => (by rw [puts_off1] at hx; cases hx), fun hx => absurd hx hn⟩, fun hx => absurd hx hn⟩
    · have e : put1 (a, false) (.sm n least) = (a ++ num (n - least).toNat, false) := by simp only [put1, if_neg h]
      have hf : badN n least = false := by simpa using h
      obtain ⟨h1, h2⟩ := puts_ser l (a ++ num (n - least).toNat)
      rw [e]
      refine ⟨⟨fun hx i hi => ?_, fun hx => h1.2 (fun i hi => hx i (by simp [hi]))⟩, fun hx => ?_⟩
      · rcases List.mem_cons.1 hi with rfl | hi
        · exact hf
        · exact h1.1 hx i hi
      · rw [h2 (fun i hi => hx i (by simp [hi])), List.flatMap_cons, List.append_assoc]; rfl
  | .nu n :: l, a => by
    obtain ⟨h1, h2⟩ := puts_ser l (a ++ num n)
    rw [puts_cons]
    refine ⟨⟨fun hx i hi => ?_, fun hx => h1.2 (fun i hi => hx i (by simp [hi]))⟩, fun hx => ?_⟩
    · rcases List.mem_cons.1 hi with rfl | hi
      · trivial
      · exact h1.1 hx i hi
    · show puts (a ++ num n, false) l = _
      rw [h2 (fun i hi => hx i (by simp [hi])), List.flatMap_cons, List.append_assoc]; rfl
theorem fit_good {i : It} (h : goodI' i) : fitI i := by cases i with
  | sm n l => exact h
  | nu n => trivial
theorem nu_case {c : Cs} {i : It} (hi : i ∈ itCase c) (h : fitI i) : goodI' i := by
  simp only [itCase, List.mem_cons, List.not_mem_nil, or_false] at hi
  rcases hi with rfl | rfl | rfl | rfl
  · show (if c.s = true then 1 else 0) < 18446744073709551616
    split <;> omega
  · exact h
  · exact h
  · exact h
theorem sm_only {l : List Int} {i : It} (hi : i ∈ itInts l) (h : fitI i) : goodI' i := by
  rcases List.mem_cons.1 hi with rfl | hi
  · exact h
  · obtain ⟨x, _, rfl⟩ := List.mem_map.1 hi
    exact h
theorem nu_ins {x : Ins} (ho : okI x) {i : It} (hi : i ∈ itIns x) (h : fitI i) : goodI' i := by
  rcases List.mem_append.1 hi with hi | hi
  · simp only [List.mem_cons, List.not_mem_nil, or_false] at hi
    rcases hi with rfl | rfl | rfl | rfl | rfl
    · exact h
    · exact h
    · exact h
    · have := ho.1; have := ho.2; show x.n.toNat < _; omega
    · exact h
  · obtain ⟨c, _, hc⟩ := List.mem_flatMap.1 hi
    exact nu_case hc h
theorem nu_sh {x : Sh} {i : It} (hi : i ∈ itSh x) (h : fitI i) : goodI' i := by
  rcases List.mem_cons.1 hi with rfl | hi
  · exact h
  · rcases List.mem_append.1 hi with hi | hi
    · exact sm_only hi h
    · simp only [List.mem_cons, List.not_mem_nil, or_false] at hi
      subst hi; exact h
theorem nu_fu {x : Fu} (ho : okF x) {i : It} (hi : i ∈ itFu x) (h : fitI i) : goodI' i := by
  rcases List.mem_cons.1 hi with rfl | hi
  · exact h
  · rcases List.mem_append.1 hi with hi | hi
    · exact sm_only hi h
    · rcases List.mem_append.1 hi with hi | hi
      · exact sm_only hi h
      · rcases List.mem_cons.1 hi with rfl | hi
        · exact h
        · rcases List.mem_cons.1 hi with rfl | hi
          · exact h
          · obtain ⟨c, hm, hc⟩ := List.mem_flatMap.1 hi
            exact nu_ins (ho c hm) hc h
theorem nu_mo {x : Mo} (ho : okM x) {i : It} (hi : i ∈ itMo x) (h : fitI i) : goodI' i := by
  rcases List.mem_cons.1 hi with rfl | hi
  · exact h
  · rcases List.mem_append.1 hi with hi | hi
    · obtain ⟨c, hm, hc⟩ := List.mem_flatMap.1 hi
      exact nu_sh hc h
    · rcases List.mem_cons.1 hi with rfl | hi
      · exact h
      · obtain ⟨c, hm, hc⟩ := List.mem_flatMap.1 hi
        exact nu_fu (ho c hm) hc h
theorem enc_ser {m : Mo} (ho : okM m) (h : (encR m).2 = 0) : Ser (itMo m) (encR m).1 ∧ (encR m).1.length ≤ 1048576 := by
  obtain ⟨h1, h2⟩ := puts_ser (itMo m) []
  unfold encR at h ⊢
  by_cases hb : (puts ([], false) (itMo m)).2 = true
  · rw [if_pos hb] at h; cases h
  · rw [if_neg hb] at h ⊢
    by_cases hc : 1048576 < (puts ([], false) (itMo m)).1.length
    · rw [if_pos hc] at h; cases h
    · rw [if_neg hc] at h ⊢
      have hf := h1.1 (by simpa using hb)
      have e := h2 hf
      rw [e] at hc ⊢
      exact ⟨⟨fun i hi => nu_mo ho hi (hf i hi), by simp⟩, Nat.le_of_not_lt hc⟩
theorem ser_enc {m : Mo} {s : List UInt8} (h : Ser (itMo m) s) (hl : s.length ≤ 1048576) : encR m = (s, 0) := by
  have hf : ∀ i ∈ itMo m, fitI i := fun i hi => fit_good (h.1 i hi)
  have e := (puts_ser (itMo m) []).2 hf
  rw [List.nil_append, ← h.2] at e
  unfold encR
  rw [e]
  dsimp only
  rw [if_neg (by simp), if_neg (by omega)]
/-! ### there and back -/
theorem enc_read {m : Mo} (ho : okM m) (h : (encR m).2 = 0) (suf : List UInt8) : pMo ((encR m).1 ++ suf) 0 = .ok (m, (encR m).1.length) := by
  have := io_mo.to m _ ⟨ho, (enc_ser ho h).1⟩ [] suf
  simpa using this
theorem enc_dec {m : Mo} (ho : okM m) (h : (encR m).2 = 0) : decR (encR m).1 = (m, 0, 0) := by
  have h1 := enc_read ho h []
  rw [List.append_nil] at h1
  have h2 := (enc_ser ho h).2
  rw [decR, if_neg (by omega), decP, h1]
  dsimp only
  rw [if_neg (by omega)]
theorem enc_more {m : Mo} (ho : okM m) (h : (encR m).2 = 0) : decR ((encR m).1 ++ [0]) = if (encR m).1.length < 1048576 then (⟨[], []⟩, ((encR m).1.length : Int), 5) else (⟨[], []⟩, 0, 6) := by
  have h1 := enc_read ho h [0]
  have h2 := (enc_ser ho h).2
  rw [decR, List.length_append]
  by_cases hl : (encR m).1.length < 1048576
  · rw [if_pos hl, if_neg (by simp; omega), decP, h1]
    dsimp only
    rw [if_pos (by simp)]
  · rw [if_neg hl, if_pos (by simp; omega)]
theorem dec_back {b : List UInt8} {y : Mo} (h : decP b = .ok y) : okM y ∧ Ser (itMo y) b ∧ pMo b 0 = .ok (y, b.length) := by
  unfold decP at h
  cases h1 : pMo b 0 with
  | error q => rw [h1] at h; cases h
  | ok u =>
    obtain ⟨m, q⟩ := u
    rw [h1] at h
    dsimp only at h
    by_cases hq : q < b.length
    · rw [if_pos hq] at h; cases h
    · rw [if_neg hq] at h
      have hm : m = y := by simpa using h
      subst hm
      obtain ⟨s, suf, e1, e2, e3⟩ := io_mo.back b 0 m q (Nat.zero_le _) h1
      rw [List.drop_zero] at e1
      have hl : b.length = s.length + suf.length := by rw [e1, List.length_append]
      have : suf = [] := List.eq_nil_of_length_eq_zero (by omega)
      subst this
      rw [List.append_nil] at e1
      subst e1
      exact ⟨e3.1, e3.2, by rw [show b.length = q by omega]⟩
theorem enc_cut {m : Mo} (ho : okM m) (h : (encR m).2 = 0) {k : Nat} (hk : k < (encR m).1.length) : (decR ((encR m).1.take k)).2.2 = 5 := by
  have h2 := (enc_ser ho h).2
  have hl : ((encR m).1.take k).length = k := by rw [List.length_take]; omega
  rw [decR, hl, if_neg (by omega)]
  cases h3 : decP ((encR m).1.take k) with
  | error q => rfl
  | ok y =>
    exfalso
    obtain ⟨h4, h5, _⟩ := dec_back h3
    have h6 := io_mo.to y _ ⟨h4, h5⟩ [] ((encR m).1.drop k)
    have h7 := enc_read ho h []
    rw [List.append_nil] at h7
    rw [List.nil_append, List.take_append_drop, List.length_nil, h7, hl] at h6
    simp only [Except.ok.injEq, Prod.mk.injEq] at h6
    omega
theorem enc_pos {m : Mo} (ho : okM m) (h : (encR m).2 = 0) : (encR m).1.length ≠ 0 := by
  have h1 := (enc_ser ho h).1.2
  have := (num_len ((m.ty.length : Int) - 0).toNat).1
  rw [h1, itMo, List.flatMap_cons, List.length_append]
  show (num ((m.ty.length : Int) - 0).toNat).length + _ ≠ 0
  omega
theorem dec_enc {b : List UInt8} (h : (decR b).2.2 = 0) : encR (decR b).1 = (b, 0) ∧ okM (decR b).1 := by
  unfold decR at h ⊢
  by_cases hb : 1048576 < b.length
  · rw [if_pos hb] at h; cases h
  · rw [if_neg hb] at h ⊢
    cases h1 : decP b with
    | error q => rw [h1] at h; cases h
    | ok y =>
      obtain ⟨h2, h3, _⟩ := dec_back h1
      exact ⟨ser_enc h3 (by omega), h2⟩
theorem dec_none {b : List UInt8} (h : ¬ (decR b).2.2 = 0) : (decR b).1 = ⟨[], []⟩ := by
  unfold decR at h ⊢
  by_cases hb : 1048576 < b.length
  · rw [if_pos hb]
  · rw [if_neg hb] at h ⊢
    cases h1 : decP b with
    | error q => rfl
    | ok y => rw [h1] at h; exact absurd rfl h
end Go.Proofs.Ytpikeeddanfhdaa
