/- A text that is cut where a token begins: the tokens ahead, and the tokens from there on. No program in sight but the plain function of Tokens. -/
import Derived.Test.YtjpmgloofcgfnaaDoorD4
namespace Go.Proofs.YtjpmgloofcgfnaaDoor
open Go.RowKit
set_option linter.unusedVariables false
set_option linter.unusedSimpArgs false

/-- From token to token, from a place to another. -/
inductive Path (s : ByteArray) : Nat → List Tk → Nat → List Tk → Prop
  | refl (p : Nat) (L : List Tk) : Path s p L p L
  | nl {p q : Nat} {L L' M : List Tk} : p < s.size → byt s p = 10 → endV L p = some L' → Path s (p + 1) L' q M → Path s p L q M
  | blank {p q : Nat} {L M : List Tk} : p < s.size → (byt s p = 9 ∨ byt s p = 13 ∨ byt s p = 32) → Path s (p + 1) L q M → Path s p L q M
  | rem {p q : Nat} {L M : List Tk} : Lib.hasPrefix (s.data.toList.drop p) [47, 47] = true → Path s (lineEnd s p) L q M → Path s p L q M
  | tok {p q : Nat} {t : Tk} {L M : List Tk} : p < s.size → TokAt s p t → L.length < 16384 → Path s (p + t.text.size) (L ++ [{ t with pos := p }]) q M → Path s p L q M
theorem one_reach {s : ByteArray} {p : Nat} {c : UInt8} (hp : p < s.size) (hc : c.toNat < 128) (h : byt s p = c) : Reach s p (p + 1) := by
  refine .step hp ?_
  rw [(rn_of hc h).2]
  exact .refl _
theorem Path.reach {s : ByteArray} {p q : Nat} {L M : List Tk} (h : Path s p L q M) : Reach s p q := by
  induction h with
  | refl p L => exact .refl p
  | nl hp hb _ _ ih => exact (one_reach hp (by decide) hb).trans ih
  | blank hp hb _ ih =>
    rcases hb with hb | hb | hb
    · exact (one_reach hp (by decide) hb).trans ih
    · exact (one_reach hp (by decide) hb).trans ih
    · exact (one_reach hp (by decide) hb).trans ih
  | rem hc _ ih => exact (lineEnd_reach (by have := (two_inside hc).1; omega)).trans ih
  | tok hp ht _ _ ih => exact (tok_stands hp ht.2.2.2).reach.trans ih
theorem endV_pre {L L' : List Tk} {p : Int} (h : endV L p = some L') : L' = L ∨ (L' = L ++ [semiT p] ∧ L.length < 16384) := by
  unfold endV at h
  split at h
  · cases h; exact .inl rfl
  · split at h
    · split at h
      · cases h
      · cases h; exact .inr ⟨rfl, by omega⟩
    · cases h; exact .inl rfl
theorem Run.pre {s : ByteArray} {p : Nat} {L F : List Tk} (h : Run s p L F) : L <+: F := by
  induction h with
  | fin he =>
    rcases endV_pre he with rfl | ⟨rfl, _⟩
    · exact List.prefix_refl _
    · exact List.prefix_append _ _
  | nl _ _ he _ ih =>
    rcases endV_pre he with rfl | ⟨rfl, _⟩
    · exact ih
    · exact (List.prefix_append _ _).trans ih
  | blank _ _ _ ih => exact ih
  | rem _ _ ih => exact ih
  | tok _ _ _ _ ih => exact (List.prefix_append _ _).trans ih
/-- Up to where token k begins. -/
theorem run_at {s : ByteArray} {p : Nat} {L F : List Tk} (h : Run s p L F) {k : Nat} {t : Tk} (hk : F[k]? = some t) (ht : t.text ≠ ⟨#[]⟩) : L.length ≤ k → p ≤ s.size →
    ∃ (a : Nat) (t' : Tk), t = { t' with pos := a } ∧ Path s p L a (F.take k) ∧ a < s.size ∧ TokAt s a t' ∧ k < 16384 ∧ Run s (a + t'.text.size) (F.take k ++ [t]) F := by
  induction h with
  | @fin L F he =>
    intro hL _
    exfalso
    rcases endV_pre he with rfl | ⟨rfl, _⟩
    · rw [List.getElem?_eq_none hL] at hk; cases hk
    · rw [List.getElem?_append_right hL] at hk
      cases hj : k - L.length with
      | zero => rw [hj] at hk; simp at hk; exact ht (by rw [← hk]; rfl)
      | succ j => rw [hj] at hk; simp at hk
  | @nl p L L' F hp hb he hr ih =>
    intro hL _
    have hL2 : L'.length ≤ k := by
      rcases endV_pre he with rfl | ⟨rfl, _⟩
      · exact hL
      · rw [List.length_append]
        show L.length + 1 ≤ k
        rcases Nat.lt_or_ge L.length k with h | h
        · exact h
        · exfalso
          obtain rfl : k = L.length := by omega
          have h1 := hr.pre
          obtain ⟨r, hr2⟩ := h1
          rw [← hr2, List.getElem?_append_left (by simp), List.getElem?_append_right (Nat.le_refl _)] at hk
          simp at hk
          exact ht (by rw [← hk]; rfl)
    obtain ⟨a, t', e, hpa, hx⟩ := ih hk hL2 (by omega)
    exact ⟨a, t', e, .nl hp hb he hpa, hx⟩
  | @blank p L F hp hb _ ih =>
    intro hL _
    obtain ⟨a, t', e, hpa, hx⟩ := ih hk hL (by omega)
    exact ⟨a, t', e, .blank hp hb hpa, hx⟩
  | @rem p L F hc _ ih =>
    intro hL hp
    obtain ⟨a, t', e, hpa, hx⟩ := ih hk hL (lineEnd_le hp).2
    exact ⟨a, t', e, .rem hc hpa, hx⟩
  | @tok p t1 L F hp h1 hL0 hr ih =>
    intro hL _
    rcases Nat.lt_or_ge L.length k with h | h
    · obtain ⟨a, t', e, hpa, hx⟩ := ih hk (by rw [List.length_append]; show L.length + 1 ≤ k; omega) (tok_stands hp h1.2.2.2).room
      exact ⟨a, t', e, .tok hp h1 hL0 hpa, hx⟩
    · obtain rfl : k = L.length := by omega
      obtain ⟨r, hr2⟩ := hr.pre
      have h2 : F.take L.length = L := by rw [← hr2, List.append_assoc, List.take_left']; rfl
      have h3 : t = { t1 with pos := (p : Int) } := by
        rw [← hr2, List.getElem?_append_left (by simp), List.getElem?_append_right (Nat.le_refl _)] at hk
        simpa using hk.symm
      refine ⟨p, t1, h3, by rw [h2]; exact .refl _ _, hp, h1, hL0, ?_⟩
      rw [h2, h3]
      exact hr
/-- Ahead of the cut all is read as it was. -/
theorem Path.cut {s : ByteArray} {a p q : Nat} {L M : List Tk} (h : Path s p L q M) (ha : a ≤ s.size) (hq : q = a) : Path (cutTo s a) p L q M := by
  have hsz := cut_size ha
  induction h with
  | refl p L => exact .refl p L
  | @nl p q L L' M hp hb he hr ih =>
    have := hr.reach.le
    exact .nl (by omega) (by rw [cut_byt (by omega)]; exact hb) he (ih hq)
  | @blank p q L M hp hb hr ih =>
    have := hr.reach.le
    exact .blank (by omega) (by rw [cut_byt (by omega)]; exact hb) (ih hq)
  | @rem p q L M hc hr ih =>
    have h1 := hr.reach.le
    have h2 := lineEnd_two hc
    have h3 : Path (cutTo s a) (lineEnd s p) L q M := ih hq
    rw [← cut_line (a := a) (by omega) (by omega)] at h3
    refine .rem ?_ h3
    rw [cut_prefix _ (by omega) ha, hc]
    simp; omega
  | @tok p q t L M hp ht hL hr ih =>
    have h1 := hr.reach
    have h2 := h1.le
    have h3 := tok_stands hp ht.2.2.2
    have h4 := h3.pos
    exact .tok (by omega) (cut_tok ha (by subst hq; exact h3.reach.trans h1) (by omega) ht (by omega)) hL (ih hq)
theorem Path.run {s : ByteArray} {p q : Nat} {L M F : List Tk} (h : Path s p L q M) : Run s q M F → Run s p L F := by
  induction h with
  | refl p L => exact id
  | nl hp hb he _ ih => exact fun h => .nl hp hb he (ih h)
  | blank hp hb _ ih => exact fun h => .blank hp hb (ih h)
  | rem hc _ ih => exact fun h => .rem hc (ih h)
  | tok hp ht hL _ ih => exact fun h => .tok hp ht hL (ih h)
/-- Tokens ahead change nothing, once there is one behind them. -/
theorem endV_app {P L X : List Tk} {p : Int} (h0 : L ≠ []) (h : endV (P ++ L) p = some X) : ∃ L', X = P ++ L' ∧ endV L p = some L' ∧ L' ≠ [] := by
  unfold endV at h ⊢
  rw [List.getLast?_append] at h
  cases hl : L.getLast? with
  | none => exact absurd (List.getLast?_eq_none_iff.1 hl) h0
  | some t =>
    rw [hl] at h
    simp only [Option.some_or] at h
    simp only
    split at h
    · rename_i hb
      split at h
      · cases h
      · rename_i hlen
        cases h
        rw [List.length_append] at hlen
        exact ⟨L ++ [semiT p], by simp, by rw [if_pos hb, if_neg (by omega)], by simp⟩
    · rename_i hb
      cases h
      exact ⟨L, rfl, by rw [if_neg hb], h0⟩
theorem Run.app {s : ByteArray} {p : Nat} {K F : List Tk} (h : Run s p K F) : ∀ {P L : List Tk}, K = P ++ L → L ≠ [] → ∃ L', F = P ++ L' ∧ Run s p L L' := by
  induction h with
  | fin he =>
    intro P L hK h0
    subst hK
    obtain ⟨L', h1, h2, _⟩ := endV_app h0 he
    exact ⟨L', h1, .fin h2⟩
  | nl hp hb he _ ih =>
    intro P L hK h0
    subst hK
    obtain ⟨L', h1, h2, h3⟩ := endV_app h0 he
    obtain ⟨L2, h4, h5⟩ := ih h1 h3
    exact ⟨L2, h4, .nl hp hb h2 h5⟩
  | blank hp hb _ ih =>
    intro P L hK h0
    obtain ⟨L2, h4, h5⟩ := ih hK h0
    exact ⟨L2, h4, .blank hp hb h5⟩
  | rem hc _ ih =>
    intro P L hK h0
    obtain ⟨L2, h4, h5⟩ := ih hK h0
    exact ⟨L2, h4, .rem hc h5⟩
  | tok hp ht hL _ ih =>
    intro P L hK h0
    subst hK
    obtain ⟨L2, h4, h5⟩ := ih (P := P) (L := L ++ [_]) (by rw [List.append_assoc]) (by simp)
    exact ⟨L2, h4, .tok hp ht (by rw [List.length_append] at hL; omega) h5⟩
theorem brk_fuel (s : ByteArray) : ∀ (b1 b2 pos : Nat), s.size ≤ pos + b1 → s.size ≤ pos + b2 → brkFrom s b1 pos = brkFrom s b2 pos
  | 0, 0, pos, _, _ => rfl
  | 0, b2 + 1, pos, h1, _ => by rw [brkFrom, brkFrom, if_neg (by omega)]
  | b1 + 1, 0, pos, _, h2 => by rw [brkFrom, brkFrom, if_neg (by omega)]
  | b1 + 1, b2 + 1, pos, h1, h2 => by
    rw [brkFrom, brkFrom]
    by_cases hp : pos < s.size
    · have hw := width_pos s pos hp
      rw [if_pos hp, if_pos hp]
      split
      · rfl
      · exact brk_fuel s b1 b2 _ (by omega) (by omega)
    · rw [if_neg hp, if_neg hp]
/-- No byte that belongs to no character from a place on. -/
def Fine (s : ByteArray) (p : Nat) : Prop := brkFrom s s.size p = none
theorem fine_step {s : ByteArray} {p : Nat} (hp : p < s.size) : Fine s p ↔ ¬ (rn s p = 65533 ∧ Lib.hasPrefix (s.data.toList.drop p) [239, 191, 189] = false) ∧ Fine s (p + wd s p) := by
  have hw : 1 ≤ (Utf8.decode s p).2 := wd_pos hp
  obtain ⟨b, hb⟩ : ∃ b, s.size = b + 1 := ⟨s.size - 1, by omega⟩
  unfold Fine
  rw [brk_fuel s s.size (b + 1) p (by omega) (by omega), brkFrom, if_pos hp, brk_fuel s s.size b (p + wd s p) (by omega) (by show s.size ≤ p + (Utf8.decode s p).2 + b; omega)]
  show (if rn s p = 65533 ∧ Lib.hasPrefix (s.data.toList.drop p) [239, 191, 189] = false then some p else brkFrom s b (p + wd s p)) = none ↔ _
  split
  · rename_i h; simp [h]
  · rename_i h; simp [h]
theorem Fine.reach {s : ByteArray} {p q : Nat} (h : Reach s p q) : Fine s p → Fine s q := by
  induction h with
  | refl p => exact id
  | step hp _ ih => exact fun h => ih ((fine_step hp).1 h).2
theorem fine_end {s : ByteArray} {p : Nat} (h : ¬ p < s.size) : Fine s p := by
  unfold Fine
  cases hb : s.size with
  | zero => rfl
  | succ b => rw [brkFrom, if_neg (by omega)]
theorem fine_cut {s : ByteArray} {a p q : Nat} (ha : a ≤ s.size) (h : Reach s p q) : q = a → Fine s p → Fine (cutTo s a) p := by
  have hsz := cut_size ha
  induction h with
  | refl p => intro hq _; exact fine_end (by omega)
  | @step p q hp hr ih =>
    intro hq hf
    have h1 := hr.le
    have h2 := wd_pos hp
    have hd := cut_dec ha (p := p) (by omega) (by omega)
    obtain ⟨f1, f2⟩ := (fine_step hp).1 hf
    refine (fine_step (by omega)).2 ⟨?_, ?_⟩
    · rintro ⟨g1, g2⟩
      have e1 : rn s p = 65533 := by rw [← g1]; exact (congrArg Prod.fst hd).symm
      have e2 : Lib.hasPrefix (s.data.toList.drop p) [239, 191, 189] = true := by
        cases hh : Lib.hasPrefix (s.data.toList.drop p) [239, 191, 189] with
        | true => rfl
        | false => exact absurd ⟨e1, hh⟩ f1
      rw [cut_prefix _ (by omega) ha, e2] at g2
      have h3 : ¬ p + 3 ≤ a := by simpa using g2
      have h4 : [239, 191, 189] <+: s.data.toList.drop p := List.isPrefixOf_iff_prefix.1 e2
      obtain ⟨r, hr4⟩ := h4
      have b0 : byt s p = 239 := by have := congrArg (·.getD 0 0) hr4; simpa [byt, List.getD, List.getElem?_drop] using this.symm
      have b1 : byt s (p + 1) = 191 := by have := congrArg (·.getD 1 0) hr4; simpa [byt, List.getD, List.getElem?_drop] using this.symm
      have b2 : byt s (p + 2) = 189 := by have := congrArg (·.getD 2 0) hr4; simpa [byt, List.getD, List.getElem?_drop] using this.symm
      have hl := congrArg List.length hr4
      simp only [List.length_append, List.length_cons, List.length_nil, List.length_drop, len_size] at hl
      have h5 : wd s p = 3 := by
        show (Utf8.decode s p).2 = 3
        rw [dec_N, b0, b1, b2]
        unfold Lib.decodeN
        have n1 : 1 < s.size - p := by omega
        have n2 : 2 < s.size - p := by omega
        simp [n1, n2]
      omega
    · have e2 : wd (cutTo s a) p = wd s p := congrArg Prod.snd hd
      rw [e2]; exact ih hq f2
theorem fine_tail {s : ByteArray} {a : Nat} (ha : a ≤ s.size) (h : Fine s a) : badV (s.extract a s.size) = none := by
  unfold badV
  have := brk_sh s a ha (s.extract a s.size).size 0
  rw [Nat.add_zero, brk_fuel s _ s.size a (by rw [Lib.tail_size]; omega) (by omega), h] at this
  cases hb : brkFrom (s.extract a s.size) (s.extract a s.size).size 0 with
  | none => rfl
  | some x => rw [hb] at this; cases this
/-- The two parts of a text that is cut where token k begins. -/
theorem toks_cut {s : ByteArray} {F : List Tk} (h : toksV s = .ok F) {k : Nat} {t : Tk} (hk : F[k]? = some t) (ht : t.text ≠ ⟨#[]⟩) :
    ∃ (a : Nat) (B : List Tk), t.pos = a ∧ a ≤ s.size ∧ toksV (s.extract a s.size) = .ok B ∧ B.map (sh a) = F.drop k ∧
      (toksV (cutTo s a) = .ok (F.take k) ∨ toksV (cutTo s a) = .ok (F.take k ++ [semiT a])) := by
  obtain ⟨hs, hb, hr⟩ := toks_run h
  obtain ⟨a, t', e, hpa, hlt, hta, hk4, hrun⟩ := run_at hr hk ht (Nat.zero_le _) (Nat.zero_le _)
  have hrc := hpa.reach
  have hkl : k < F.length := (List.getElem?_eq_some_iff.1 hk).1
  have hfine : Fine s 0 := hb
  obtain ⟨L', h1, h2⟩ := hrun.app rfl (by simp)
  have h3 : F.drop k = L' := by
    conv => lhs; rw [h1]
    rw [List.drop_left' (by rw [List.length_take]; omega)]
  have h4 : Run s a [] L' := .tok hlt hta (by simp) (by rw [List.nil_append]; rw [e] at h2; exact h2)
  have h5 := of_run h4 (a : Int) (by omega) (Int.le_refl _)
  have h6 := scan_sh s a (by omega) s.size 0 0 []
  have h7 : scanFrom s s.size (a + 0) ((0 : Int) + (a : Int)) (([] : List Tk).map (sh a)) = scanP s a (a : Int) [] := by
    rw [Nat.add_zero, show (0 : Int) + (a : Int) = a by omega]; rfl
  rw [h7, h5] at h6
  have h8 : ∃ B, scanFrom (s.extract a s.size) s.size 0 0 [] = .ok B ∧ L' = B.map (sh a) := by
    cases hB : scanFrom (s.extract a s.size) s.size 0 0 [] with
    | error x => rw [hB] at h6; cases h6
    | ok B => rw [hB] at h6; simp only [shT, Except.ok.injEq] at h6; exact ⟨B, rfl, h6⟩
  obtain ⟨B, hB, hLB⟩ := h8
  refine ⟨a, B, by rw [e], by omega, ?_, by rw [h3, hLB], ?_⟩
  · unfold toksV
    rw [if_neg (by rw [Lib.tail_size]; omega), fine_tail (by omega) (Fine.reach hrc hfine)]
    simp only
    rw [scan_fuel _ _ s.size 0 0 [] (by omega) (by rw [Lib.tail_size]; omega)]
    exact hB
  · have hsz := cut_size (s := s) (a := a) (by omega)
    have p1 := hpa.cut (a := a) (by omega) rfl
    have hMlen : (F.take k).length = k := by rw [List.length_take]; omega
    have hbad : badV (cutTo s a) = none := fine_cut (by omega) hrc rfl hfine
    have hfin : ∃ A, endV (F.take k) (cutTo s a).size = some A ∧ (A = F.take k ∨ A = F.take k ++ [semiT a]) := by
      cases hA : endV (F.take k) ((cutTo s a).size : Int) with
      | none =>
        exfalso
        unfold endV at hA
        split at hA
        · cases hA
        · split at hA
          · split at hA
            · omega
            · cases hA
          · cases hA
      | some A =>
        rcases endV_pre hA with h | ⟨h, _⟩
        · exact ⟨A, rfl, .inl h⟩
        · exact ⟨A, rfl, .inr (by rw [h, hsz])⟩
    obtain ⟨A, hA, hAA⟩ := hfin
    have p2 : Run (cutTo s a) (cutTo s a).size (F.take k) A := .fin hA
    rw [hsz] at p2
    have p3 := toks_of (s := cutTo s a) (by rw [hsz]; omega) hbad (p1.run p2)
    rcases hAA with rfl | rfl
    · exact .inl p3
    · exact .inr p3
end Go.Proofs.YtjpmgloofcgfnaaDoor
