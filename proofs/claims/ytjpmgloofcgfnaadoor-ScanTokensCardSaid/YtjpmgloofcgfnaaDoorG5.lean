/- Tokens of the reference answers what Tokens of package scan answers. No condition. -/
import Derived.Test.YtjpmgloofcgfnaaDoorG4
namespace Go.Proofs.YtjpmgloofcgfnaaDoor
open Go.RowKit
set_option linter.unusedVariables false
set_option linter.unusedSimpArgs false

/-- Is a semicolon wanted? -/
noncomputable def opB (L : List Tk) : Bool := match L.getLast? with | none => false | some t => endsB t
theorem opB_push (L : List Tk) (t : Tk) : opB (L ++ [t]) = endsB t := by simp [opB]
theorem endV_op (L : List Tk) (p : Int) : endV L p = if opB L = true then (if 16384 ≤ L.length then none else some (L ++ [semiT p])) else some L := by
  unfold endV opB
  cases L.getLast? with
  | none => rfl
  | some t => rfl
theorem s_nl {s : ByteArray} {p : Nat} {L : List Tk} (hp : p < s.size) (hb : byt s p = 10) : scanP s p p L = match endV L p with | some L' => scanP s (p + 1) ((p + 1 : Nat) : Int) L' | none => .error ((p : Int), 6) := by
  obtain ⟨h1, h2⟩ := rn_of (c := 10) (by decide) hb
  rw [scanP_read hp (Int.le_refl _)]
  unfold readV
  rw [h1, if_pos (by decide)]
  cases endV L p with
  | none => rfl
  | some L' =>
    simp only [h2]
    exact scan_any (by omega) (by omega)
theorem s_blank {s : ByteArray} {p : Nat} {L : List Tk} (hp : p < s.size) (hb : byt s p = 9 ∨ byt s p = 13 ∨ byt s p = 32) : scanP s p p L = scanP s (p + 1) ((p + 1 : Nat) : Int) L := by
  have h1 : ∀ d : Int, readV s d L p ((rn s p : Nat) : Int) = .ok (d, L) ∧ wd s p = 1 := fun d => by
    rcases hb with hb | hb | hb
    · obtain ⟨h1, h2⟩ := rn_of (c := 9) (by decide) hb
      exact ⟨by unfold readV; rw [h1, if_neg (by decide), if_pos (by decide)], h2⟩
    · obtain ⟨h1, h2⟩ := rn_of (c := 13) (by decide) hb
      exact ⟨by unfold readV; rw [h1, if_neg (by decide), if_pos (by decide)], h2⟩
    · obtain ⟨h1, h2⟩ := rn_of (c := 32) (by decide) hb
      exact ⟨by unfold readV; rw [h1, if_neg (by decide), if_pos (by decide)], h2⟩
  rw [scanP_read hp (Int.le_refl _), (h1 p).1]
  simp only [(h1 p).2]
  exact scan_any (by omega) (by omega)
theorem s_rem {s : ByteArray} {p : Nat} {L : List Tk} (hc : Lib.hasPrefix (s.data.toList.drop p) [47, 47] = true) : scanP s p p L = scanP s (lineEnd s p) (lineEnd s p : Nat) L := by
  obtain ⟨h0, b1, _⟩ := two_inside hc
  obtain ⟨h1, h2⟩ := rn_of (c := 47) (by decide) b1
  have h3 := lineEnd_two hc
  rw [scanP_read (by omega) (Int.le_refl _), show readV s p L p ((rn s p : Nat) : Int) = .ok ((lineEnd s p : Nat), L) by unfold readV; rw [h1, if_neg (by decide), if_neg (by decide), if_pos hc, cut_nl]; rfl]
  simp only
  exact scan_skip ((lineEnd_reach (by omega)).next (by omega))
theorem s_tok {s : ByteArray} {p : Nat} {L : List Tk} (hp : p < s.size) (b10 : byt s p ≠ 10) (bb : ¬ (byt s p = 9 ∨ byt s p = 13 ∨ byt s p = 32)) (hc : Lib.hasPrefix (s.data.toList.drop p) [47, 47] = false) (t : Tk) (er : Int) (hf : firstV (s.extract p s.size) (rn s p) = (t, er)) :
    scanP s p p L = if er ≠ 0 then .error ((p : Int), er) else if 16384 ≤ L.length then .error ((p : Int), 6) else scanP s (p + t.text.size) ((p + t.text.size : Nat) : Int) (L ++ [{ t with pos := (p : Int) }]) := by
  have c1 : ¬ ((rn s p : Nat) : Int) = 10 := fun h => b10 (byt_eq (n := 10) (by omega) h).1
  have c2 : ¬ (((rn s p : Nat) : Int) = 9 ∨ ((rn s p : Nat) : Int) = 13 ∨ ((rn s p : Nat) : Int) = 32) := fun h => bb (by
    rcases h with h | h | h
    · exact .inl (byt_eq (n := 9) (by omega) h).1
    · exact .inr (.inl (byt_eq (n := 13) (by omega) h).1)
    · exact .inr (.inr (byt_eq (n := 32) (by omega) h).1))
  rw [scanP_read hp (Int.le_refl _)]
  unfold readV
  rw [if_neg c1, if_neg c2, if_neg (by rw [hc]; decide), hf]
  by_cases h0 : er = 0
  · subst h0
    have e1 : ¬ ((t, (0 : Int)).2 ≠ 0) := by simp
    have e2 : ¬ ((0 : Int) ≠ 0) := by simp
    rw [if_neg e1, if_neg e2]
    by_cases hL : 16384 ≤ L.length
    · rw [if_pos hL, if_pos hL]
    · rw [if_neg hL, if_neg hL]
      have hs := tok_stands hp hf
      have := hs.pos
      exact scan_skip (hs.reach.next (by omega))
  · rw [if_pos h0, if_pos h0]
theorem pre_two {s : ByteArray} {p : Nat} (hp : p + 1 < s.size) (h1 : byt s p = 47) (h2 : byt s (p + 1) = 47) : Lib.hasPrefix (s.data.toList.drop p) [47, 47] = true := by
  apply List.isPrefixOf_iff_prefix.2
  rw [drop_byt (by omega), drop_byt hp, h1, h2]
  exact ⟨_, rfl⟩
theorem tk_snoc (L : List Tk) (t : Tk) : tkCells (L ++ [t]) = tkCells L ++ t.cells := by simp [tkCells]
/-- A new token behind the others. -/
theorem own_snoc {w : World} {B : Nat} {v : Value} {L : List Tk} {t : Tk} (h : w.ownsRow B 33 4 v (L.length + 1) (tkCells L ++ [.int .i64 t.k, .string t.text, .int .u64 t.n, .int .i64 t.pos])) : w.ownsRow B 33 4 v (L ++ [t]).length (tkCells (L ++ [t])) := by
  rw [List.length_append, tk_snoc]; exact h
theorem line_in {s : ByteArray} {p q : Nat} (h : p ≤ q) (hq : q ≤ lineEnd s p) (hp : p ≤ s.size) : lineEnd s q = lineEnd s p := by
  unfold lineEnd at hq ⊢
  have h1 : (s.data.toList.drop p).takeWhile (· != 10) = (s.data.toList.drop p).take (q - p) ++ ((s.data.toList.drop q).takeWhile (· != 10)) := by
    have h2 : s.data.toList.drop p = (s.data.toList.drop p).take (q - p) ++ s.data.toList.drop q := by
      conv => lhs; rw [← List.take_append_drop (q - p) (s.data.toList.drop p)]
      rw [List.drop_drop, show p + (q - p) = q by omega]
    conv => lhs; rw [h2]
    rw [List.takeWhile_append_of_pos]
    intro b hb
    have h3 := List.take_prefix (q - p) (s.data.toList.drop p)
    have h4 : ((s.data.toList.drop p).take (q - p)) <+: ((s.data.toList.drop p).takeWhile (· != 10)) := by
      apply List.prefix_of_prefix_length_le h3 (List.takeWhile_prefix _)
      rw [List.length_take]; omega
    have h5 := tw_none (s.data.toList.drop p) b (h4.subset hb)
    simpa using h5
  have h6 := congrArg List.length h1
  rw [List.length_append, List.length_take, List.length_drop, len_size] at h6
  have := (lineEnd_le (s := s) (p := p) hp).2
  unfold lineEnd at this
  omega
end Go.Proofs.YtjpmgloofcgfnaaDoor
