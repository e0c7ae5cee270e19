/- Tokens and the gaps between them, as a text has them. No program in sight but the plain function of Tokens. -/
import Derived.Test.YtjpmgloofcgfnaaDoorD0
namespace Go.Proofs.YtjpmgloofcgfnaaDoor
open Go.RowKit
set_option linter.unusedVariables false
set_option linter.unusedSimpArgs false

/-- Do only blanks, remarks and lines' ends stand there? r: a remark has begun. -/
def emB : Bool → List UInt8 → Bool
  | _, [] => true
  | r, c :: l => if c = 10 then emB false l else if r = true ∨ c = 9 ∨ c = 13 ∨ c = 32 then emB r l else if c = 47 ∧ l.head? = some 47 then emB true l else false
/-- Behind a gap nothing is left to say but r. -/
def Leads (G : List UInt8) (r : Bool) : Prop := ∀ m, emB false (G ++ m) = emB r m
theorem Leads.nil : Leads [] false := fun m => rfl
theorem Leads.nl {G : List UInt8} {r : Bool} (h : Leads G r) : Leads (G ++ [10]) false := fun m => by
  rw [List.append_assoc, h]
  simp [emB]
theorem Leads.blank {G : List UInt8} {r : Bool} {c : UInt8} (h : Leads G r) (hc : c = 9 ∨ c = 13 ∨ c = 32) : Leads (G ++ [c]) r := fun m => by
  rw [List.append_assoc, h]
  show emB r (c :: m) = _
  have h1 : c ≠ 10 := by rcases hc with rfl | rfl | rfl <;> decide
  rw [emB, if_neg h1, if_pos (.inr hc)]
theorem emB_line : ∀ (u m : List UInt8), (∀ b ∈ u, b ≠ 10) → emB true (u ++ m) = emB true m
  | [], m, _ => rfl
  | b :: u, m, h => by
    show emB true (b :: (u ++ m)) = _
    rw [emB, if_neg (h b (by simp)), if_pos (.inl rfl)]
    exact emB_line u m (fun x hx => h x (by simp [hx]))
theorem Leads.rem {G u : List UInt8} (h : Leads G false) (hu : u.head? = some 47) (hu2 : u.tail.head? = some 47) (hn : ∀ b ∈ u, b ≠ 10) : Leads (G ++ u) true := fun m => by
  rw [List.append_assoc, h]
  cases u with
  | nil => simp at hu
  | cons a u =>
    simp only [List.head?_cons, Option.some.injEq, List.tail_cons] at hu hu2
    subst hu
    show emB false (47 :: (u ++ m)) = _
    have h2 : (u ++ m).head? = some 47 := by
      cases u with
      | nil => simp at hu2
      | cons b u => simpa using hu2
    rw [emB, if_neg (by decide), if_neg (by decide), if_pos ⟨rfl, h2⟩]
    exact emB_line u m (fun x hx => hn x (by simp [hx]))
theorem Leads.done {G : List UInt8} {r : Bool} (h : Leads G r) : emB false G = true := by
  have := h []
  rw [List.append_nil] at this
  rw [this]
  cases r <;> rfl
/-- The bytes from a place to another. -/
def seg (s : ByteArray) (a b : Nat) : List UInt8 := (s.data.toList.drop a).take (b - a)
theorem seg_nil (s : ByteArray) (a : Nat) : seg s a a = [] := by simp [seg]
theorem seg_more {s : ByteArray} {a b c : Nat} (h1 : a ≤ b) (h2 : b ≤ c) : seg s a c = seg s a b ++ seg s b c := by
  unfold seg
  rw [show c - a = (b - a) + (c - b) by omega, List.take_add, List.drop_drop, show a + (b - a) = b by omega]
theorem seg_one {s : ByteArray} {a : Nat} (h : a < s.size) : seg s a (a + 1) = [byt s a] := by
  unfold seg
  rw [show a + 1 - a = 1 by omega]
  have hl : a < s.data.toList.length := by rw [len_size]; exact h
  rw [List.drop_eq_getElem_cons hl]
  show [_] = [s.data.toList.getD a 0]
  rw [List.getD_eq_getElem?_getD, List.getElem?_eq_getElem hl]
  rfl
theorem seg_ext (s : ByteArray) (a b : Nat) : (s.extract a b).data.toList = seg s a b := by rw [Lib.extract_data]; rfl
/-- Where the last token ends. -/
def endAt (L : List Tk) : Int := match L.getLast? with | none => 0 | some t => t.pos + t.text.size
theorem endAt_push (L : List Tk) (t : Tk) : endAt (L ++ [t]) = t.pos + t.text.size := by simp [endAt]
/-- Token t stands in the text behind place e. -/
def StandT (s : ByteArray) (e : Int) (t : Tk) : Prop := ∃ a p : Nat, e = a ∧ t.pos = p ∧ a ≤ p ∧ p + t.text.size ≤ s.size ∧ s.extract p (p + t.text.size) = t.text ∧ emB false (seg s a p) = true ∧ (t.text = ⟨#[]⟩ → t.k = 5 ∧ (p < s.size → byt s p = 10))
/-- All tokens stand. -/
def StandL (s : ByteArray) (L : List Tk) : Prop := ∀ (i : Nat) (t : Tk), L[i]? = some t → StandT s (endAt (L.take i)) t
theorem StandL.push {s : ByteArray} {L : List Tk} {t : Tk} (h : StandL s L) (ht : StandT s (endAt L) t) : StandL s (L ++ [t]) := by
  intro i u hu
  by_cases hi : i < L.length
  · rw [List.getElem?_append_left hi] at hu
    rw [List.take_append_of_le_length (by omega)]
    exact h i u hu
  · have h1 := (List.getElem?_eq_some_iff.1 hu).1
    simp only [List.length_append, List.length_cons, List.length_nil] at h1
    obtain rfl : i = L.length := by omega
    simp only [List.getElem?_append_right (Nat.le_refl _), Nat.sub_self, List.getElem?_cons_zero, Option.some.injEq] at hu
    subst hu
    rw [List.take_append_of_le_length (Nat.le_refl _), List.take_length]
    exact ht
/-- The tokens so far stand, and the gap behind them leads on. -/
structure Gap (s : ByteArray) (L : List Tk) (p : Nat) : Prop where
  all : StandL s L
  gap : ∃ (a : Nat) (r : Bool), endAt L = a ∧ a ≤ p ∧ Leads (seg s a p) r ∧ (r = true → p < s.size → byt s p = 10)
theorem Gap.start (s : ByteArray) : Gap s [] 0 := ⟨fun i t h => by simp at h, 0, false, rfl, Nat.le_refl _, by rw [seg_nil]; exact .nil, fun h => by cases h⟩
theorem Gap.semi {s : ByteArray} {L L' : List Tk} {p : Nat} (h : Gap s L p) (hp : p ≤ s.size) (hb : p < s.size → byt s p = 10) (he : endV L p = some L') : Gap s L' p := by
  obtain ⟨ha, a, r, e, hap, hl, hr⟩ := h
  unfold endV at he
  cases hL : L.getLast? with
  | none => rw [hL] at he; cases he; exact ⟨ha, a, r, e, hap, hl, hr⟩
  | some t =>
    rw [hL] at he
    simp only at he
    split at he
    · split at he
      · cases he
      · cases he
        refine ⟨ha.push ⟨a, p, e, rfl, hap, ?_, ?_, hl.done, fun _ => ⟨rfl, hb⟩⟩, p, false, by rw [endAt_push]; show (p : Int) + ((0 : Nat) : Int) = p; omega, Nat.le_refl _, by rw [seg_nil]; exact .nil, fun h => by cases h⟩
        · show p + 0 ≤ s.size; omega
        · show s.extract p (p + 0) = ⟨#[]⟩
          exact ByteArray.ext (Array.toList_inj.1 (by rw [seg_ext, Nat.add_zero, seg_nil]))
    · cases he; exact ⟨ha, a, r, e, hap, hl, hr⟩
theorem Gap.step {s : ByteArray} {L : List Tk} {p q : Nat} (h : Gap s L p) (hpq : p ≤ q) (hl : ∀ (G : List UInt8) (r : Bool), (r = true → p < s.size → byt s p = 10) → Leads G r → ∃ r', Leads (G ++ seg s p q) r' ∧ (r' = true → q < s.size → byt s q = 10)) : Gap s L q := by
  obtain ⟨ha, a, r, e, hap, hg, hr⟩ := h
  obtain ⟨r', h1, h2⟩ := hl _ r hr hg
  exact ⟨ha, a, r', e, by omega, by rw [seg_more hap hpq]; exact h1, h2⟩
theorem tw_none (l : List UInt8) : ∀ b ∈ l.takeWhile (· != 10), b ≠ 10 := by
  intro b hb
  have := List.all_takeWhile (p := (· != 10)) (l := l)
  rw [List.all_eq_true] at this
  simpa using this b hb
theorem run_stands {s : ByteArray} {p : Nat} {L F : List Tk} (h : Run s p L F) : p ≤ s.size → Gap s L p → StandL s F ∧ ∃ a : Nat, endAt F = a ∧ a ≤ s.size ∧ emB false (seg s a s.size) = true := by
  induction h with
  | fin he =>
    intro _ hg
    obtain ⟨ha, a, r, e, hap, hl, hr⟩ := hg.semi (Nat.le_refl _) (fun h => absurd h (Nat.lt_irrefl _)) he
    exact ⟨ha, a, e, hap, hl.done⟩
  | @nl p L L' F hp hb he _ ih =>
    intro _ hg
    refine ih (by omega) ((hg.semi (by omega) (fun _ => hb) he).step (by omega) fun G r _ hl => ⟨false, ?_, fun h => by cases h⟩)
    rw [seg_one hp, hb]
    exact hl.nl
  | @blank p L F hp hb _ ih =>
    intro _ hg
    refine ih (by omega) (hg.step (by omega) fun G r hr hl => ⟨r, ?_, fun h => ?_⟩)
    · rw [seg_one hp]
      exact hl.blank hb
    · exfalso
      have := hr h hp
      rw [this] at hb
      revert hb; decide
  | @rem p L F hc _ ih =>
    intro hp hg
    obtain ⟨h0, b1, b2⟩ := two_inside hc
    have hle := lineEnd_le hp
    refine ih hle.2 (hg.step hle.1 fun G r hr hl => ⟨true, ?_, fun _ h => lineEnd_at h⟩)
    have hrf : r = false := by
      cases r with
      | false => rfl
      | true => have := hr rfl (by omega); rw [b1] at this; revert this; decide
    subst hrf
    have h1 : [47, 47] <+: s.data.toList.drop p := List.isPrefixOf_iff_prefix.1 hc
    obtain ⟨t, ht⟩ := h1
    have hsg : seg s p (lineEnd s p) = (s.data.toList.drop p).takeWhile (· != 10) := by
      unfold seg lineEnd
      rw [show p + ((s.data.toList.drop p).takeWhile (· != 10)).length - p = ((s.data.toList.drop p).takeWhile (· != 10)).length by omega]
      exact (List.prefix_iff_eq_take.1 (List.takeWhile_prefix _)).symm
    rw [hsg]
    refine hl.rem ?_ ?_ (tw_none _)
    · rw [← ht]; simp [List.takeWhile_cons]
    · rw [← ht]; simp [List.takeWhile_cons]
  | @tok p t L F hp ht hL _ ih =>
    intro _ hg
    have hs := tok_stands hp ht.2.2.2
    obtain ⟨ha, a, r, e, hap, hl, hr⟩ := hg
    refine ih hs.room ⟨ha.push ⟨a, p, e, rfl, hap, hs.room, ?_, hl.done, fun h0 => ?_⟩, p + t.text.size, false, by rw [endAt_push]; simp, Nat.le_refl _, by rw [seg_nil]; exact .nil, fun h => by cases h⟩
    · exact ByteArray.ext (Array.toList_inj.1 (by rw [sub_list]; exact hs.same.symm))
    · have h1 := hs.pos
      have h2 : t.text = ⟨#[]⟩ := h0
      rw [h2] at h1
      exact absurd h1 (by decide)
theorem toks_stand {s : ByteArray} {L : List Tk} (h : toksV s = .ok L) : StandL s L ∧ ∃ a : Nat, endAt L = a ∧ a ≤ s.size ∧ emB false (seg s a s.size) = true :=
  run_stands (toks_run h).2.2 (Nat.zero_le _) (Gap.start s)
end Go.Proofs.YtjpmgloofcgfnaaDoor
