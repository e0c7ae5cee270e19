/- What stands ahead of a semicolon that is put. No program in sight but the plain function of Tokens. -/
import Derived.Test.YtjpmgloofcgfnaaDoorB8
import Derived.Lib.RuneCountTail
namespace Go.Proofs.YtjpmgloofcgfnaaDoor
open Go.RowKit
set_option linter.unusedVariables false
set_option linter.unusedSimpArgs false

theorem spanAt_ge (s : ByteArray) : ∀ (b pos : Nat), pos ≤ s.size → pos ≤ spanAt s b pos
  | 0, pos, h => h
  | b + 1, pos, h => by
    rw [spanAt]
    split
    · rename_i hp
      split
      · by_cases h2 : pos + (Utf8.decode s pos).2 ≤ s.size
        · exact Nat.le_trans (by omega) (spanAt_ge s b _ h2)
        · cases b with
          | zero => exact h
          | succ b => rw [spanAt, if_neg (by omega)]; exact h
      · exact Nat.le_refl _
    · exact h
theorem spanE_pos (s : ByteArray) (h0 : 0 < s.size) (hc : wordC (Utf8.decode s 0).1 = true) : 0 < spanE s := by
  unfold spanE
  obtain ⟨b, hb⟩ : ∃ b, s.size = b + 1 := ⟨s.size - 1, by omega⟩
  rw [hb, spanAt, if_pos h0, if_pos hc]
  have hw := width_pos s 0 h0
  by_cases h2 : 0 + (Utf8.decode s 0).2 ≤ s.size
  · have := spanAt_ge s b _ h2
    omega
  · cases b with
    | zero => show 0 < s.size; exact h0
    | succ b => rw [spanAt, if_neg (by omega)]; exact h0
theorem ext_ne (s : ByteArray) (n : Nat) (h0 : 0 < s.size) (hn : 0 < n) : s.extract 0 n ≠ ⟨#[]⟩ := by
  intro h
  have := congrArg ByteArray.size h
  simp only [ByteArray.size_extract] at this
  have h3 : (⟨#[]⟩ : ByteArray).size = 0 := rfl
  omega
theorem first_text (s : ByteArray) (pos : Nat) (c : Int) (hp : pos < s.size) (hc : c = (Utf8.decode s pos).1) (h0 : (firstV (s.extract pos s.size) c).2 = 0) : (firstV (s.extract pos s.size) c).1.text ≠ ⟨#[]⟩ := by
  have hsz : 0 < (s.extract pos s.size).size := by simp only [ByteArray.size_extract]; omega
  have hd : Utf8.decode (s.extract pos s.size) 0 = Utf8.decode s pos := Lib.tail_decode s pos 0
  have hx (h : wordC c = true) : (s.extract pos s.size).extract 0 (spanE (s.extract pos s.size)) ≠ ⟨#[]⟩ :=
    ext_ne _ _ hsz (spanE_pos _ hsz (by rw [hd, ← hc]; exact h))
  unfold firstV at h0 ⊢
  by_cases h1 : lt c = true
  · have h2 := hx (by simp [wordC, h1])
    rw [if_pos h1] at h0 ⊢
    unfold namedV at h0 ⊢
    by_cases h3 : inB wordsL ((s.extract pos s.size).extract 0 (spanE (s.extract pos s.size))) = true
    · rw [if_pos h3]; exact h2
    · rw [if_neg h3] at h0 ⊢
      by_cases h4 : 64 < ((s.extract pos s.size).extract 0 (spanE (s.extract pos s.size))).size
      · rw [if_pos h4] at h0; simp at h0
      · rw [if_neg h4]; exact h2
  · rw [if_neg h1] at h0 ⊢
    by_cases h2 : decide (48 ≤ c ∧ c ≤ 57) = true
    · rw [if_pos h2]; exact hx (by simp only [wordC, h2, Bool.or_true])
    · rw [if_neg h2] at h0 ⊢
      by_cases h3 : signV (s.extract pos s.size).data.toList = ⟨#[]⟩
      · rw [if_pos h3] at h0; simp at h0
      · rw [if_neg h3]
        by_cases h4 : signV (s.extract pos s.size).data.toList = ⟨#[59]⟩
        · rw [if_pos h4]; intro h; have := congrArg ByteArray.size h; revert this; decide
        · rw [if_neg h4]; exact h3
/-- Each token without a text stands behind one that may end a statement. -/
def SemiOK (L : List Tk) : Prop := ∀ (i : Nat) (t : Tk), L[i]? = some t → t.text = ⟨#[]⟩ → ∃ j p, i = j + 1 ∧ L[j]? = some p ∧ endsB p = true
theorem SemiOK.push {L : List Tk} (h : SemiOK L) {t : Tk} (ht : t.text ≠ ⟨#[]⟩) : SemiOK (L ++ [t]) := by
  intro i u hu he
  rw [List.getElem?_append] at hu
  split at hu
  · obtain ⟨j, p, rfl, hp, hb⟩ := h i u hu he
    exact ⟨j, p, rfl, by rw [List.getElem?_append_left (by omega)]; exact hp, hb⟩
  · rename_i hi
    cases hk : i - L.length with
    | zero => rw [hk] at hu; simp at hu; subst hu; exact absurd he ht
    | succ k => rw [hk] at hu; simp at hu
theorem SemiOK.semi {L : List Tk} (h : SemiOK L) {p t : Tk} (hl : L.getLast? = some p) (hb : endsB p = true) : SemiOK (L ++ [t]) := by
  intro i u hu he
  rw [List.getElem?_append] at hu
  split at hu
  · obtain ⟨j, p, rfl, hp, hb⟩ := h i u hu he
    exact ⟨j, p, rfl, by rw [List.getElem?_append_left (by omega)]; exact hp, hb⟩
  · rename_i hi
    cases hk : i - L.length with
    | zero =>
      rw [List.getLast?_eq_getElem?] at hl
      have hn : 0 < L.length := by
        rcases Nat.eq_zero_or_pos L.length with h0 | h0
        · rw [List.length_eq_zero_iff.1 h0] at hl; simp at hl
        · exact h0
      exact ⟨L.length - 1, p, by omega, by rw [List.getElem?_append_left (by omega)]; exact hl, hb⟩
    | succ k => rw [hk] at hu; simp at hu
theorem SemiOK.endV {L L' : List Tk} {pos : Int} (h : SemiOK L) (he : endV L pos = some L') : SemiOK L' := by
  unfold Go.Proofs.YtjpmgloofcgfnaaDoor.endV at he
  cases hl : L.getLast? with
  | none => rw [hl] at he; simp at he; subst he; exact h
  | some t =>
    rw [hl] at he
    simp only at he
    split at he
    · rename_i hb
      split at he
      · cases he
      · cases he; exact h.semi hl hb
    · cases he; exact h
theorem SemiOK.read {s : ByteArray} {done d : Int} {L L' : List Tk} {pos : Nat} {c : Int} (h : SemiOK L) (hp : pos < s.size) (hc : c = (Utf8.decode s pos).1) (hr : readV s done L pos c = .ok (d, L')) : SemiOK L' := by
  unfold readV at hr
  split at hr
  · split at hr
    · rename_i L2 he
      cases hr; exact h.endV he
    · cases hr
  · split at hr
    · cases hr; exact h
    · split at hr
      · cases hr; exact h
      · split at hr
        · cases hr
        · rename_i h0
          split at hr
          · cases hr
          · cases hr
            exact h.push (first_text s pos c hp hc (by omega))
theorem SemiOK.scan {s : ByteArray} : ∀ {b pos : Nat} {done : Int} {L L' : List Tk}, SemiOK L → scanFrom s b pos done L = .ok L' → SemiOK L'
  | 0, pos, done, L, L', h, hr => by
    rw [scanFrom] at hr
    split at hr
    · rename_i L2 he
      cases hr; exact h.endV he
    · cases hr
  | b + 1, pos, done, L, L', h, hr => by
    rw [scanFrom] at hr
    split at hr
    · rename_i hp
      split at hr
      · exact h.scan hr
      · split at hr
        · rename_i d L2 he
          exact (h.read hp rfl he).scan hr
        · cases hr
    · split at hr
      · rename_i L2 he
        cases hr; exact h.endV he
      · cases hr
theorem toks_semi {s : ByteArray} {L : List Tk} (h : toksV s = .ok L) : SemiOK L := by
  unfold toksV at h
  split at h
  · cases h
  · split at h
    · cases h
    · exact SemiOK.scan (fun i t ht => by simp at ht) h
end Go.Proofs.YtjpmgloofcgfnaaDoor
