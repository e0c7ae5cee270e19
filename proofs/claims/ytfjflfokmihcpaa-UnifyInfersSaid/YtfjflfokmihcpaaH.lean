/- The text of a type, as a plain function; word of package types. Condition: the type is sound. -/
import Derived.Test.YtfjflfokmihcpaaT10
import Derived.Lib.Hide
import Derived.Handy
namespace Go.Proofs.Ytfjflfokmihcpaa
open Go.RowKit
set_option linter.unusedVariables false
set_option linter.unusedSimpArgs false

theorem lookAll_each {f : Ty → Nat × Nat × Bool} : ∀ {l : List Ty} {d c : Nat} {x : Nat × Nat}, lookAll f l d c = some x → ∀ X ∈ l, (f X).2.2 = true
  | [], _, _, _, _, X, hX => by cases hX
  | T :: l, d, c, x, h, X, hX => by
    rw [lookAll] at h
    split at h
    · rename_i ho
      rcases List.mem_cons.1 hX with rfl | hX
      · exact ho
      · exact lookAll_each h X hX
    · cases h
/-- A sound type's head is as it must be, and the types in it are sound. -/
theorem look_parts {r : Nat} {T : Ty} (h : (look (r + 1) T).2.2 = true) : fmT T = true ∧ ∀ (i : Nat) (X : Ty), T.kids[i]? = some X → (look r X).2.2 = true := by
  rw [look_succ] at h
  split at h
  · rename_i hf
    refine ⟨hf, fun i X hX => ?_⟩
    cases hl : lookAll (look r) T.kids 0 0 with
    | none => rw [hl] at h; cases h
    | some x => exact lookAll_each hl X (List.mem_of_getElem? hX)
  · cases h
/-- What a head that is as it must be says, by kind. -/
theorem fm_k {h : Hd} {fn : List ByteArray} (hf : fm h fn = true) : 1 ≤ h.k ∧ h.k ≤ 12 := by
  unfold fm at hf
  split at hf
  · omega
  · split at hf
    · omega
    · split at hf
      · omega
      · split at hf
        · omega
        · simp at hf; omega
theorem fm_9 {h : Hd} {fn : List ByteArray} (hf : fm h fn = true) (hk : h.k = 9 ∨ h.k = 10) : h.fl = 0 ∧ h.ll = 1 ∧ h.rl = 0 := by
  unfold fm at hf
  rw [if_neg (by omega), if_pos hk] at hf
  simp [bareB] at hf
  omega
theorem fm_11 {h : Hd} {fn : List ByteArray} (hf : fm h fn = true) (hk : h.k = 11) : h.fl = 0 ∧ h.ll ≤ 16 ∧ h.rl ≤ 1 := by
  unfold fm at hf
  rw [if_neg (by omega), if_neg (by omega), if_pos hk] at hf
  simp [bareB] at hf
  omega
theorem nmB_few {s : ByteArray} (h : nmB s = true) : s.size ≤ 64 := by
  unfold nmB at h
  simp at h
  omega
theorem fm_nm {h : Hd} {fn : List ByteArray} (hf : fm h fn = true) (hk : h.k = 8 ∨ h.k = 12) : h.nm.size ≤ 64 := by
  unfold fm at hf
  rcases hk with hk | hk
  · rw [if_pos hk] at hf
    simp at hf
    exact nmB_few hf.2.1.2
  · rw [if_neg (by omega), if_neg (by omega), if_neg (by omega), if_pos hk] at hf
    simp at hf
    exact nmB_few hf.1.2

/-- The text of a kind that is neither named nor made of others. -/
def wordL (k : Int) : List UInt8 :=
  if k = 1 then [98, 111, 111, 108] else if k = 2 then [105, 110, 116, 56] else if k = 3 then [117, 105, 110, 116, 56] else if k = 4 then [105, 110, 116, 51, 50]
  else if k = 5 then [117, 105, 110, 116, 51, 50] else if k = 6 then [105, 110, 116, 54, 52] else [117, 105, 110, 116, 54, 52]
/-- Texts of some types, a comma and a blank between them; of the first n. -/
def listL (f : Ty → List UInt8) (l : List Ty) : Nat → List UInt8
  | 0 => []
  | n + 1 => listL f l n ++ (if 0 < n then [44, 32] else []) ++ (match l[n]? with | some X => f X | none => [])
/-- .. each with a blank ahead of it. -/
def resL (f : Ty → List UInt8) (l : List Ty) : Nat → List UInt8
  | 0 => []
  | n + 1 => resL f l n ++ [32] ++ (match l[n]? with | some X => f X | none => [])
/-- The text of a type of at most r - 1 types within one another. -/
def told : Nat → Ty → List UInt8
  | 0, _ => []
  | r + 1, T =>
    if T.k = 8 ∨ T.k = 12 then T.nm.data.toList
    else if T.k = 9 then [91, 93] ++ (match T.kids[0]? with | some X => told r X | none => [])
    else if T.k = 10 then [99, 104, 97, 110, 32] ++ (match T.kids[0]? with | some X => told r X | none => [])
    else if T.k = 11 then [102, 117, 110, 99, 40] ++ listL (told r) T.kids T.nl ++ [41] ++ resL (told r) (T.kids.drop T.nl) (T.kids.length - T.nl)
    else wordL T.k
theorem wordL_len (k : Int) : (wordL k).length ≤ 6 := by
  unfold wordL
  repeat' split
  all_goals decide
theorem listL_len {f : Ty → List UInt8} {l : List Ty} {b : Nat} (hf : ∀ X ∈ l, (f X).length ≤ b) : ∀ n, (listL f l n).length ≤ n * (b + 2)
  | 0 => by simp [listL]
  | n + 1 => by
    have ih := listL_len hf n
    rw [listL]
    have h1 : (match l[n]? with | some X => f X | none => []).length ≤ b := by
      split
      · rename_i X hX; exact hf X (List.mem_of_getElem? hX)
      · simp
    have h2 : (if 0 < n then [44, 32] else ([] : List UInt8)).length ≤ 2 := by split <;> simp
    simp only [List.length_append]
    rw [Nat.add_mul]
    omega
theorem resL_len {f : Ty → List UInt8} {l : List Ty} {b : Nat} (hf : ∀ X ∈ l, (f X).length ≤ b) : ∀ n, (resL f l n).length ≤ n * (b + 2)
  | 0 => by simp [resL]
  | n + 1 => by
    have ih := resL_len hf n
    rw [resL]
    have h1 : (match l[n]? with | some X => f X | none => []).length ≤ b := by
      split
      · rename_i X hX; exact hf X (List.mem_of_getElem? hX)
      · simp
    simp only [List.length_append, List.length_cons, List.length_nil]
    rw [Nat.add_mul]
    omega
/-- How long a text can be. -/
def LB : Nat → Nat
  | 0 => 0
  | r + 1 => 17 * (LB r + 2) + 70
theorem told_len : ∀ {r : Nat} {T : Ty}, (look r T).2.2 = true → (told r T).length ≤ LB r
  | 0, T, h => by simp [told]
  | r + 1, T, h => by
    obtain ⟨hf, hk⟩ := look_parts h
    have hb : ∀ X ∈ T.kids, (told r X).length ≤ LB r := fun X hX => by
      obtain ⟨i, hi, e⟩ := List.getElem_of_mem hX
      exact told_len (hk i X (by rw [List.getElem?_eq_getElem hi, e]))
    have h0 : (match T.kids[0]? with | some X => told r X | none => []).length ≤ LB r := by
      split
      · rename_i X hX; exact hb X (List.mem_of_getElem? hX)
      · simp
    unfold told LB
    split
    · rename_i hk8
      have := fm_nm (h := hdOf T) hf hk8
      have e : T.nm.data.toList.length = T.nm.size := Array.length_toList
      rw [e]
      have : T.nm.size ≤ 64 := this
      omega
    · split
      · simp only [List.length_append, List.length_cons, List.length_nil]; omega
      · split
        · simp only [List.length_append, List.length_cons, List.length_nil]; omega
        · split
          · rename_i hk11
            have h11 := fm_11 (h := hdOf T) hf hk11
            have h1 := listL_len hb T.nl
            have h2 := resL_len (l := T.kids.drop T.nl) (fun X hX => hb X (List.mem_of_mem_drop hX)) (T.kids.length - T.nl)
            have e1 : T.fn.length = 0 := h11.1
            have e2 : T.nl ≤ 16 := h11.2.1
            have e3 : T.kids.length - T.fn.length - T.nl ≤ 1 := h11.2.2
            have e4 : T.kids.length - T.nl ≤ 1 := by omega
            have m1 : T.nl * (LB r + 2) ≤ 16 * (LB r + 2) := Nat.mul_le_mul_right _ e2
            have m2 : (T.kids.length - T.nl) * (LB r + 2) ≤ 1 * (LB r + 2) := Nat.mul_le_mul_right _ e4
            simp only [List.length_append, List.length_cons, List.length_nil]
            omega
          · have := wordL_len T.k; omega
theorem LB_9 : LB 9 ≤ 140737488355328 := by decide
end Go.Proofs.Ytfjflfokmihcpaa
