/- What stands for names, by their places: idx, and which names come twice. No condition; no program is walked here. -/
import Derived.Test.YtfjflfokmihcpaaFp
namespace Go.Proofs.Ytfjflfokmihcpaa
open Go.RowKit
set_option linter.unusedVariables false
set_option linter.unusedSimpArgs false
/-- Where a text stands first in a list. -/
def idx : List ByteArray → ByteArray → Option Nat
  | [], _ => none
  | n :: L, s => if s = n then some 0 else (idx L s).map (· + 1)
theorem idx_none : ∀ {L : List ByteArray} {s : ByteArray}, s ∉ L → idx L s = none
  | [], _, _ => rfl
  | n :: L, s, h => by
    rw [idx, if_neg (fun e => h (by rw [e]; exact List.mem_cons_self ..)), idx_none (fun m => h (List.mem_cons_of_mem _ m))]
    rfl
theorem idx_mem : ∀ {L : List ByteArray} {s : ByteArray}, s ∈ L → ∃ j, idx L s = some j ∧ j < L.length
  | [], _, h => by cases h
  | n :: L, s, h => by
    rw [idx]
    by_cases e : s = n
    · exact ⟨0, if_pos e, by simp⟩
    · obtain ⟨j, h1, h2⟩ := idx_mem (L := L) (s := s) (by rcases List.mem_cons.1 h with h | h; exact absurd h e; exact h)
      exact ⟨j + 1, by rw [if_neg e, h1]; rfl, by simp; omega⟩
theorem idx_lt {L : List ByteArray} {s : ByteArray} {j : Nat} (h : idx L s = some j) : j < L.length := by
  by_cases hm : s ∈ L
  · obtain ⟨i, h1, h2⟩ := idx_mem hm
    rw [h] at h1
    cases h1
    exact h2
  · rw [idx_none hm] at h; cases h
theorem idx_snoc : ∀ {L : List ByteArray} {n s : ByteArray}, n ∉ L → idx (L ++ [n]) s = if s = n then some L.length else idx L s
  | [], n, s, _ => by
    show idx [n] s = _
    rw [idx]
    rfl
  | m :: L, n, s, h => by
    have hm : n ≠ m := fun e => h (by rw [e]; exact List.mem_cons_self ..)
    show idx (m :: (L ++ [n])) s = _
    rw [idx, idx]
    by_cases e : s = m
    · rw [if_pos e, if_neg (fun e2 => hm (e2.symm.trans e)), if_pos e]
    · rw [if_neg e, if_neg e, idx_snoc (fun x => h (List.mem_cons_of_mem _ x))]
      by_cases e2 : s = n
      · rw [if_pos e2, if_pos e2]; rfl
      · rw [if_neg e2, if_neg e2]
/-- What stands for a name. -/
def stand (L : List ByteArray) (As : List Ty) (s : ByteArray) : Option Ty := (idx L s).bind (fun j => As[j]?)
theorem take_nodup {L : List ByteArray} {i : Nat} (hi : i < L.length) : (L.take (i + 1)).Nodup ↔ (L.take i).Nodup ∧ L[i] ∉ L.take i := by
  rw [List.take_succ_eq_append_getElem hi, List.nodup_append]
  constructor
  · rintro ⟨h1, _, h2⟩
    exact ⟨h1, fun hm => h2 _ hm _ (List.mem_singleton.2 rfl) rfl⟩
  · rintro ⟨h1, h2⟩
    refine ⟨h1, by simp, fun a ha b hb e => ?_⟩
    rw [List.mem_singleton] at hb
    subst hb
    subst e
    exact h2 ha
theorem nodup_take {L : List ByteArray} (h : L.Nodup) (i : Nat) : (L.take i).Nodup := h.sublist (List.take_sublist i L)
end Go.Proofs.Ytfjflfokmihcpaa
