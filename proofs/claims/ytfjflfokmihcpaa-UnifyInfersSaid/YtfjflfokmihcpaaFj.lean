/- An argument that is a slice of texts, and one that is a slice of types, reads as a list that lies in memory. Condition: each string and each slice takes at most 2 to the 47 less 4096 bytes. -/
import Derived.Test.YtfjflfokmihcpaaB
import Derived.WalkKit
import Derived.ProofKit
import Derived.OpenShut
namespace Go.Proofs.Ytfjflfokmihcpaa
open Go.ChangeShapes Go.WideShapes Go.ChangeAt Go.RowKit
set_option linter.unusedVariables false
set_option linter.unusedSimpArgs false
section
variable {H : Type} {enc : TypeId × Value → H} {w : World} {base : Nat} {spare : Nat → Bool} {held : Bool} {r : Reach} {b0 : Nat}
theorem slice_le {t e : TypeId} {fuel : Nat} {a : Option Addr} {n c : Nat} {x : DataW H × List MemPlace} (ht : Try.prog.underlying t = some (.slice e)) (h : DataW.trod enc Try.prog w base spare held fuel t [.slice a n c] = some x) : n ≤ c := by
  rcases DataW.trod_slice ht h with ⟨h1, _⟩ | ⟨a', n', c', elems, rest, f, _, h1, _, _, hl, _⟩
  · simp only [List.cons.injEq, Value.slice.injEq, and_true] at h1
    omega
  · simp only [List.cons.injEq, Value.slice.injEq, and_true] at h1
    obtain ⟨_, rfl, rfl⟩ := h1
    exact hl
theorem open_names {v : Value} {d : DataW H} {ps : List MemPlace} (hval : Value.okWide Try.prog w r b0 22 v) (hd : DataW.Trod enc Try.prog w base spare held 22 v d ps) (hw : ∀ q, q ∈ d.weights Try.prog 22 → q ≤ reachBytes) :
    ∃ (ad : Option Addr) (c : Nat) (L : List ByteArray), v = .slice ad L.length c ∧ L.length ≤ c ∧ tab w A0 9 ad L.length c 1 (fun i => [.string (L.getD i ByteArray.empty)]) ∧ (∀ s, s ∈ L → s.size ≤ 140737488351232) ∧ L.length * 16 ≤ 140737488351232 := by
  obtain ⟨a, n, c, rfl⟩ := okWide_slice Try.underlying22 hval
  obtain ⟨fuel, hf⟩ := hd
  have hf' : DataW.trod enc Try.prog w base spare held fuel 22 [.slice a n c] = some (d, ps) := hf
  have hle := slice_le Try.underlying22 hf'
  obtain ⟨a', n', c', f, D, X, _, hs, hb, ht, he⟩ := open_tab (t := 22) (e := 9) (m := 1) Try.underlying22 (by kernel_rfl) (by decide) hf' hw
  simp only [List.cons.injEq, Value.slice.injEq, and_true] at hs
  obtain ⟨rfl, rfl, rfl⟩ := hs
  have b9 : Try.prog.bytesOf 9 = 16 := by kernel_rfl
  rw [b9, reach_is] at hb
  have h1 : ∀ i, i < n → ∃ s : ByteArray, D i = [.string s] ∧ s.size ≤ 140737488351232 := by
    intro i hi
    obtain ⟨hl, htr, hq⟩ := he i hi
    match hD : D i, hl with
    | [c0], _ =>
      rw [hD] at htr
      obtain ⟨s, hs, hx, _⟩ := DataW.trod_string Try.underlying9 htr
      refine ⟨s, hs, ?_⟩
      have h9 := hq s.size (by rw [hx]; simp [DataW.weights])
      rwa [reach_is] at h9
  obtain ⟨F, hF⟩ := choose_to ByteArray.empty h1
  have hln : ((List.range n).map F).length = n := by simp
  have hat : ∀ i, i < n → ((List.range n).map F).getD i ByteArray.empty = F i := by
    intro i hi
    rw [List.getD_eq_getElem?_getD, List.getElem?_map, List.getElem?_range hi]; rfl
  refine ⟨a, c, (List.range n).map F, by rw [hln], by rw [hln]; exact hle, ?_, ?_, by rw [hln]; exact hb⟩
  · rw [hln]
    exact ht.congr (fun i hi => by rw [(hF i hi).1, hat i hi])
  · intro s hs
    obtain ⟨i, hi, rfl⟩ := List.mem_map.1 hs
    exact (hF i (by simpa using hi)).2
theorem open_types {v : Value} {d : DataW H} {ps : List MemPlace} (hval : Value.okWide Try.prog w r b0 23 v) (hd : DataW.Trod enc Try.prog w base spare held 23 v d ps) (hw : ∀ q, q ∈ d.weights Try.prog 23 → q ≤ reachBytes) :
    ∃ (ad : Option Addr) (c f : Nat) (As : List Ty) (K : Nat → Hd), v = .slice ad As.length c ∧ LiesAll w A0 f As ad c K ∧ As.length * 104 ≤ 140737488351232 := by
  obtain ⟨a, n, c, rfl⟩ := okWide_slice Try.underlying23 hval
  obtain ⟨fuel, hf⟩ := hd
  have hf' : DataW.trod enc Try.prog w base spare held fuel 23 [.slice a n c] = some (d, ps) := hf
  obtain ⟨a', n', c', f, D, X, _, hs, hb, ht, he⟩ := open_tab (t := 23) (e := 42) (m := 6) Try.underlying23 (by kernel_rfl) (by decide) hf' hw
  simp only [List.cons.injEq, Value.slice.injEq, and_true] at hs
  obtain ⟨rfl, rfl, rfl⟩ := hs
  have b9 : Try.prog.bytesOf 42 = 104 := by kernel_rfl
  rw [b9, reach_is] at hb
  have h1 : ∀ i, i < n → ∃ z : Ty × Hd, D i = z.2.cells ∧ Lies w A0 f z.1 z.2 := by
    intro i hi
    obtain ⟨_, htr, hq⟩ := he i hi
    obtain ⟨T, hd, hcs, hli⟩ := open_ty f _ _ htr hq
    exact ⟨(T, hd), hcs, hli⟩
  have d0 : Hd := ⟨0, .empty, 0, none, 0, 0, none, 0, 0, none, 0, 0⟩
  obtain ⟨F, hF⟩ := choose_to ((.mk 0 ⟨#[]⟩ 0 [] 0 [] : Ty), d0) h1
  have hln : ((List.range n).map fun i => (F i).1).length = n := by simp
  refine ⟨a, c, f, (List.range n).map fun i => (F i).1, fun i => (F i).2, by rw [hln], ⟨?_, ?_⟩, by rw [hln]; exact hb⟩
  · rw [hln]
    exact ht.congr (fun i hi => (hF i hi).1)
  · intro i X hX
    rw [List.getElem?_map] at hX
    by_cases hi : i < n
    · rw [List.getElem?_range hi] at hX
      simp at hX; subst hX
      exact (hF i hi).2
    · rw [List.getElem?_eq_none (by simp; omega)] at hX; cases hX
end
end Go.Proofs.Ytfjflfokmihcpaa
