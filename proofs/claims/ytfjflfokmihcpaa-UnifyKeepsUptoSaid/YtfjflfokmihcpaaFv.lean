/- Rows of types of bounded bulk as arguments. No program is walked here. -/
import Derived.Test.YtfjflfokmihcpaaFu
import Derived.Test.YtfjflfokmihcpaaCd
namespace Go.Proofs.Ytfjflfokmihcpaa
open Go.ChangeShapes Go.WideShapes Go.ChangeAt Go.RowKit
set_option linter.unusedVariables false
set_option linter.unusedSimpArgs false
theorem open_typesU {H : Type} {enc : TypeId × Value → H} {w : World} {base : Nat} {spare : Nat → Bool} {held : Bool} {r : Reach} {b0 : Nat} (N : Nat) {v : Value} {d : DataW H} {ps : List MemPlace} (hval : Value.okWide Try.prog w r b0 23 v) (hd : DataW.Trod enc Try.prog w base spare held 23 v d ps) (hw : ∀ q, q ∈ d.weights Try.prog 23 → q ≤ reachBytes) (hN : Rows.uptoBulk d ≤ N) :
    ∃ (ad : Option Addr) (c f : Nat) (As : List Ty) (K : Nat → Hd), v = .slice ad As.length c ∧ LiesAll w A0 f As ad c K ∧ As.length * 104 ≤ 140737488351232 ∧ ∀ (i : Nat) (X : Ty), As[i]? = some X → LiesF (3 * N) w f X (K i) := by
  obtain ⟨a, n, c, rfl⟩ := okWide_slice Try.underlying23 hval
  obtain ⟨fuel, hf⟩ := hd
  have hf' : DataW.trod enc Try.prog w base spare held fuel 23 [.slice a n c] = some (d, ps) := hf
  obtain ⟨a', n', c', f, D, X, _, hs, hb, _, ht, he, hbu⟩ := open_tabU (t := 23) (e := 42) (m := 6) Try.underlying23 (by kernel_rfl) (by decide) hf' hw
  simp only [List.cons.injEq, Value.slice.injEq, and_true] at hs
  obtain ⟨rfl, rfl, rfl⟩ := hs
  have b9 : Try.prog.bytesOf 42 = 104 := by kernel_rfl
  rw [b9, reach_is] at hb
  have h1 : ∀ i, i < n → ∃ z : Ty × Hd, D i = z.2.cells ∧ LiesF (3 * N) w f z.1 z.2 := by
    intro i hi
    obtain ⟨_, htr, hq⟩ := he i hi
    obtain ⟨T, hd, hcs, hli⟩ := open_tyU N f _ _ htr hq (by have h9 : Rows.uptoBulk (X i).1 ≤ ((List.range n).map fun i => Rows.uptoBulk (X i).1).sum := le_sum (f := fun i => Rows.uptoBulk (X i).1) hi; simp only at hbu; omega)
    exact ⟨(T, hd), hcs, hli⟩
  have d0 : Hd := ⟨0, .empty, 0, none, 0, 0, none, 0, 0, none, 0, 0⟩
  obtain ⟨F, hF⟩ := choose_to ((.mk 0 ⟨#[]⟩ 0 [] 0 [] : Ty), d0) h1
  have hln : ((List.range n).map fun i => (F i).1).length = n := by simp
  have hel : ∀ (i : Nat) (X : Ty), ((List.range n).map fun i => (F i).1)[i]? = some X → LiesF (3 * N) w f X (F i).2 := fun i X hX => by
    rw [List.getElem?_map] at hX
    by_cases hi : i < n
    · rw [List.getElem?_range hi] at hX
      simp at hX; subst hX
      exact (hF i hi).2
    · rw [List.getElem?_eq_none (by simp; omega)] at hX; cases hX
  refine ⟨a, c, f, (List.range n).map fun i => (F i).1, fun i => (F i).2, by rw [hln], ⟨?_, fun i X hX => (hel i X hX).lies⟩, by rw [hln]; exact hb, hel⟩
  rw [hln]
  exact ht.congr (fun i hi => (hF i hi).1)
end Go.Proofs.Ytfjflfokmihcpaa
