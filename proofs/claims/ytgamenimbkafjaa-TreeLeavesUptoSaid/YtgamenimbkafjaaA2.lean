/- The words of the language: Word of package scan and of the reference; lists of texts. No condition. -/
import Derived.Test.YtgamenimbkafjaaA1
import Derived.Laws.EntriesVeiled
namespace Go.Proofs.Ytgamenimbkafjaa
open Go.RowKit
set_option linter.unusedVariables false
set_option linter.unusedSimpArgs false

/-- The words of the language. -/
def wordsL : List ByteArray := [⟨#[102, 117, 110, 99]⟩, ⟨#[116, 121, 112, 101]⟩, ⟨#[115, 116, 114, 117, 99, 116]⟩, ⟨#[105, 102]⟩, ⟨#[101, 108, 115, 101]⟩, ⟨#[102, 111, 114]⟩, ⟨#[98, 114, 101, 97, 107]⟩, ⟨#[99, 111, 110, 116, 105, 110, 117, 101]⟩, ⟨#[114, 101, 116, 117, 114, 110]⟩, ⟨#[103, 111]⟩, ⟨#[100, 101, 102, 101, 114]⟩, ⟨#[115, 101, 108, 101, 99, 116]⟩, ⟨#[99, 97, 115, 101]⟩, ⟨#[100, 101, 102, 97, 117, 108, 116]⟩, ⟨#[99, 104, 97, 110]⟩, ⟨#[118, 97, 114]⟩, ⟨#[116, 114, 117, 101]⟩, ⟨#[102, 97, 108, 115, 101]⟩]
/-- Does the text stand in the list? -/
noncomputable def inB (L : List ByteArray) (s : ByteArray) : Bool := @decide (s ∈ L) (Classical.propDecidable _)
theorem inB_yes {L : List ByteArray} {s : ByteArray} (h : s ∈ L) : inB L s = true := by unfold inB; exact @decide_eq_true _ (Classical.propDecidable _) h
theorem inB_no {L : List ByteArray} {s : ByteArray} (h : s ∉ L) : inB L s = false := by unfold inB; exact @decide_eq_false _ (Classical.propDecidable _) h
def fnS (L : List ByteArray) (i : Nat) : ByteArray := L.getD i ByteArray.empty
theorem inB_at {L : List ByteArray} {s : ByteArray} {n : Nat} (hn : n < L.length) (h : fnS L n = s) : inB L s = true := inB_yes (by
  rw [← h]; unfold fnS
  rw [List.getD_eq_getElem?_getD, List.getElem?_eq_getElem hn]
  exact List.getElem_mem _)
theorem inB_none {L : List ByteArray} {s : ByteArray} (h : ∀ i, i < L.length → fnS L i ≠ s) : inB L s = false := inB_no fun hm => by
  obtain ⟨i, hi, e⟩ := List.getElem_of_mem hm
  exact h i hi (by unfold fnS; rw [List.getD_eq_getElem?_getD, List.getElem?_eq_getElem hi]; exact e)
theorem same_or (a b : ByteArray) : (a = b ∧ (a.toList == b.toList) = true) ∨ (a ≠ b ∧ (a.toList == b.toList) = false) := by
  by_cases h : a = b
  · exact .inl ⟨h, by rw [h]; exact beq_self_eq_true _⟩
  · refine .inr ⟨h, beq_eq_false_iff_ne.2 (fun e => h ?_)⟩
    obtain ⟨a⟩ := a
    obtain ⟨b⟩ := b
    rw [ByteArray.toList_eq, ByteArray.toList_eq] at e
    congr
    exact Array.toList_inj.1 e
theorem ne_lit {a b : ByteArray} (h : a ≠ b) : (a.toList == b.toList) = false := by
  rcases same_or a b with ⟨e, _⟩ | ⟨_, e⟩
  · exact absurd e h
  · exact e
theorem toL (l : List UInt8) : (⟨l.toArray⟩ : ByteArray).toList = l := by rw [ByteArray.toList_eq]
theorem ne_list {a : ByteArray} {l : List UInt8} (h : a ≠ ⟨l.toArray⟩) : (a.toList == l) = false := by
  have := ne_lit h
  rwa [toL l] at this
set_option maxHeartbeats 3200000 in
set_option maxRecDepth 100000 in
theorem c_Word (s : ByteArray) (w : World) : Calls Try.prog 71 #[.string s] w fun e w' => e = .returned (.bool (inB wordsL s)) ∧ w = w' := by
  by_cases hm : s ∈ wordsL
  · rw [show inB wordsL s = true from inB_yes hm]
    simp only [wordsL, List.mem_cons, List.not_mem_nil, or_false] at hm
    rcases hm with rfl | rfl | rfl | rfl | rfl | rfl | rfl | rfl | rfl | rfl | rfl | rfl | rfl | rfl | rfl | rfl | rfl | rfl <;> (go_enter Try.func71, Try.ntmps71; go_wp2; go_ret; exact ⟨rfl, rfl⟩)
  · rw [show inB wordsL s = false from inB_no hm]
    simp only [wordsL, List.mem_cons, List.not_mem_nil, or_false, not_or] at hm
    obtain ⟨n0, n1, n2, n3, n4, n5, n6, n7, n8, n9, n10, n11, n12, n13, n14, n15, n16, n17⟩ := hm
    have e0 : (s.toList == [102, 117, 110, 99]) = false := ne_list n0
    have e1 : (s.toList == [116, 121, 112, 101]) = false := ne_list n1
    have e2 : (s.toList == [115, 116, 114, 117, 99, 116]) = false := ne_list n2
    have e3 : (s.toList == [105, 102]) = false := ne_list n3
    have e4 : (s.toList == [101, 108, 115, 101]) = false := ne_list n4
    have e5 : (s.toList == [102, 111, 114]) = false := ne_list n5
    have e6 : (s.toList == [98, 114, 101, 97, 107]) = false := ne_list n6
    have e7 : (s.toList == [99, 111, 110, 116, 105, 110, 117, 101]) = false := ne_list n7
    have e8 : (s.toList == [114, 101, 116, 117, 114, 110]) = false := ne_list n8
    have e9 : (s.toList == [103, 111]) = false := ne_list n9
    have e10 : (s.toList == [100, 101, 102, 101, 114]) = false := ne_list n10
    have e11 : (s.toList == [115, 101, 108, 101, 99, 116]) = false := ne_list n11
    have e12 : (s.toList == [99, 97, 115, 101]) = false := ne_list n12
    have e13 : (s.toList == [100, 101, 102, 97, 117, 108, 116]) = false := ne_list n13
    have e14 : (s.toList == [99, 104, 97, 110]) = false := ne_list n14
    have e15 : (s.toList == [118, 97, 114]) = false := ne_list n15
    have e16 : (s.toList == [116, 114, 117, 101]) = false := ne_list n16
    have e17 : (s.toList == [102, 97, 108, 115, 101]) = false := ne_list n17
    clear n0 n1 n2 n3 n4 n5 n6 n7 n8 n9 n10 n11 n12 n13 n14 n15 n16 n17
    go_enter Try.func71, Try.ntmps71
    go_wp2
    go_ret
    exact ⟨rfl, rfl⟩
end Go.Proofs.Ytgamenimbkafjaa
