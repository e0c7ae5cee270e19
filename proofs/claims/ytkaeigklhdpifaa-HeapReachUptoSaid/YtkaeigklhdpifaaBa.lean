/- A call of the laws, and how it lies in memory. No condition; no program is walked here. -/
import Derived.Test.YtkaeigklhdpifaaM0
import Derived.Test.YtkaeigklhdpifaaT1
namespace Go.Proofs.Ytkaeigklhdpifaa
open Go.RowKit
set_option linter.unusedVariables false
set_option linter.unusedSimpArgs false
/-- A call: what is called, and with what. -/
structure Ac where
  k : Int
  o : Int
  i : Int
  n : Int
  refs : List Bool
  roots : List Int
structure AcOk (a : Ac) : Prop where
  k : i64 a.k
  o : i64 a.o
  i : i64 a.i
  n : 0 ≤ a.n ∧ a.n ≤ 18446744073709551615
/-- How a call lies in memory. -/
def LA : Ly Ac := fun w B x cs => ∃ vr vl, cs = [.int .i64 x.k, .int .i64 x.o, .int .i64 x.i, .int .u64 x.n, vr, vl] ∧ AcOk x ∧ BoL w B x.refs vr ∧ IL w B x.roots vl
theorem goodA : Good 6 LA := by
  refine ⟨fun {w B x cs} h => ?_, fun {N w w' B x cs} h hk hs hN => ?_, fun {w B B' x cs} h hB => ?_, fun {w B x cs n} h hn => ?_⟩
  · obtain ⟨vr, vl, rfl, _, h1, h2⟩ := h
    refine ⟨rfl, fun u hu => ?_⟩
    simp at hu
    rcases hu with rfl | rfl | rfl | rfl | rfl | rfl
    · rfl
    · rfl
    · rfl
    · rfl
    · exact h1.one
    · exact h2.one
  · obtain ⟨vr, vl, rfl, h0, h1, h2⟩ := h
    exact ⟨vr, vl, rfl, h0, h1.turn goodBo hk hs hN, h2.turn goodI hk hs hN⟩
  · obtain ⟨vr, vl, rfl, h0, h1, h2⟩ := h
    exact ⟨vr, vl, rfl, h0, h1.weak goodBo hB, h2.weak goodI hB⟩
  · obtain ⟨vr, vl, rfl, h0, h1, h2⟩ := h
    exact ⟨vr, vl, rfl, h0, RL.below goodBo h1 hn, RL.below goodI h2 hn⟩
abbrev AL := RL 35 6 80 LA
end Go.Proofs.Ytkaeigklhdpifaa
