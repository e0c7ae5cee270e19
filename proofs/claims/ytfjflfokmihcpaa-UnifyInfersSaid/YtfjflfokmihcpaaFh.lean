/- texts and owns of the law, Twice of the reference. Condition: the names and the types lie in memory. -/
import Derived.Test.YtfjflfokmihcpaaFg3
import Derived.Test.YtfjflfokmihcpaaW
import Derived.Laws.AppendOwnNone
import Derived.Outline
namespace Go.Proofs.Ytfjflfokmihcpaa
open Go.RowKit
set_option linter.unusedVariables false
set_option linter.unusedSimpArgs false
set_option maxHeartbeats 1600000 in
theorem c_owns (r : Nat) (As : List Ty) (ad : Option Addr) (c : Nat) (K : Nat → Hd) (w : World) (hl : LiesAll w A0 r As ad c K) (hb : As.length * 104 ≤ 140737488351232) :
    Calls Try.prog 10 #[.slice ad As.length c] w (FillAllP r As w) := by
  have HL := Lib.hid hl
  clear hl
  go_enter Try.func10, Try.ntmps10
  go_wp2_with (first | (go_at_call 16; refine (c_FillAll0 r (fun T h w hl => c_Fill0 r T h w hl) As ad c K _ HL.out hb).mono ?_; rintro e w1 ⟨ad', c', K', rfl, h1, h2⟩))
  go_ret
  exact ⟨ad', c', K', rfl, h1, h2⟩
/-- Does a text come twice? -/
noncomputable def twiceB (L : List ByteArray) : Bool := @decide (¬ L.Nodup) (Classical.propDecidable _)
theorem twiceB_yes {L : List ByteArray} (h : ¬ L.Nodup) : twiceB L = true := by unfold twiceB; exact @decide_eq_true _ (Classical.propDecidable _) h
theorem twiceB_no {L : List ByteArray} (h : L.Nodup) : twiceB L = false := by unfold twiceB; exact @decide_eq_false _ (Classical.propDecidable _) (fun x => x h)
theorem nodup_drop : ∀ {L : List ByteArray}, (∀ i, i < L.length → L.getD i ByteArray.empty ∉ L.drop (i + 1)) → L.Nodup
  | [], _ => List.nodup_nil
  | n :: L, h => by
    rw [List.nodup_cons]
    refine ⟨by simpa using h 0 (by simp), nodup_drop (fun i hi => ?_)⟩
    have := h (i + 1) (by simp; omega)
    simpa using this
theorem drop_nodup : ∀ {L : List ByteArray}, L.Nodup → ∀ i, i < L.length → L.getD i ByteArray.empty ∉ L.drop (i + 1)
  | [], _, i, hi => by simp at hi
  | n :: L, h, 0, _ => by
    rw [List.nodup_cons] at h
    simpa using h.1
  | n :: L, h, i + 1, hi => by
    rw [List.nodup_cons] at h
    have := drop_nodup h.2 i (by simp at hi; omega)
    simpa using this
end Go.Proofs.Ytfjflfokmihcpaa
