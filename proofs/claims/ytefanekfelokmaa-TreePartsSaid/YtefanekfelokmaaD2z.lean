/- The walk of TreeParts, whole. Condition: the node lies in memory. -/
import Derived.Test.YtefanekfelokmaaD2p
import Derived.Test.YtefanekfelokmaaD2s
import Derived.Test.YtefanekfelokmaaD2e
namespace Go.Proofs.Ytefanekfelokmaa
open Go.RowKit
set_option linter.unusedVariables false
set_option linter.unusedSimpArgs false
theorem law_TreeParts (R : Nat) (T : Nd) (h : Hn) (w : World) (hl : Lies w A0 R T h) :
    Calls Try.prog 8 #[h.val] w fun e w' => e = .returned (.bool true) ∧ Kp w w' := by
  cases R with
  | zero => exact hl.elim
  | succ r =>
    have hl' := hl
    obtain ⟨K, t, hh⟩ := hl'
    cases e1 : (inK [1] T.k && okL (flatN (r + 1) 0 T)) with
    | true => exact parts_prog r T h K w t hh (by rw [Bool.and_eq_true] at e1; exact e1.2) (soundV_0 e1)
    | false =>
      cases e2 : (stK T.k && okL (flatN (r + 1) 0 T)) with
      | true => exact parts_st r T h K w t hh (by rw [Bool.and_eq_true] at e2; exact e2.2) (soundV_1 e1) (soundV_0 e2)
      | false =>
        cases e3 : (exK T.k && okL (flatN (r + 1) 0 T)) with
        | true => exact parts_ex r T h K w t hh (by rw [Bool.and_eq_true] at e3; exact e3.2) (soundV_1 e1) (soundV_1 e2) (soundV_0 e3)
        | false => exact parts_no (r + 1) T h w hl (soundV_1 e1) (soundV_1 e2) (soundV_1 e3)
end Go.Proofs.Ytefanekfelokmaa
