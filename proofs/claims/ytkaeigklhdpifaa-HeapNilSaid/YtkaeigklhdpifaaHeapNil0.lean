/- The walk of HeapNil. No condition. -/
import Derived.Test.YtkaeigklhdpifaaN1
import Derived.Test.YtkaeigklhdpifaaA8
namespace Go.Proofs.Ytkaeigklhdpifaa
open Go.RowKit Go.Maps Go.Sort
set_option linter.unusedVariables false
set_option linter.unusedSimpArgs false
set_option maxHeartbeats 2000000 in
set_option maxRecDepth 100000 in
theorem law_HeapNil (w : World) : Calls Try.prog 8 #[] w fun e w' => e = .returned (.bool true) ∧ Kp w w' := by
  go_enter Try.func8, Try.ntmps8
  go_wp2_with (first
    | (go_at_call 18; (with_reducible refine (c_AllocN _ _ w).mono ?_); rintro e w' ⟨rfl, hw'⟩; rw [hw']; clear hw' w')
    | (go_at_call 22; (with_reducible refine (c_GetN _ _ w).mono ?_); rintro e w' ⟨rfl, hw'⟩; rw [hw']; clear hw' w')
    | (go_at_call 21; (with_reducible refine (c_LenN _ w).mono ?_); rintro e w' ⟨rfl, hw'⟩; rw [hw']; clear hw' w')
    | (go_at_call 23; (with_reducible refine (c_CollectN _ w).mono ?_); rintro e w' ⟨rfl, hw'⟩; rw [hw']; clear hw' w')
    | (go_at_call 26; (with_reducible refine (c_ReachN _ w).mono ?_); rintro e w' ⟨rfl, hw'⟩; rw [hw']; clear hw' w')
    | (go_at_call 24; (with_reducible refine (c_namesN w).mono ?_); rintro e w1 ⟨u, rfl, h1, h2⟩; obtain ⟨au, cu, rfl⟩ := h1.sl; have K1 := Lib.hid h2; clear h1 h2)
    | (go_at_call 12; (with_reducible refine (c_answers w1).mono ?_); rintro e w2 ⟨rfl, h2⟩; have K2 := Lib.hid h2; clear h2)
    | (go_at_call 28; (with_reducible refine (c_SetN _ _ _ w2).mono ?_); rintro e w' ⟨rfl, hw'⟩; rw [hw']; clear hw' w')
    | (go_at_call 29; (with_reducible refine (c_UsedN w2).mono ?_); rintro e w' ⟨rfl, hw'⟩; rw [hw']; clear hw' w')
    | (go_at_call 13; (with_reducible refine (c_CopyN w2).mono ?_); rintro e w' ⟨rfl, hw'⟩; rw [hw']; clear hw' w'))
  go_ret
  exact ⟨rfl, K1.out.trans K2.out⟩
end Go.Proofs.Ytkaeigklhdpifaa
