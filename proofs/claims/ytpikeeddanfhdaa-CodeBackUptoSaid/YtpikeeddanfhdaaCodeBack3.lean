/- CodeBack. Condition: the module and the bytes lie in memory, and are of no more than a million numbers or so. -/
import Derived.Test.YtpikeeddanfhdaaCodeBack1
import Derived.Test.YtpikeeddanfhdaaCodeBack2
namespace Go.Proofs.Ytpikeeddanfhdaa
open Go.RowKit
set_option linter.unusedVariables false
set_option linter.unusedSimpArgs false
theorem law_CodeBack (m : Mo) (v1 v2 : Value) (b : List UInt8) (vb : Value) (cut : Int) (w : World) (hx : LM w A0 m [v1, v2]) (hy : BL w A0 b vb) (hc : 0 ≤ cut ∧ cut ≤ 65535) (hz : (itMo m).length ≤ 1048576) (hzb : b.length ≤ 1048576) :
    Calls Try.prog 6 #[.agg #[v1, v2], vb, .int .u16 cut] w fun e w' => e = .returned (.bool true) ∧ Kp w w' := by
  obtain ⟨ab, cb, _, rfl, _⟩ := id hy
  have ho := okM_of hx
  by_cases he : (encR m).2 = 0
  · have hml := (enc_ser ho he).2
    have hp := enc_pos ho he
    have hdm := enc_more ho he
    have hrem : Int.tmod cut ((encR m).1.length : Int) = ((cut.toNat % (encR m).1.length : Nat) : Int) := by
      rw [Int.tmod_eq_emod_of_nonneg hc.1]
      have : cut = (cut.toNat : Int) := (Int.toNat_of_nonneg hc.1).symm
      rw [this, Int.toNat_natCast, Int.natCast_emod]
    have hKl := Nat.mod_lt cut.toNat (Nat.pos_of_ne_zero hp)
    by_cases hlt : (encR m).1.length < 1048576
    · rw [if_pos hlt] at hdm
      by_cases hd : (decR b).2.2 = 0
      · exact back_ly m v1 v2 b ab cb cut w hx hy hz hzb he hml ho _ hc.1 (by omega) hrem hKl hdm hlt hd
      · exact back_ln m v1 v2 b ab cb cut w hx hy hz hzb he hml ho _ hc.1 (by omega) hrem hKl hdm hlt _ rfl hd
    · rw [if_neg hlt] at hdm
      by_cases hd : (decR b).2.2 = 0
      · exact back_gy m v1 v2 b ab cb cut w hx hy hz hzb he hml ho _ hc.1 (by omega) hrem hKl hdm hlt hd
      · exact back_gn m v1 v2 b ab cb cut w hx hy hz hzb he hml ho _ hc.1 (by omega) hrem hKl hdm hlt _ rfl hd
  · by_cases hd : (decR b).2.2 = 0
    · exact back_ny m v1 v2 b ab cb cut w hx hy hz hzb _ rfl he hd
    · exact back_nn m v1 v2 b ab cb cut w hx hy hz hzb _ rfl he _ rfl hd
end Go.Proofs.Ytpikeeddanfhdaa
