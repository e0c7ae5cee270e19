/- How strong an operator binds in the reference. No condition. -/
import Derived.Test.YtefanekfelokmaaG1
namespace Go.Proofs.Ytefanekfelokmaa
open Go.RowKit
set_option linter.unusedVariables false
set_option linter.unusedSimpArgs false
abbrev ops2 : List ByteArray := [⟨#[42]⟩, ⟨#[47]⟩, ⟨#[37]⟩, ⟨#[60, 60]⟩, ⟨#[62, 62]⟩, ⟨#[38]⟩, ⟨#[38, 94]⟩, ⟨#[43]⟩, ⟨#[45]⟩, ⟨#[124]⟩, ⟨#[94]⟩, ⟨#[61, 61]⟩, ⟨#[33, 61]⟩, ⟨#[60]⟩, ⟨#[60, 61]⟩, ⟨#[62]⟩, ⟨#[62, 61]⟩, ⟨#[38, 38]⟩, ⟨#[124, 124]⟩]
set_option maxHeartbeats 12800000 in
set_option maxRecDepth 100000 in
theorem c_Strength (tx : ByteArray) (w : World) : Calls Try.prog 46 #[.string tx] w fun e w' => (∃ n : Int, e = .returned (.int .i64 n) ∧ decide (0 < n) = inB ops2 tx) ∧ w' = w := by
  by_cases hm : tx ∈ ops2
  · rw [inB_yes hm]
    simp only [ops2, List.mem_cons, List.not_mem_nil, or_false] at hm
    rcases hm with rfl | rfl | rfl | rfl | rfl | rfl | rfl | rfl | rfl | rfl | rfl | rfl | rfl | rfl | rfl | rfl | rfl | rfl | rfl <;> (go_enter Try.func46, Try.ntmps46; go_wp2; go_ret; exact ⟨⟨_, rfl, by decide⟩, rfl⟩)
  · rw [inB_no hm]
    simp only [ops2, List.mem_cons, List.not_mem_nil, or_false, not_or] at hm
    obtain ⟨n0, n1, n2, n3, n4, n5, n6, n7, n8, n9, n10, n11, n12, n13, n14, n15, n16, n17, n18⟩ := hm
    have e0 : (tx.toList == [42]) = false := ne_list n0
    have e1 : (tx.toList == [47]) = false := ne_list n1
    have e2 : (tx.toList == [37]) = false := ne_list n2
    have e3 : (tx.toList == [60, 60]) = false := ne_list n3
    have e4 : (tx.toList == [62, 62]) = false := ne_list n4
    have e5 : (tx.toList == [38]) = false := ne_list n5
    have e6 : (tx.toList == [38, 94]) = false := ne_list n6
    have e7 : (tx.toList == [43]) = false := ne_list n7
    have e8 : (tx.toList == [45]) = false := ne_list n8
    have e9 : (tx.toList == [124]) = false := ne_list n9
    have e10 : (tx.toList == [94]) = false := ne_list n10
    have e11 : (tx.toList == [61, 61]) = false := ne_list n11
    have e12 : (tx.toList == [33, 61]) = false := ne_list n12
    have e13 : (tx.toList == [60]) = false := ne_list n13
    have e14 : (tx.toList == [60, 61]) = false := ne_list n14
    have e15 : (tx.toList == [62]) = false := ne_list n15
    have e16 : (tx.toList == [62, 61]) = false := ne_list n16
    have e17 : (tx.toList == [38, 38]) = false := ne_list n17
    have e18 : (tx.toList == [124, 124]) = false := ne_list n18
    clear n0 n1 n2 n3 n4 n5 n6 n7 n8 n9 n10 n11 n12 n13 n14 n15 n16 n17 n18
    go_enter Try.func46, Try.ntmps46; go_wp2; go_ret; exact ⟨⟨_, rfl, by decide⟩, rfl⟩
end Go.Proofs.Ytefanekfelokmaa
