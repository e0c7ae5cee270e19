/- label and children of the reference, of any node; together they are what the program asks. Condition: the node lies in memory. -/
import Derived.Test.YtefanekfelokmaaG9
namespace Go.Proofs.Ytefanekfelokmaa
open Go.RowKit
set_option linter.unusedVariables false
set_option linter.unusedSimpArgs false
noncomputable def labB (k : Int) (tx : ByteArray) (n : Int) (ks : List Int) : Bool :=
  if k = 1 then bareB tx n else
  if k = 2 then namedB tx n else
  if k = 3 then namedB tx n else
  if k = 4 then bareB tx n else
  if k = 5 then namedB tx n else
  if k = 6 then bareB tx n else
  if k = 7 then bareB tx n else
  if k = 8 then nameB tx && decide (1 ≤ n ∧ n ≤ 3) else
  if k = 10 then namedB tx n else
  if k = 11 then bareB tx n else
  if k = 12 then bareB tx n else
  if k = 13 then eitherB tx n else
  if k = 20 then bareB tx n else
  if k = 21 then namedB tx n else
  if k = 22 then namedB tx n else
  if k = 23 then bareB tx n else
  if k = 24 then bareB tx n else
  if k = 25 then bareB tx n else
  if k = 26 then bareB tx n else
  if k = 27 then eitherB tx n else
  if k = 28 then bareB tx n else
  if k = 29 then eitherB tx n else
  if k = 30 then namedB tx n else
  if k = 31 then @decide (tx = ⟨#[]⟩) (Classical.propDecidable _) else
  if k = 32 then eitherB tx n else
  if k = 33 then lab33 tx n ks.length else
  if k = 34 then bareB tx n else
  if k = 35 then namedB tx n else
  if k = 36 then bareB tx n else
  if k = 37 then namedB tx n else
  if k = 38 then bareB tx n else
  if k = 39 then bareB tx n else
  if k = 40 then bareB tx n else
  if k = 41 then bareB tx n else
  if k = 42 then bareB tx n else
  if k = 43 then bareB tx n || namedB tx n else
  if k = 44 then bareB tx n else
  if k = 45 then bareB tx n else
  bareB tx n
noncomputable def kidsB (k : Int) (n : Int) (ks : List Int) : Bool :=
  if k = 1 then allB ks (inK [2, 3]) else
  if k = 2 then (allB ks (fun k => k == 5) && decide (ks.length ≤ 16)) else
  if k = 3 then (areB ks [(inK [4]), (inK [6]), (inK [7]), (inK [20])]) else
  if k = 4 then (allB ks (fun k => k == 8) && decide (ks.length ≤ 16)) else
  if k = 5 then (areB ks [tyK]) else
  if k = 6 then (allB ks (fun k => k == 5) && decide (ks.length ≤ 16)) else
  if k = 7 then (decide (ks.length = 0) || areB ks [tyK]) else
  if k = 8 then decide (ks.length = 0) else
  if k = 10 then decide (ks.length = 0) else
  if k = 11 then (areB ks [tyK]) else
  if k = 12 then (areB ks [tyK]) else
  if k = 13 then (allB ks (fun k => sortL k == 116) && (decide (n ≤ (ks.length : Int)) && decide ((ks.length : Int) ≤ 16 + n))) else
  if k = 20 then allB ks (fun k => sortL k == 115) else
  if k = 21 then (areB ks [exK]) else
  if k = 22 then (areB ks [tyK]) else
  if k = 23 then (areB ks [exK, exK] && inK [30, 35, 36] (ks.getD 0 0)) else
  if k = 24 then (areB ks [(inK [34])] || areB ks [(inK [39])]) else
  if k = 25 then (areB ks [exK, (inK [20])] || areB ks [exK, (inK [20]), (inK [20])] || areB ks [exK, (inK [20]), (inK [25])]) else
  if k = 26 then (areB ks [exK, (inK [20])]) else
  if k = 27 then decide (ks.length = 0) else
  if k = 28 then (decide (ks.length = 0) || areB ks [exK]) else
  if k = 29 then (areB ks [(inK [34])]) else
  if k = 30 then decide (ks.length = 0) else
  if k = 31 then decide (ks.length = 0) else
  if k = 32 then decide (ks.length = 0) else
  if k = 33 then (areB ks [exK] || areB ks [exK, exK]) else
  if k = 34 then (decide (1 ≤ ks.length ∧ ks.length ≤ 17) && allB ks (fun k => sortL k == 101)) else
  if k = 35 then (areB ks [exK]) else
  if k = 36 then kids36 ks ks.length else
  if k = 37 then (allB ks (fun k => sortL k == 101) && decide (ks.length ≤ 16)) else
  if k = 38 then (areB ks [(inK [6]), (inK [7]), (inK [20])]) else
  if k = 39 then (areB ks [exK]) else
  if k = 40 then (areB ks [tyK, exK]) else
  if k = 41 then (areB ks [exK, exK]) else
  if k = 42 then (allB ks (inK [43, 44, 45]) && decide (countD ks ≤ 1)) else
  if k = 43 then (areB ks [exK, (inK [20])]) else
  if k = 44 then (areB ks [exK, exK, (inK [20])]) else
  if k = 45 then (areB ks [(inK [20])]) else
  false
theorem labB_other {k : Int} (tx : ByteArray) (n : Int) (ks : List Int) (h : ∀ i ∈ [1, 2, 3, 4, 5, 6, 7, 8, 10, 11, 12, 13, 20, 21, 22, 23, 24, 25, 26, 27, 28, 29, 30, 31, 32, 33, 34, 35, 36, 37, 38, 39, 40, 41, 42, 43, 44, 45], k ≠ i) : labB k tx n ks = bareB tx n := by
  unfold labB
  repeat rw [if_neg (h _ (by simp))]
theorem kidsB_other {k : Int} (n : Int) (ks : List Int) (h : ∀ i ∈ [1, 2, 3, 4, 5, 6, 7, 8, 10, 11, 12, 13, 20, 21, 22, 23, 24, 25, 26, 27, 28, 29, 30, 31, 32, 33, 34, 35, 36, 37, 38, 39, 40, 41, 42, 43, 44, 45], k ≠ i) : kidsB k n ks = false := by
  unfold kidsB
  repeat rw [if_neg (h _ (by simp))]
theorem kind_cases (k : Int) : (∀ i ∈ [1, 2, 3, 4, 5, 6, 7, 8, 10, 11, 12, 13, 20, 21, 22, 23, 24, 25, 26, 27, 28, 29, 30, 31, 32, 33, 34, 35, 36, 37, 38, 39, 40, 41, 42, 43, 44, 45], k ≠ i) ∨ k ∈ [1, 2, 3, 4, 5, 6, 7, 8, 10, 11, 12, 13, 20, 21, 22, 23, 24, 25, 26, 27, 28, 29, 30, 31, 32, 33, 34, 35, 36, 37, 38, 39, 40, 41, 42, 43, 44, 45] := by
  by_cases ho : ∀ i ∈ [1, 2, 3, 4, 5, 6, 7, 8, 10, 11, 12, 13, 20, 21, 22, 23, 24, 25, 26, 27, 28, 29, 30, 31, 32, 33, 34, 35, 36, 37, 38, 39, 40, 41, 42, 43, 44, 45], k ≠ i
  · exact .inl ho
  · refine .inr (Classical.byContradiction fun hc => ho (fun i hi e => hc (e ▸ hi)))
theorem form_is (k : Int) (tx : ByteArray) (n : Int) (ks : List Int) : formB k tx n ks = (labB k tx n ks && kidsB k n ks) := by
  rcases kind_cases k with ho | hm
  · rw [formB_other tx n ks ho, kidsB_other n ks ho, Bool.and_false]
  · simp only [List.mem_cons, List.not_mem_nil, or_false] at hm
    rcases hm with rfl | rfl | rfl | rfl | rfl | rfl | rfl | rfl | rfl | rfl | rfl | rfl | rfl | rfl | rfl | rfl | rfl | rfl | rfl | rfl | rfl | rfl | rfl | rfl | rfl | rfl | rfl | rfl | rfl | rfl | rfl | rfl | rfl | rfl | rfl | rfl | rfl | rfl
    · exact eqk_1 tx n ks
    · exact eqk_2 tx n ks
    · exact eqk_3 tx n ks
    · exact eqk_4 tx n ks
    · exact eqk_5 tx n ks
    · exact eqk_6 tx n ks
    · exact eqk_7 tx n ks
    · exact eqk_8 tx n ks
    · exact eqk_10 tx n ks
    · exact eqk_11 tx n ks
    · exact eqk_12 tx n ks
    · exact eqk_13 tx n ks
    · exact eqk_20 tx n ks
    · exact eqk_21 tx n ks
    · exact eqk_22 tx n ks
    · exact eqk_23 tx n ks
    · exact eqk_24 tx n ks
    · exact eqk_25 tx n ks
    · exact eqk_26 tx n ks
    · exact eqk_27 tx n ks
    · exact eqk_28 tx n ks
    · exact eqk_29 tx n ks
    · exact eqk_30 tx n ks
    · exact eqk_31 tx n ks
    · exact eqk_32 tx n ks
    · exact eqk_33 tx n ks
    · exact eqk_34 tx n ks
    · exact eqk_35 tx n ks
    · exact eqk_36 tx n ks
    · exact eqk_37 tx n ks
    · exact eqk_38 tx n ks
    · exact eqk_39 tx n ks
    · exact eqk_40 tx n ks
    · exact eqk_41 tx n ks
    · exact eqk_42 tx n ks
    · exact eqk_43 tx n ks
    · exact eqk_44 tx n ks
    · exact eqk_45 tx n ks
theorem c_label (ks : List Int) (k : Int) (tx : ByteArray) (n at_ : Int) (la : Option Addr) (ll lc : Nat) (K : Nat → Hn) (w : World) (hs : tx.size ≤ 140737488351232) (hL : ListAt w ks la ll lc K) :
    Calls Try.prog 38 #[.agg #[.int .i64 k, .string tx, .int .u64 n, .int .i64 at_, .slice la ll lc]] w fun e w' => e = .returned (.bool (labB k tx n ks)) ∧ Kp w w' := by
  have hlen := hL.len
  have hbl := hL.bl
  have oth : ∀ (k : Int), k ≠ 2 ∧ k ≠ 3 ∧ k ≠ 5 ∧ k ≠ 10 ∧ k ≠ 21 ∧ k ≠ 22 ∧ k ≠ 30 ∧ k ≠ 35 ∧ k ≠ 37 ∧ k ≠ 8 ∧ k ≠ 43 ∧ k ≠ 33 ∧ k ≠ 13 ∧ k ≠ 27 ∧ k ≠ 29 ∧ k ≠ 32 ∧ k ≠ 31 → labB k tx n ks = bareB tx n → Calls Try.prog 38 #[.agg #[.int .i64 k, .string tx, .int .u64 n, .int .i64 at_, .slice la ll lc]] w fun e w' => e = .returned (.bool (labB k tx n ks)) ∧ Kp w w' := fun k h e => by
    rw [e]
    exact label_other tx n at_ la ll lc w hs k h.1 h.2.1 h.2.2.1 h.2.2.2.1 h.2.2.2.2.1 h.2.2.2.2.2.1 h.2.2.2.2.2.2.1 h.2.2.2.2.2.2.2.1 h.2.2.2.2.2.2.2.2.1 h.2.2.2.2.2.2.2.2.2.1 h.2.2.2.2.2.2.2.2.2.2.1 h.2.2.2.2.2.2.2.2.2.2.2.1 h.2.2.2.2.2.2.2.2.2.2.2.2.1 h.2.2.2.2.2.2.2.2.2.2.2.2.2.1 h.2.2.2.2.2.2.2.2.2.2.2.2.2.2.1 h.2.2.2.2.2.2.2.2.2.2.2.2.2.2.2.1 h.2.2.2.2.2.2.2.2.2.2.2.2.2.2.2.2
  rcases kind_cases k with ho | hm
  · exact oth k ⟨ho _ (by simp), ho _ (by simp), ho _ (by simp), ho _ (by simp), ho _ (by simp), ho _ (by simp), ho _ (by simp), ho _ (by simp), ho _ (by simp), ho _ (by simp), ho _ (by simp), ho _ (by simp), ho _ (by simp), ho _ (by simp), ho _ (by simp), ho _ (by simp), ho _ (by simp)⟩ (labB_other tx n ks ho)
  · simp only [List.mem_cons, List.not_mem_nil, or_false] at hm
    rcases hm with rfl | rfl | rfl | rfl | rfl | rfl | rfl | rfl | rfl | rfl | rfl | rfl | rfl | rfl | rfl | rfl | rfl | rfl | rfl | rfl | rfl | rfl | rfl | rfl | rfl | rfl | rfl | rfl | rfl | rfl | rfl | rfl | rfl | rfl | rfl | rfl | rfl | rfl
    · exact oth 1 (by decide) rfl
    · exact label_2 tx n at_ la ll lc w hs
    · exact label_3 tx n at_ la ll lc w hs
    · exact oth 4 (by decide) rfl
    · exact label_5 tx n at_ la ll lc w hs
    · exact oth 6 (by decide) rfl
    · exact oth 7 (by decide) rfl
    · exact label_8 tx n at_ la ll lc w hs
    · exact label_10 tx n at_ la ll lc w hs
    · exact oth 11 (by decide) rfl
    · exact oth 12 (by decide) rfl
    · exact label_13 tx n at_ la ll lc w hs
    · exact oth 20 (by decide) rfl
    · exact label_21 tx n at_ la ll lc w hs
    · exact label_22 tx n at_ la ll lc w hs
    · exact oth 23 (by decide) rfl
    · exact oth 24 (by decide) rfl
    · exact oth 25 (by decide) rfl
    · exact oth 26 (by decide) rfl
    · exact label_27 tx n at_ la ll lc w hs
    · exact oth 28 (by decide) rfl
    · exact label_29 tx n at_ la ll lc w hs
    · exact label_30 tx n at_ la ll lc w hs
    · exact label_31 tx n at_ la ll lc w hs
    · exact label_32 tx n at_ la ll lc w hs
    · subst hlen; exact label_33 tx n at_ la _ lc w hbl hs
    · exact oth 34 (by decide) rfl
    · exact label_35 tx n at_ la ll lc w hs
    · exact oth 36 (by decide) rfl
    · exact label_37 tx n at_ la ll lc w hs
    · exact oth 38 (by decide) rfl
    · exact oth 39 (by decide) rfl
    · exact oth 40 (by decide) rfl
    · exact oth 41 (by decide) rfl
    · exact oth 42 (by decide) rfl
    · exact label_43 tx n at_ la ll lc w hs
    · exact oth 44 (by decide) rfl
    · exact oth 45 (by decide) rfl
theorem c_children (ks : List Int) (k : Int) (tx : ByteArray) (n at_ : Int) (la : Option Addr) (ll lc : Nat) (K : Nat → Hn) (w : World) (hL : ListAt w ks la ll lc K) (h13 : k = 13 → 0 ≤ n ∧ n ≤ 1) :
    Calls Try.prog 39 #[.agg #[.int .i64 k, .string tx, .int .u64 n, .int .i64 at_, .slice la ll lc]] w fun e w' => e = .returned (.bool (kidsB k n ks)) ∧ Kp w w' := by
  have hlen := hL.len
  subst hlen
  rcases kind_cases k with ho | hm
  · rw [kidsB_other n ks ho]
    exact kids_other ks tx n at_ la _ lc K w k (ho _ (by simp)) (ho _ (by simp)) (ho _ (by simp)) (ho _ (by simp)) (ho _ (by simp)) (ho _ (by simp)) (ho _ (by simp)) (ho _ (by simp)) (ho _ (by simp)) (ho _ (by simp)) (ho _ (by simp)) (ho _ (by simp)) (ho _ (by simp)) (ho _ (by simp)) (ho _ (by simp)) (ho _ (by simp)) (ho _ (by simp)) (ho _ (by simp)) (ho _ (by simp)) (ho _ (by simp)) (ho _ (by simp)) (ho _ (by simp)) (ho _ (by simp)) (ho _ (by simp)) (ho _ (by simp)) (ho _ (by simp)) (ho _ (by simp)) (ho _ (by simp)) (ho _ (by simp)) (ho _ (by simp)) (ho _ (by simp)) (ho _ (by simp)) (ho _ (by simp)) (ho _ (by simp)) (ho _ (by simp)) (ho _ (by simp)) (ho _ (by simp)) (ho _ (by simp)) hL
  · simp only [List.mem_cons, List.not_mem_nil, or_false] at hm
    rcases hm with rfl | rfl | rfl | rfl | rfl | rfl | rfl | rfl | rfl | rfl | rfl | rfl | rfl | rfl | rfl | rfl | rfl | rfl | rfl | rfl | rfl | rfl | rfl | rfl | rfl | rfl | rfl | rfl | rfl | rfl | rfl | rfl | rfl | rfl | rfl | rfl | rfl | rfl
    · exact kids_1 ks tx n at_ la _ lc K w hL
    · exact kids_2 ks tx n at_ la _ lc K w hL
    · exact kids_3 ks tx n at_ la _ lc K w hL
    · exact kids_4 ks tx n at_ la _ lc K w hL
    · exact kids_5 ks tx n at_ la _ lc K w hL
    · exact kids_6 ks tx n at_ la _ lc K w hL
    · exact kids_7 ks tx n at_ la _ lc K w hL
    · exact kids_8 ks tx n at_ la _ lc K w hL
    · exact kids_10 ks tx n at_ la _ lc K w hL
    · exact kids_11 ks tx n at_ la _ lc K w hL
    · exact kids_12 ks tx n at_ la _ lc K w hL
    · exact kids_13 ks tx n at_ la _ lc K w (h13 rfl) hL
    · exact kids_20 ks tx n at_ la _ lc K w hL
    · exact kids_21 ks tx n at_ la _ lc K w hL
    · exact kids_22 ks tx n at_ la _ lc K w hL
    · exact kids_23 ks tx n at_ la _ lc K w hL
    · exact kids_24 ks tx n at_ la _ lc K w hL
    · exact kids_25 ks tx n at_ la _ lc K w hL
    · exact kids_26 ks tx n at_ la _ lc K w hL
    · exact kids_27 ks tx n at_ la _ lc K w hL
    · exact kids_28 ks tx n at_ la _ lc K w hL
    · exact kids_29 ks tx n at_ la _ lc K w hL
    · exact kids_30 ks tx n at_ la _ lc K w hL
    · exact kids_31 ks tx n at_ la _ lc K w hL
    · exact kids_32 ks tx n at_ la _ lc K w hL
    · exact kids_33 ks tx n at_ la _ lc K w hL
    · exact kids_34 ks tx n at_ la _ lc K w hL
    · exact kids_35 ks tx n at_ la _ lc K w hL
    · exact kids_36 ks tx n at_ la _ lc K w hL
    · exact kids_37 ks tx n at_ la _ lc K w hL
    · exact kids_38 ks tx n at_ la _ lc K w hL
    · exact kids_39 ks tx n at_ la _ lc K w hL
    · exact kids_40 ks tx n at_ la _ lc K w hL
    · exact kids_41 ks tx n at_ la _ lc K w hL
    · exact kids_42 ks tx n at_ la _ lc K w hL
    · exact kids_43 ks tx n at_ la _ lc K w hL
    · exact kids_44 ks tx n at_ la _ lc K w hL
    · exact kids_45 ks tx n at_ la _ lc K w hL
end Go.Proofs.Ytefanekfelokmaa
