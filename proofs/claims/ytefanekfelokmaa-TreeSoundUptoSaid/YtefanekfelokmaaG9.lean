/- What a node must have by its Kind is the same in the program and in the reference. No program is walked here. -/
import Derived.Test.YtefanekfelokmaaF12
import Derived.Test.YtefanekfelokmaaG5
import Derived.Test.YtefanekfelokmaaG6
import Derived.Test.YtefanekfelokmaaG7
import Derived.Test.YtefanekfelokmaaG8
import Derived.Test.YtefanekfelokmaaG8a
namespace Go.Proofs.Ytefanekfelokmaa
open Go.RowKit
set_option linter.unusedVariables false
set_option linter.unusedSimpArgs false
theorem eq_one (a : Int) : (fun k : Int => k == a) = inK [a] := funext fun k => (in_one k a).symm
theorem eq_e : (fun k => sortL k == 101) = exK := funext sort_e
theorem eq_t : (fun k => sortL k == 116) = tyK := funext sort_t
theorem eq_s : (fun k => sortL k == 115) = stK := funext sort_s
theorem are_nil (ks : List Int) : areB ks [] = decide (ks.length = 0) := by cases ks <;> simp [areB]
theorem few_is (ks : List Int) (p : Int → Bool) : fewB ks p = (allB ks p && decide (ks.length ≤ 16)) := by unfold fewB; rw [Bool.and_comm]
theorem in_app (k a b : Int) : inK [a, b] k = (inK [a] k || inK [b] k) := by unfold inK; simp
theorem are_1 (ks : List Int) (p : Int → Bool) : areB ks [p] = match ks with | [a] => p a | _ => false := by
  rcases ks with _ | ⟨a, _ | ⟨b, l⟩⟩ <;> simp [areB]
theorem are_2 (ks : List Int) (p q : Int → Bool) : areB ks [p, q] = match ks with | [a, b] => p a && q b | _ => false := by
  rcases ks with _ | ⟨a, _ | ⟨b, _ | ⟨c, l⟩⟩⟩ <;> simp [areB]
theorem are_3 (ks : List Int) (p q r : Int → Bool) : areB ks [p, q, r] = match ks with | [a, b, c] => p a && (q b && r c) | _ => false := by
  rcases ks with _ | ⟨a, _ | ⟨b, _ | ⟨c, _ | ⟨d, l⟩⟩⟩⟩ <;> simp [areB]
theorem in_ops1 (tx : ByteArray) : inB ops1 tx = (inB opsA tx || inB opsN tx) := by
  by_cases h : tx ∈ ops1
  · rw [inB_yes h]
    simp only [ops1, List.mem_cons, List.not_mem_nil, or_false] at h
    rcases h with h | h | h
    · rw [inB_yes (L := opsA) (by simp [opsA, h])]; rfl
    · rw [inB_yes (L := opsA) (by simp [opsA, h])]; rfl
    · rw [inB_yes (L := opsN) (by simp [opsN, h]), Bool.or_true]
  · rw [inB_no h]
    simp only [ops1, List.mem_cons, List.not_mem_nil, or_false, not_or] at h
    rw [inB_no (L := opsA) (by simp only [opsA, List.mem_cons, List.not_mem_nil, or_false, not_or]; exact ⟨h.1, h.2.1⟩), inB_no (L := opsN) (by simp only [opsN, List.mem_cons, List.not_mem_nil, or_false]; exact h.2.2)]
    rfl
theorem in_ops2 (tx : ByteArray) : inB ops2 tx = (inB opsA tx || inB opsT tx) := by
  by_cases h : tx ∈ ops2
  · rw [inB_yes h]
    by_cases ha : tx ∈ opsA
    · rw [inB_yes ha]; rfl
    · have ht : tx ∈ opsT := by
        simp only [ops2, opsA, opsT, List.mem_cons, List.not_mem_nil, or_false, not_or] at h ha ⊢
        rcases h with h | h | h | h | h | h | h | h | h | h | h | h | h | h | h | h | h | h | h <;> first | exact absurd h ha.1 | exact absurd h ha.2 | simp [h]
      rw [inB_yes ht, Bool.or_true]
  · rw [inB_no h]
    rw [inB_no (L := opsA) (fun ha => h (by simp only [opsA, List.mem_cons, List.not_mem_nil, or_false] at ha; rcases ha with ha | ha <;> simp [ops2, ha])), inB_no (L := opsT) (fun ht => h (by
      simp only [opsT, List.mem_cons, List.not_mem_nil, or_false] at ht
      rcases ht with ht | ht | ht | ht | ht | ht | ht | ht | ht | ht | ht | ht | ht | ht | ht | ht | ht <;> simp [ops2, ht]))]
    rfl
theorem all_cons (a : Int) (l : List Int) (p : Int → Bool) : allB (a :: l) p = (p a && allB l p) := by unfold allB; simp
theorem eqk_1 (tx : ByteArray) (n : Int) (ks : List Int) : (bareB tx n && allB ks (inK [2, 3])) = ((bareB tx n) && allB ks (inK [2, 3])) := by
  rfl
theorem eqk_2 (tx : ByteArray) (n : Int) (ks : List Int) : (namedB tx n && fewB ks (inK [5])) = ((namedB tx n) && (allB ks (fun k => k == 5) && decide (ks.length ≤ 16))) := by
  rw [few_is, eq_one]
theorem eqk_3 (tx : ByteArray) (n : Int) (ks : List Int) : (namedB tx n && areB ks [(inK [4]), (inK [6]), (inK [7]), (inK [20])]) = ((namedB tx n) && (areB ks [(inK [4]), (inK [6]), (inK [7]), (inK [20])])) := by
  rfl
theorem eqk_4 (tx : ByteArray) (n : Int) (ks : List Int) : (bareB tx n && fewB ks (inK [8])) = ((bareB tx n) && (allB ks (fun k => k == 8) && decide (ks.length ≤ 16))) := by
  rw [few_is, eq_one]
theorem eqk_5 (tx : ByteArray) (n : Int) (ks : List Int) : (namedB tx n && areB ks [tyK]) = ((namedB tx n) && (areB ks [tyK])) := by
  rfl
theorem eqk_6 (tx : ByteArray) (n : Int) (ks : List Int) : (bareB tx n && fewB ks (inK [5])) = ((bareB tx n) && (allB ks (fun k => k == 5) && decide (ks.length ≤ 16))) := by
  rw [few_is, eq_one]
theorem eqk_7 (tx : ByteArray) (n : Int) (ks : List Int) : (bareB tx n && (areB ks [] || areB ks [tyK])) = ((bareB tx n) && (decide (ks.length = 0) || areB ks [tyK])) := by
  rw [are_nil]
theorem eqk_8 (tx : ByteArray) (n : Int) (ks : List Int) : (nameB tx && decide (1 ≤ n ∧ n ≤ 3) && areB ks []) = ((nameB tx && decide (1 ≤ n ∧ n ≤ 3)) && decide (ks.length = 0)) := by
  rw [are_nil]
theorem eqk_10 (tx : ByteArray) (n : Int) (ks : List Int) : (namedB tx n && areB ks []) = ((namedB tx n) && decide (ks.length = 0)) := by
  rw [are_nil]
theorem eqk_11 (tx : ByteArray) (n : Int) (ks : List Int) : (bareB tx n && areB ks [tyK]) = ((bareB tx n) && (areB ks [tyK])) := by
  rfl
theorem eqk_12 (tx : ByteArray) (n : Int) (ks : List Int) : (bareB tx n && areB ks [tyK]) = ((bareB tx n) && (areB ks [tyK])) := by
  rfl
theorem eqk_13 (tx : ByteArray) (n : Int) (ks : List Int) : (eitherB tx n && (decide (n ≤ (ks.length : Int)) && decide ((ks.length : Int) ≤ 16 + n)) && allB ks tyK) = ((eitherB tx n) && (allB ks (fun k => sortL k == 116) && (decide (n ≤ (ks.length : Int)) && decide ((ks.length : Int) ≤ 16 + n)))) := by
  rw [eq_t]
  cases eitherB tx n <;> cases allB ks tyK <;> simp
theorem eqk_20 (tx : ByteArray) (n : Int) (ks : List Int) : (bareB tx n && allB ks stK) = ((bareB tx n) && allB ks (fun k => sortL k == 115)) := by
  rw [eq_s]
theorem eqk_21 (tx : ByteArray) (n : Int) (ks : List Int) : (namedB tx n && areB ks [exK]) = ((namedB tx n) && (areB ks [exK])) := by
  rfl
theorem eqk_22 (tx : ByteArray) (n : Int) (ks : List Int) : (namedB tx n && areB ks [tyK]) = ((namedB tx n) && (areB ks [tyK])) := by
  rfl
theorem eqk_23 (tx : ByteArray) (n : Int) (ks : List Int) : (bareB tx n && areB ks [(inK [30, 35, 36]), exK]) = ((bareB tx n) && (areB ks [exK, exK] && inK [30, 35, 36] (ks.getD 0 0))) := by
  congr 1
  rw [are_2, are_2]; rcases ks with _ | ⟨a, _ | ⟨b, _ | ⟨c, l⟩⟩⟩ <;> simp; show (inK [30, 35, 36] a && exK b) = (exK a && exK b && inK [30, 35, 36] a); have hin : inK [30, 35, 36] a = true → exK a = true := (by unfold inK exK; simp; omega); cases h1 : inK [30, 35, 36] a with | false => simp | true => rw [hin h1]; simp
theorem eqk_24 (tx : ByteArray) (n : Int) (ks : List Int) : (bareB tx n && areB ks [(inK [34, 39])]) = ((bareB tx n) && (areB ks [(inK [34])] || areB ks [(inK [39])])) := by
  congr 1
  rw [are_1, are_1, are_1]; rcases ks with _ | ⟨a, _ | ⟨b, l⟩⟩ <;> simp [in_app]
theorem eqk_25 (tx : ByteArray) (n : Int) (ks : List Int) : (bareB tx n && (areB ks [exK, inK [20]] || areB ks [exK, inK [20], inK [20, 25]])) = ((bareB tx n) && (areB ks [exK, (inK [20])] || areB ks [exK, (inK [20]), (inK [20])] || areB ks [exK, (inK [20]), (inK [25])])) := by
  congr 1
  rw [are_2, are_3, are_3, are_3]
  rcases ks with _ | ⟨a, _ | ⟨b, _ | ⟨c, _ | ⟨d, l⟩⟩⟩⟩
  · rfl
  · rfl
  · simp
  · simp only [in_app]; cases exK a <;> cases inK [20] b <;> simp
  · rfl
theorem eqk_26 (tx : ByteArray) (n : Int) (ks : List Int) : (bareB tx n && areB ks [exK, (inK [20])]) = ((bareB tx n) && (areB ks [exK, (inK [20])])) := by
  rfl
theorem eqk_27 (tx : ByteArray) (n : Int) (ks : List Int) : (eitherB tx n && areB ks []) = ((eitherB tx n) && decide (ks.length = 0)) := by
  rw [are_nil]
theorem eqk_28 (tx : ByteArray) (n : Int) (ks : List Int) : (bareB tx n && (areB ks [] || areB ks [exK])) = ((bareB tx n) && (decide (ks.length = 0) || areB ks [exK])) := by
  rw [are_nil]
theorem eqk_29 (tx : ByteArray) (n : Int) (ks : List Int) : (eitherB tx n && areB ks [(inK [34])]) = ((eitherB tx n) && (areB ks [(inK [34])])) := by
  rfl
theorem eqk_30 (tx : ByteArray) (n : Int) (ks : List Int) : (namedB tx n && areB ks []) = ((namedB tx n) && decide (ks.length = 0)) := by
  rw [are_nil]
theorem eqk_31 (tx : ByteArray) (n : Int) (ks : List Int) : (@decide (tx = ⟨#[]⟩) (Classical.propDecidable _) && areB ks []) = ((@decide (tx = ⟨#[]⟩) (Classical.propDecidable _)) && decide (ks.length = 0)) := by
  rw [are_nil]
theorem eqk_32 (tx : ByteArray) (n : Int) (ks : List Int) : (eitherB tx n && areB ks []) = ((eitherB tx n) && decide (ks.length = 0)) := by
  rw [are_nil]
theorem eqk_33 (tx : ByteArray) (n : Int) (ks : List Int) : (decide (n = 0) && opB tx ks.length && allB ks exK) = ((lab33 tx n ks.length) && (areB ks [exK] || areB ks [exK, exK])) := by
  unfold lab33
  rw [Bool.and_assoc, Bool.and_assoc]
  congr 1
  unfold opB
  rw [in_ops1, in_ops2, are_1, are_2]
  rcases ks with _ | ⟨a, _ | ⟨b, _ | ⟨c, l⟩⟩⟩
  · simp
  · simp [allB] <;> (cases inB opsA tx <;> cases inB opsN tx <;> simp)
  · simp [allB]
  · simp
theorem eqk_34 (tx : ByteArray) (n : Int) (ks : List Int) : (bareB tx n && argsB ks exK) = ((bareB tx n) && (decide (1 ≤ ks.length ∧ ks.length ≤ 17) && allB ks (fun k => sortL k == 101))) := by
  rw [eq_e]
  congr 1
  · rcases ks with _ | ⟨a, l⟩
    · simp [argsB]
    · rw [argsB, all_cons, few_is]
      by_cases hl : l.length ≤ 16
      · rw [decide_eq_true hl, decide_eq_true (show 1 ≤ (a :: l).length ∧ (a :: l).length ≤ 17 by simp; omega)]; simp
      · rw [decide_eq_false hl, decide_eq_false (show ¬ (1 ≤ (a :: l).length ∧ (a :: l).length ≤ 17) by simp; omega)]; simp
theorem eqk_35 (tx : ByteArray) (n : Int) (ks : List Int) : (namedB tx n && areB ks [exK]) = ((namedB tx n) && (areB ks [exK])) := by
  rfl
theorem eqk_36 (tx : ByteArray) (n : Int) (ks : List Int) : (bareB tx n && decide (1 < ks.length) && argsB ks brK) = ((bareB tx n) && kids36 ks ks.length) := by
  rw [Bool.and_assoc]
  congr 1
  unfold kids36
  rcases ks with _ | ⟨a, l⟩
  · simp
  · rw [argsB, few_is]
    simp only [List.drop_succ_cons, List.drop_zero, List.getD_cons_zero, List.length_cons]
    by_cases h1 : 1 ≤ l.length
    · by_cases h2 : l.length ≤ 16
      · rw [decide_eq_true (show 1 < l.length + 1 by omega), decide_eq_true h2, decide_eq_true (show 2 ≤ l.length + 1 ∧ l.length + 1 ≤ 17 by omega)]
        cases exK a <;> simp
      · rw [decide_eq_false h2, decide_eq_false (show ¬ (2 ≤ l.length + 1 ∧ l.length + 1 ≤ 17) by omega)]
        simp
    · rw [decide_eq_false (show ¬ (1 < l.length + 1) by omega), decide_eq_false (show ¬ (2 ≤ l.length + 1 ∧ l.length + 1 ≤ 17) by omega)]
      simp
theorem eqk_37 (tx : ByteArray) (n : Int) (ks : List Int) : (namedB tx n && fewB ks exK) = ((namedB tx n) && (allB ks (fun k => sortL k == 101) && decide (ks.length ≤ 16))) := by
  rw [few_is, eq_e]
theorem eqk_38 (tx : ByteArray) (n : Int) (ks : List Int) : (bareB tx n && areB ks [(inK [6]), (inK [7]), (inK [20])]) = ((bareB tx n) && (areB ks [(inK [6]), (inK [7]), (inK [20])])) := by
  rfl
theorem eqk_39 (tx : ByteArray) (n : Int) (ks : List Int) : (bareB tx n && areB ks [exK]) = ((bareB tx n) && (areB ks [exK])) := by
  rfl
theorem eqk_40 (tx : ByteArray) (n : Int) (ks : List Int) : (bareB tx n && areB ks [tyK, exK]) = ((bareB tx n) && (areB ks [tyK, exK])) := by
  rfl
theorem eqk_41 (tx : ByteArray) (n : Int) (ks : List Int) : (bareB tx n && areB ks [exK, exK]) = ((bareB tx n) && (areB ks [exK, exK])) := by
  rfl
theorem eqk_42 (tx : ByteArray) (n : Int) (ks : List Int) : (bareB tx n && allB ks (inK [43, 44, 45]) && decide (countD ks ≤ 1)) = ((bareB tx n) && (allB ks (inK [43, 44, 45]) && decide (countD ks ≤ 1))) := by
  rw [Bool.and_assoc]
theorem eqk_43 (tx : ByteArray) (n : Int) (ks : List Int) : ((bareB tx n || namedB tx n) && areB ks [exK, inK [20]]) = ((bareB tx n || namedB tx n) && (areB ks [exK, (inK [20])])) := by
  rfl
theorem eqk_44 (tx : ByteArray) (n : Int) (ks : List Int) : (bareB tx n && areB ks [exK, exK, (inK [20])]) = ((bareB tx n) && (areB ks [exK, exK, (inK [20])])) := by
  rfl
theorem eqk_45 (tx : ByteArray) (n : Int) (ks : List Int) : (bareB tx n && areB ks [(inK [20])]) = ((bareB tx n) && (areB ks [(inK [20])])) := by
  rfl
end Go.Proofs.Ytefanekfelokmaa
