/- How strong operators bind, in the program and in the reference; the question that the laws of print ask first; PrintBinds. No condition. -/
import Derived.Test.YtahidfjlifojiaaDoorPF
namespace Go.Proofs.YtahidfjlifojiaaDoor
open Go.RowKit
set_option linter.unusedVariables false
set_option linter.unusedSimpArgs false

theorem same_or (a b : ByteArray) : (a = b ∧ (a.toList == b.toList) = true) ∨ (a ≠ b ∧ (a.toList == b.toList) = false) := by
  by_cases h : a = b
  · exact .inl ⟨h, by rw [h]; exact beq_self_eq_true _⟩
  · refine .inr ⟨h, beq_eq_false_iff_ne.2 (fun e => h ?_)⟩
    obtain ⟨a⟩ := a
    obtain ⟨b⟩ := b
    rw [ByteArray.toList_eq, ByteArray.toList_eq] at e
    congr
    exact Array.toList_inj.1 e
theorem ne_lit {a b : ByteArray} (h : a ≠ b) : (a.toList == b.toList) = false := by
  rcases same_or a b with ⟨e, _⟩ | ⟨_, e⟩
  · exact absurd e h
  · exact e
theorem toL (l : List UInt8) : (⟨l.toArray⟩ : ByteArray).toList = l := by rw [ByteArray.toList_eq]
theorem ne_list {a : ByteArray} {l : List UInt8} (h : a ≠ ⟨l.toArray⟩) : (a.toList == l) = false := by
  have := ne_lit h
  rwa [toL l] at this
/-- Operators of two, and how strong they bind. -/
abbrev tblS : List (ByteArray × Int) := [(⟨#[42]⟩, 5), (⟨#[47]⟩, 5), (⟨#[37]⟩, 5), (⟨#[60, 60]⟩, 5), (⟨#[62, 62]⟩, 5), (⟨#[38]⟩, 5), (⟨#[38, 94]⟩, 5), (⟨#[43]⟩, 4), (⟨#[45]⟩, 4), (⟨#[124]⟩, 4), (⟨#[94]⟩, 4), (⟨#[61, 61]⟩, 3), (⟨#[33, 61]⟩, 3), (⟨#[60]⟩, 3), (⟨#[60, 61]⟩, 3), (⟨#[62]⟩, 3), (⟨#[62, 61]⟩, 3), (⟨#[38, 38]⟩, 2), (⟨#[124, 124]⟩, 1)]
def strV (tx : ByteArray) : Int := ((tblS.find? fun p => decide (p.1 = tx)).map (·.2)).getD 0
theorem strV_no {tx : ByteArray} (h : ∀ p ∈ tblS, p.1 ≠ tx) : strV tx = 0 := by
  unfold strV
  rw [List.find?_eq_none.2 (fun p hp => by simpa using h p hp)]
  rfl
set_option maxHeartbeats 12800000 in
set_option maxRecDepth 100000 in
theorem c_Of (tx : ByteArray) (w : World) : Calls Tryd.prog 8 #[.string tx] w fun e w' => e = .returned (.int .i64 (strV tx)) ∧ w = w' := by
  by_cases hm : ∃ p ∈ tblS, p.1 = tx
  · obtain ⟨p, hp, rfl⟩ := hm
    simp only [tblS, List.mem_cons, List.not_mem_nil, or_false] at hp
    rcases hp with rfl | rfl | rfl | rfl | rfl | rfl | rfl | rfl | rfl | rfl | rfl | rfl | rfl | rfl | rfl | rfl | rfl | rfl | rfl <;> (go_enter Tryd.func8, Tryd.ntmps8; go_wp2; go_ret; exact ⟨by rfl, rfl⟩)
  · have hz : ∀ p ∈ tblS, p.1 ≠ tx := fun p hp e => hm ⟨p, hp, e⟩
    rw [strV_no hz]
    simp only [tblS, List.forall_mem_cons, List.not_mem_nil, false_implies, implies_true, and_true] at hz
    obtain ⟨n0, n1, n2, n3, n4, n5, n6, n7, n8, n9, n10, n11, n12, n13, n14, n15, n16, n17, n18⟩ := hz
    have e0 : (tx.toList == [42]) = false := ne_list (Ne.symm n0)
    have e1 : (tx.toList == [47]) = false := ne_list (Ne.symm n1)
    have e2 : (tx.toList == [37]) = false := ne_list (Ne.symm n2)
    have e3 : (tx.toList == [60, 60]) = false := ne_list (Ne.symm n3)
    have e4 : (tx.toList == [62, 62]) = false := ne_list (Ne.symm n4)
    have e5 : (tx.toList == [38]) = false := ne_list (Ne.symm n5)
    have e6 : (tx.toList == [38, 94]) = false := ne_list (Ne.symm n6)
    have e7 : (tx.toList == [43]) = false := ne_list (Ne.symm n7)
    have e8 : (tx.toList == [45]) = false := ne_list (Ne.symm n8)
    have e9 : (tx.toList == [124]) = false := ne_list (Ne.symm n9)
    have e10 : (tx.toList == [94]) = false := ne_list (Ne.symm n10)
    have e11 : (tx.toList == [61, 61]) = false := ne_list (Ne.symm n11)
    have e12 : (tx.toList == [33, 61]) = false := ne_list (Ne.symm n12)
    have e13 : (tx.toList == [60]) = false := ne_list (Ne.symm n13)
    have e14 : (tx.toList == [60, 61]) = false := ne_list (Ne.symm n14)
    have e15 : (tx.toList == [62]) = false := ne_list (Ne.symm n15)
    have e16 : (tx.toList == [62, 61]) = false := ne_list (Ne.symm n16)
    have e17 : (tx.toList == [38, 38]) = false := ne_list (Ne.symm n17)
    have e18 : (tx.toList == [124, 124]) = false := ne_list (Ne.symm n18)
    clear hm n0 n1 n2 n3 n4 n5 n6 n7 n8 n9 n10 n11 n12 n13 n14 n15 n16 n17 n18
    go_enter Tryd.func8, Tryd.ntmps8; go_wp2; go_ret; exact ⟨rfl, rfl⟩
set_option maxHeartbeats 12800000 in
set_option maxRecDepth 100000 in
theorem c_Strength (tx : ByteArray) (w : World) : Calls Tryd.prog 6 #[.string tx] w fun e w' => e = .returned (.int .i64 (strV tx)) ∧ w = w' := by
  by_cases hm : ∃ p ∈ tblS, p.1 = tx
  · obtain ⟨p, hp, rfl⟩ := hm
    simp only [tblS, List.mem_cons, List.not_mem_nil, or_false] at hp
    rcases hp with rfl | rfl | rfl | rfl | rfl | rfl | rfl | rfl | rfl | rfl | rfl | rfl | rfl | rfl | rfl | rfl | rfl | rfl | rfl <;> (go_enter Tryd.func6, Tryd.ntmps6; go_wp2; go_ret; exact ⟨by rfl, rfl⟩)
  · have hz : ∀ p ∈ tblS, p.1 ≠ tx := fun p hp e => hm ⟨p, hp, e⟩
    rw [strV_no hz]
    simp only [tblS, List.forall_mem_cons, List.not_mem_nil, false_implies, implies_true, and_true] at hz
    obtain ⟨n0, n1, n2, n3, n4, n5, n6, n7, n8, n9, n10, n11, n12, n13, n14, n15, n16, n17, n18⟩ := hz
    have e0 : (tx.toList == [42]) = false := ne_list (Ne.symm n0)
    have e1 : (tx.toList == [47]) = false := ne_list (Ne.symm n1)
    have e2 : (tx.toList == [37]) = false := ne_list (Ne.symm n2)
    have e3 : (tx.toList == [60, 60]) = false := ne_list (Ne.symm n3)
    have e4 : (tx.toList == [62, 62]) = false := ne_list (Ne.symm n4)
    have e5 : (tx.toList == [38]) = false := ne_list (Ne.symm n5)
    have e6 : (tx.toList == [38, 94]) = false := ne_list (Ne.symm n6)
    have e7 : (tx.toList == [43]) = false := ne_list (Ne.symm n7)
    have e8 : (tx.toList == [45]) = false := ne_list (Ne.symm n8)
    have e9 : (tx.toList == [124]) = false := ne_list (Ne.symm n9)
    have e10 : (tx.toList == [94]) = false := ne_list (Ne.symm n10)
    have e11 : (tx.toList == [61, 61]) = false := ne_list (Ne.symm n11)
    have e12 : (tx.toList == [33, 61]) = false := ne_list (Ne.symm n12)
    have e13 : (tx.toList == [60]) = false := ne_list (Ne.symm n13)
    have e14 : (tx.toList == [60, 61]) = false := ne_list (Ne.symm n14)
    have e15 : (tx.toList == [62]) = false := ne_list (Ne.symm n15)
    have e16 : (tx.toList == [62, 61]) = false := ne_list (Ne.symm n16)
    have e17 : (tx.toList == [38, 38]) = false := ne_list (Ne.symm n17)
    have e18 : (tx.toList == [124, 124]) = false := ne_list (Ne.symm n18)
    clear hm n0 n1 n2 n3 n4 n5 n6 n7 n8 n9 n10 n11 n12 n13 n14 n15 n16 n17 n18
    go_enter Tryd.func6, Tryd.ntmps6; go_wp2; go_ret; exact ⟨rfl, rfl⟩
set_option maxHeartbeats 1600000 in
theorem c_Binds (tx : ByteArray) (w : World) : Calls Tryd.prog 5 #[.string tx] w fun e w' => e = .returned (.int .i64 (strV tx)) ∧ w = w' := by
  go_enter Tryd.func5, Tryd.ntmps5
  go_wp2_with (go_at_call 8; (with_reducible refine (c_Of _ _).mono ?_); rintro e w' ⟨rfl, rfl⟩)
  go_ret
  exact ⟨rfl, rfl⟩
theorem c_Binds5 (w : World) : Calls Tryd.prog 5 #[.string ⟨#[42]⟩] w fun e w' => e = .returned (.int .i64 5) ∧ w = w' := c_Binds ⟨#[42]⟩ w
set_option maxHeartbeats 3200000 in
set_option maxRecDepth 100000 in
theorem c_answers (w : World) : Calls Tryd.prog 4 #[] w fun e w' => e = .returned (.bool true) ∧ Kp w w' := by
  have HE := Lib.hid (fun w' => (show Calls Tryd.prog 7 #[.agg #[.int .i64 31, .string ⟨#[]⟩, .int .u64 7, .int .i64 0, .slice none 0 0]] w' fun e w2 => e = .returned (.tuple #[.string ⟨#[55]⟩, .int .i64 0]) ∧ Kp w' w2 from c_Expr7 w'))
  go_enter Tryd.func4, Tryd.ntmps4
  go_wp2_with (first | (go_at_call 7; (with_reducible refine (HE.out _).mono ?_); rintro e w1 ⟨rfl, hk1⟩) | (go_at_call 5; (with_reducible refine (c_Binds5 _).mono ?_); rintro e w2 ⟨rfl, rfl⟩))
  go_ret
  exact ⟨by first | rfl | (simp; done), hk1⟩
set_option maxHeartbeats 3200000 in
set_option maxRecDepth 100000 in
theorem law_PrintBinds (x : ByteArray) (w : World) (hx : x.size ≤ 140737488351232) : Calls Tryd.prog 3 #[.string x] w fun e w' => e = .returned (.bool true) ∧ Below w.heap.size w w' := by
  obtain ⟨n, hn⟩ : ∃ n, strV x = n := ⟨_, rfl⟩
  have HB := Lib.hid (fun W => hn ▸ c_Binds x W)
  have HS := Lib.hid (fun W => hn ▸ c_Strength x W)
  clear hn
  go_enter Tryd.func3, Tryd.ntmps3
  go_wp2_with (first | (go_at_call 4; (with_reducible refine (c_answers _).mono ?_); rintro e w1 ⟨rfl, hk1⟩) | (go_at_call 5; (with_reducible refine (HB.out _).mono ?_); rintro e w2 ⟨rfl, rfl⟩) | (go_at_call 6; (with_reducible refine (HS.out _).mono ?_); rintro e w3 ⟨rfl, rfl⟩))
  go_ret
  exact ⟨by first | rfl | (simp; done), hk1⟩
end Go.Proofs.YtahidfjlifojiaaDoor
