/- The contract of empty: do only blanks, remarks and lines' ends stand in a text? No condition. -/
import Derived.Test.YtjpmgloofcgfnaaDoorD1
import Derived.Test.YtjpmgloofcgfnaaDoorB9
namespace Go.Proofs.YtjpmgloofcgfnaaDoor
open Go.RowKit
set_option linter.unusedVariables false
set_option linter.unusedSimpArgs false

theorem drop_byt {s : ByteArray} {i : Nat} (h : i < s.size) : s.data.toList.drop i = byt s i :: s.data.toList.drop (i + 1) := by
  have hl : i < s.data.toList.length := by rw [len_size]; exact h
  rw [List.drop_eq_getElem_cons hl]
  congr 1
  show _ = s.data.toList.getD i 0
  rw [List.getD_eq_getElem?_getD, List.getElem?_eq_getElem hl]
  rfl
theorem byt_get {s : ByteArray} {i : Nat} (h : i < s.size) : s[i]'h = byt s i := by
  have hl : i < s.data.toList.length := by rw [len_size]; exact h
  show _ = s.data.toList.getD i 0
  rw [List.getD_eq_getElem?_getD, List.getElem?_eq_getElem hl]
  rfl
theorem head_drop {s : ByteArray} {i : Nat} : (s.data.toList.drop i).head? = if i < s.size then some (byt s i) else none := by
  split
  · rename_i h; rw [drop_byt h]; rfl
  · rename_i h
    have : s.data.toList.length ≤ i := by rw [len_size]; omega
    rw [List.drop_eq_nil_of_le this]; rfl
theorem u8q (c : UInt8) (n : Nat) (h : n < 256) : (c = UInt8.ofNat n) = ((c.toNat : Int) = n) := by
  apply propext
  constructor
  · intro e; rw [e]; simp; omega
  · intro e; have h2 : c.toNat = n := by omega
    rw [← h2]; simp
set_option maxHeartbeats 1600000 in
set_option maxRecDepth 100000 in
theorem c_empty (s : ByteArray) (w : World) (hs : s.size ≤ 140737488351232) : Calls Tryd.prog 20 #[.string s] w fun e w' => e = .returned (.bool (emB false s.data.toList)) ∧ w = w' := by
  obtain ⟨v, hv⟩ : ∃ v, emB false s.data.toList = v := ⟨_, rfl⟩
  rw [hv]
  have HV := Lib.hid hv
  clear hv
  go_enter Tryd.func20, Tryd.ntmps20
  go_wp2_with fail
  go_loopw [3, 4] (fun r i wq => ∃ (m : Nat) (rb : Bool), m ≤ s.size ∧ i = .int .i64 m ∧ r = .bool rb ∧ Hid (emB rb (s.data.toList.drop m) = v) ∧ w = wq) (fun _ i _ => s.size - (intOf i).toNat)
  case atStart => exact ⟨0, false, Nat.zero_le _, rfl, rfl, Lib.hid (by rw [List.drop_zero]; exact HV.out), rfl⟩
  case round =>
    obtain ⟨m, rb, hm, rfl, rfl, HE, rfl⟩ := hrel
    by_cases hlt : m < s.size
    · have he := HE.out
      rw [drop_byt hlt, emB, head_drop] at he
      have HB := Lib.hid (byt_get hlt)
      have HE2 := Lib.hid he
      have q10 : (byt s m = 10) = (((byt s m).toNat : Int) = 10) := u8q _ 10 (by decide)
      have q9 : (byt s m = 9) = (((byt s m).toNat : Int) = 9) := u8q _ 9 (by decide)
      have q13 : (byt s m = 13) = (((byt s m).toNat : Int) = 13) := u8q _ 13 (by decide)
      have q32 : (byt s m = 32) = (((byt s m).toNat : Int) = 32) := u8q _ 32 (by decide)
      have q47 : (byt s m = 47) = (((byt s m).toNat : Int) = 47) := u8q _ 47 (by decide)
      have r47 : (byt s (m + 1) = 47) = (((byt s (m + 1)).toNat : Int) = 47) := u8q _ 47 (by decide)
      clear he
      by_cases h1 : m + 1 < s.size
      · have HB1 := Lib.hid (byt_get h1)
        have i1 : ((m : Int) + 1) < s.size := by omega
        have i2 : (0 : Int) ≤ (m : Int) + 1 := by omega
        have i3 : ((m : Int) + 1).toNat = m + 1 := by omega
        go_wp2_with fail
        all_goals first
          | (refine ⟨⟨m + 1, _, by omega, by go_num, rfl, Lib.hid ?_, trivial⟩, by simp [intOf]; omega⟩
             have he := HE2.out
             rw [if_pos h1] at he
             have hb := HB.out
             have hb1 := HB1.out
             simp only [hb, hb1, q10, q9, q13, q32, q47, r47, Option.some.injEq] at *
             simp_all; done)
          | (go_ret
             refine ⟨?_, rfl⟩
             have he := HE2.out
             rw [if_pos h1] at he
             have hb := HB.out
             have hb1 := HB1.out
             simp only [hb, hb1, q10, q9, q13, q32, q47, r47, Option.some.injEq] at *
             simp_all; done)
          | trace_state
      · have i1 : ¬ ((m : Int) + 1 < s.size) := by omega
        go_wp2_with fail
        all_goals first
          | (refine ⟨⟨m + 1, _, by omega, by go_num, rfl, Lib.hid ?_, trivial⟩, by simp [intOf]; omega⟩
             have he := HE2.out
             rw [if_neg h1] at he
             have hb := HB.out
             simp only [hb, q10, q9, q13, q32, q47, Option.some.injEq] at *
             simp_all; done)
          | (go_ret
             refine ⟨?_, rfl⟩
             have he := HE2.out
             rw [if_neg h1] at he
             have hb := HB.out
             simp only [hb, q10, q9, q13, q32, q47, Option.some.injEq] at *
             simp_all; done)
          | trace_state
    · obtain rfl : m = s.size := by omega
      have he := HE.out
      rw [List.drop_eq_nil_of_le (by rw [len_size]; exact Nat.le_refl _)] at he
      have hv : v = true := by rw [← he]; cases rb <;> rfl
      subst hv
      go_wp2_with fail
      go_ret
      exact ⟨rfl, rfl⟩
end Go.Proofs.YtjpmgloofcgfnaaDoor
