/- What Text and Less of word answer at every kind and word, and the statement WordTells, walked. Condition: the library's table of powers of ten holds them. -/
import Derived.Test.YtlpcnkjnjkijbaaDoorDWc
namespace Go.Proofs.YtlpcnkjnjkijbaaDoor
open Go.RowKit Go.Sort Plain
set_option linter.unusedVariables false
theorem g_pow : Tryd.prog.globalNamed "internal/strconv.uint64pow10" = some 0 := by kernel_rfl
abbrev TabP (w : World) : Prop := Lib.TabIs Tryd.prog w "internal/strconv.uint64pow10" .u64 Lib.pow10Tab
theorem tab_kp {w w' : World} (h : TabP w) (hk : Kp w w') : TabP w' := Joins.tab_stays g_pow h hk.below (Nat.le_refl _)
/-- The digits, with - ahead. -/
def dl (neg : Bool) (u : Nat) : List UInt8 := if neg then 45 :: Lib.decDigits u else Lib.decDigits u
theorem c_Dig (z : Int) (neg : Bool) (w : World) (hz : 0 ≤ z ∧ z < 18446744073709551616) :
    Calls Tryd.prog 10 #[.agg #[.bool neg, .int .u64 z]] w fun e w' => e = .returned (.string ⟨(dl neg z.toNat).toArray⟩) ∧ Kp w w' := by
  obtain ⟨u, rfl⟩ := Int.eq_ofNat_of_zero_le hz.1
  exact c_Digits u neg w (by omega)
theorem sz_rr {k a : Int} (ha : 0 ≤ a ∧ a < 18446744073709551616) : 0 ≤ sz k a ∧ sz k a < 18446744073709551616 := by
  unfold sz; split
  · rename_i h
    have hs := ng_sg h
    have : 9223372036854775808 ≤ a := by simp [ng, hs] at h; exact h
    omega
  · omega
theorem itoa_dl {k a : Int} (ha : 0 ≤ a ∧ a < 18446744073709551616) : Lib.itoa (sv k a) = dl (ng k a) (sz k a).toNat := by
  unfold Lib.itoa dl sv sz
  cases h : ng k a with
  | true =>
    have hs := ng_sg h
    have h2 : 9223372036854775808 ≤ a := by simp [ng, hs] at h; exact h
    simp only [if_true]
    rw [if_pos (by omega)]
    congr 2
    omega
  | false =>
    simp only [Bool.false_eq_true, if_false]
    rw [if_neg (by omega)]
theorem c_Text_bad (k a : Int) (w : World) (ha : 0 ≤ a ∧ a < 18446744073709551616) (he : (e1 k a != 0) = true) :
    Calls Tryd.prog 5 #[.int .i64 k, .int .u64 a] w fun e w' => e = .returned (.tuple #[.string ⟨#[]⟩, .int .i64 (e1 k a)]) ∧ Below w.heap.size w w' := by
  have HA := Lib.hid ha
  clear ha
  go_enter Tryd.func5, Tryd.ntmps5
  go_wp2_with (go_at_call 11; with_reducible refine (c_check1 _ _ _ _ HA.out ?_).mono ?_; (focus (simp [go_sem]));rintro e w' ⟨rfl, rfl⟩)
  go_ret2
  exact ⟨rfl, ((Kp.refl w).alloc _ _).below⟩
theorem c_Text (k a : Int) (w : World) (ha : 0 ≤ a ∧ a < 18446744073709551616) (he : e1 k a = 0) (htab : TabP w) :
    Calls Tryd.prog 5 #[.int .i64 k, .int .u64 a] w fun e w' => e = .returned (.tuple #[.string ⟨(Lib.itoa (sv k a)).toArray⟩, .int .i64 0]) ∧ Below w.heap.size w w' := by
  have HA := Lib.hid ha
  have HT := Lib.hid htab
  clear htab
  cases hs : sg k with
  | true =>
    have q1 : wrap64 a = sv k a := w64_sv ha hs
    have HS := Lib.hid (show -9223372036854775808 ≤ sv k a ∧ sv k a ≤ 9223372036854775807 by rw [← q1]; unfold wrap64; omega)
    clear ha
    go_enter Tryd.func5, Tryd.ntmps5
    go_wp2_with (first | (go_at_call 11; with_reducible refine (c_check1 _ _ _ _ HA.out ?_).mono ?_; (focus (simp [go_sem]));rintro e w' ⟨rfl, rfl⟩) | (go_at_call 12; with_reducible refine (c_hasSign _ _).mono ?_; rintro e w' ⟨rfl, rfl⟩) | (go_at_call 13; refine (Tryd.strconv_FormatInt_10 (sv k a) HS.out.1 HS.out.2 _ (Lib.tabIs_alloc HT.out _)).mono ?_; rintro e w' ⟨rfl, kk, os, rfl⟩))
    go_ret2
    exact ⟨rfl, ((Kp.refl w).alloc _ _).below.trans ((below_grow _ _ _).mono (by simp))⟩
  | false =>
    have q1 : sv k a = a := sv_un hs
    rw [q1]
    obtain ⟨u, rfl⟩ := Int.eq_ofNat_of_zero_le ha.1
    have HU := Lib.hid (show u < 18446744073709551616 by omega)
    rw [Lib.itoa_nonneg]
    clear ha
    go_enter Tryd.func5, Tryd.ntmps5
    go_wp2_with (first | (go_at_call 11; with_reducible refine (c_check1 _ _ _ _ HA.out ?_).mono ?_; (focus (simp [go_sem]));rintro e w' ⟨rfl, rfl⟩) | (go_at_call 12; with_reducible refine (c_hasSign _ _).mono ?_; rintro e w' ⟨rfl, rfl⟩) | (go_at_call 14; with_reducible refine (c_FU u _ HU.out (Lib.tabIs_alloc HT.out _)).mono ?_; rintro e w' ⟨rfl, hb⟩))
    go_ret2
    exact ⟨rfl, ((Kp.refl w).alloc _ _).below.trans (hb.mono (by simp))⟩
theorem c_Less_bad (k a b : Int) (w : World) (ha : 0 ≤ a ∧ a < 18446744073709551616) (hb : 0 ≤ b ∧ b < 18446744073709551616) (he : (e2 k a b != 0) = true) :
    Calls Tryd.prog 4 #[.int .i64 k, .int .u64 a, .int .u64 b] w fun e w' => e = .returned (.tuple #[.bool false, .int .i64 (e2 k a b)]) ∧ Kp w w' := by
  have HA := Lib.hid ha
  have HB := Lib.hid hb
  clear ha hb
  go_enter Tryd.func4, Tryd.ntmps4
  go_wp2_with (go_at_call 11; with_reducible refine (c_check2 _ _ _ _ _ HA.out HB.out ?_ ?_).mono ?_; (focus (simp [go_sem])); (focus (simp [go_sem]));rintro e w' ⟨rfl, rfl⟩)
  go_ret2
  exact ⟨rfl, (Kp.refl w).alloc _ _⟩
theorem bb {a b c : World} (k : Below b.heap.size b c) (h : Below a.heap.size a b) : Below a.heap.size a c := h.trans (k.mono h.size)
theorem kbb {a b c : World} (k : Kp b c) (h : Below a.heap.size a b) : Below a.heap.size a c := bb k.below h
theorem ab {a w : World} (h : Below a.heap.size a w) (c : Array Value) (t : TypeId) : Below a.heap.size a (w.alloc (.cells c t)) := h.alloc h.size _
theorem tab_next {w w' : World} (h : TabP w) (hk : Kp w w') : Hid (TabP w') := tab_kp h hk
set_option maxRecDepth 100000 in
theorem law_WordTells (k a b : Int) (w : World) (ha : 0 ≤ a ∧ a < 18446744073709551616) (hb : 0 ≤ b ∧ b < 18446744073709551616) (htab : TabP w) :
    Calls Tryd.prog 3 #[.int .i64 k, .int .u64 a, .int .u64 b] w fun e w' => e = .returned (.bool true) ∧ Below w.heap.size w w' := by
  have HA := Lib.hid ha
  have HB := Lib.hid hb
  have HT := Lib.hid htab
  have HZ := Lib.hid (sz_rr (k := k) ha)
  clear htab
  cases h1 : (e1 k a != 0) with
  | true =>
    have h2 : (e2 k a b != 0) = true := by
      revert h1; unfold e1 e2; cases wh k <;> cases iz k a <;> simp
    have h3 : (e1 k a == 0) = false := by simpa using h1
    have h4 : (e2 k a b == 0) = false := by simpa using h2
    clear ha hb
    go_enter Tryd.func3, Tryd.ntmps3
    go_wp2_with (first | (go_at_call 4; with_reducible refine (c_Less_bad k a b _ HA.out HB.out h2).mono ?_; rintro e w' ⟨rfl, hk⟩) | (go_at_call 5; with_reducible refine (c_Text_bad k a _ HA.out h1).mono ?_; rintro e w' ⟨rfl, hk⟩) | (go_at_call 7; with_reducible refine (c_answers _).mono ?_; rintro e w' ⟨rfl, hk⟩) | (go_at_call 6; with_reducible refine (c_Bad1 _ _ _ _ HA.out ?_).mono ?_; (focus (simp [go_sem]));rintro e w' ⟨rfl, rfl⟩) | (go_at_call 6; with_reducible refine (c_Bad2 _ _ _ _ _ HA.out HB.out ?_ ?_).mono ?_; (focus (simp [go_sem])); (focus (simp [go_sem]));rintro e w' ⟨rfl, rfl⟩) | (go_at_call 9; with_reducible refine (c_Of k a _ HA.out).mono ?_; rintro e w' ⟨rfl, hk⟩) | (go_at_call 9; with_reducible refine (c_Of k b _ HB.out).mono ?_; rintro e w' ⟨rfl, hk⟩) | (go_at_call 8; with_reducible refine (c_Below _ _ _ _ _).mono ?_; rintro e w' ⟨rfl, hk⟩) | (go_at_call 10; with_reducible refine (c_Dig _ _ _ HZ.out).mono ?_; rintro e w' ⟨rfl, hk⟩))
    go_ret
    exact ⟨rfl, by (repeat (first | exact Below.refl _ _ | refine bb (by assumption) ?_ | refine kbb (by assumption) ?_ | refine ab ?_ _ _))⟩
  | false =>
    have h3 : e1 k a = 0 := by simpa using h1
    clear h1
    have hki : wh k = true ∧ iz k a = true := by
      revert h3; unfold e1; cases wh k <;> cases iz k a <;> simp
    obtain ⟨h, hi⟩ := hki
    have hdig : (Lib.itoa (sv k a) == dl (ng k a) (sz k a).toNat) = true := by rw [itoa_dl ha]; simp
    cases h2 : (e2 k a b != 0) with
    | true =>
      have h4 : (e2 k a b == 0) = false := by simpa using h2
      clear ha hb
      go_enter Tryd.func3, Tryd.ntmps3
      go_wp2_with (first | (go_at_call 4; with_reducible refine (c_Less_bad k a b _ HA.out HB.out h2).mono ?_; rintro e w' ⟨rfl, hk⟩; have ht := tab_next HT.out hk) | (go_at_call 5; with_reducible refine (c_Text k a _ HA.out h3 ht.out).mono ?_; rintro e w' ⟨rfl, hk⟩) | (go_at_call 7; with_reducible refine (c_answers _).mono ?_; rintro e w' ⟨rfl, hk⟩) | (go_at_call 6; with_reducible refine (c_Bad1 _ _ _ _ HA.out ?_).mono ?_; (focus (simp [go_sem]));rintro e w' ⟨rfl, rfl⟩) | (go_at_call 6; with_reducible refine (c_Bad2 _ _ _ _ _ HA.out HB.out ?_ ?_).mono ?_; (focus (simp [go_sem])); (focus (simp [go_sem]));rintro e w' ⟨rfl, rfl⟩) | (go_at_call 9; with_reducible refine (c_Of k a _ HA.out).mono ?_; rintro e w' ⟨rfl, hk⟩) | (go_at_call 9; with_reducible refine (c_Of k b _ HB.out).mono ?_; rintro e w' ⟨rfl, hk⟩) | (go_at_call 8; with_reducible refine (c_Below _ _ _ _ _).mono ?_; rintro e w' ⟨rfl, hk⟩) | (go_at_call 10; with_reducible refine (c_Dig _ _ _ HZ.out).mono ?_; rintro e w' ⟨rfl, hk⟩))
      go_ret
      exact ⟨rfl, by (repeat (first | exact Below.refl _ _ | refine bb (by assumption) ?_ | refine kbb (by assumption) ?_ | refine ab ?_ _ _))⟩
    | false =>
      have h4 : e2 k a b = 0 := by simpa using h2
      have hj : iz k b = true := by
        revert h4; unfold e2; rw [h, hi]; cases iz k b <;> simp
      have hbl : (decide (sv k a < sv k b) == bel (ng k a) (sz k a) (ng k b) (sz k b)) = true := by rw [bel_sv ha hb]; simp
      clear ha hb h2
      go_enter Tryd.func3, Tryd.ntmps3
      go_wp2_with (first | (go_at_call 4; with_reducible refine (c_Less k a b _ HA.out HB.out h hi hj).mono ?_; rintro e w' ⟨rfl, hk⟩; have ht := tab_next HT.out hk) | (go_at_call 5; with_reducible refine (c_Text k a _ HA.out h3 ht.out).mono ?_; rintro e w' ⟨rfl, hk⟩) | (go_at_call 7; with_reducible refine (c_answers _).mono ?_; rintro e w' ⟨rfl, hk⟩) | (go_at_call 6; with_reducible refine (c_Bad1 _ _ _ _ HA.out ?_).mono ?_; (focus (simp [go_sem]));rintro e w' ⟨rfl, rfl⟩) | (go_at_call 6; with_reducible refine (c_Bad2 _ _ _ _ _ HA.out HB.out ?_ ?_).mono ?_; (focus (simp [go_sem])); (focus (simp [go_sem]));rintro e w' ⟨rfl, rfl⟩) | (go_at_call 9; with_reducible refine (c_Of k a _ HA.out).mono ?_; rintro e w' ⟨rfl, hk⟩) | (go_at_call 9; with_reducible refine (c_Of k b _ HB.out).mono ?_; rintro e w' ⟨rfl, hk⟩) | (go_at_call 8; with_reducible refine (c_Below _ _ _ _ _).mono ?_; rintro e w' ⟨rfl, hk⟩) | (go_at_call 10; with_reducible refine (c_Dig _ _ _ HZ.out).mono ?_; rintro e w' ⟨rfl, hk⟩))
      go_ret
      exact ⟨rfl, by (repeat (first | exact Below.refl _ _ | refine bb (by assumption) ?_ | refine kbb (by assumption) ?_ | refine ab ?_ _ _))⟩
end Go.Proofs.YtlpcnkjnjkijbaaDoor
