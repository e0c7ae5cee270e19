/- What Text of konst and Digits, In and Word of the reference answer, in the translation of KonstWords. Condition: a size is between 0 and 2 to the 64; the library's table of powers of ten holds them. -/
import Derived.Test.YtihchlkoohficaaDoorDC
namespace Go.Proofs.YtihchlkoohficaaDoor
open Go.RowKit Go.Sort Plain
set_option linter.unusedVariables false
set_option linter.unusedSimpArgs false
theorem g_pow : Tryd.prog.globalNamed "internal/strconv.uint64pow10" = some 0 := by kernel_rfl
abbrev TabP (w : World) : Prop := Lib.TabIs Tryd.prog w "internal/strconv.uint64pow10" .u64 Lib.pow10Tab
theorem tab_kp {w w' : World} (h : TabP w) (hk : Kp w w') : TabP w' := Joins.tab_stays g_pow h hk.below (Nat.le_refl _)
/-- The digits, with - ahead. -/
def dl (neg : Bool) (u : Nat) : List UInt8 := if neg then 45 :: Lib.decDigits u else Lib.decDigits u
theorem c_Dig (z : Int) (neg : Bool) (w : World) (hz : 0 ≤ z ∧ z < 18446744073709551616) :
    Calls Tryd.prog 9 #[.agg #[.bool neg, .int .u64 z]] w fun e w' => e = .returned (.string ⟨(dl neg z.toNat).toArray⟩) ∧ Kp w w' := by
  obtain ⟨u, rfl⟩ := Int.eq_ofNat_of_zero_le hz.1
  exact c_Digits u neg w (by omega)
theorem bb {a b c : World} (k : Below b.heap.size b c) (h : Below a.heap.size a b) : Below a.heap.size a c := h.trans (k.mono h.size)
theorem kbb {a b c : World} (k : Kp b c) (h : Below a.heap.size a b) : Below a.heap.size a c := bb k.below h
theorem ab {a w : World} (h : Below a.heap.size a w) (c : Array Value) (t : TypeId) : Below a.heap.size a (w.alloc (.cells c t)) := h.alloc h.size _
theorem sb {a w : World} (h : Below a.heap.size a w) {p : Addr} (hp : a.heap.size ≤ p.block) (v : Value) : Below a.heap.size a (w.setCell p v) := h.setCell hp v
theorem db {a w : World} (h : Below a.heap.size a w) : Below a.heap.size a w.drew := h.drew
theorem keepb {w w' : World} (hk : Below w.heap.size w w') {b o : Nat} {v : Value} (hc : w.cell? ⟨b, o, none⟩ = some v) : w'.cell? ⟨b, o, none⟩ = some v := by
  have hb : b < w.heap.size := by
    apply Classical.byContradiction
    intro hn
    have : w.heap[b]? = none := by simp; omega
    simp [World.cell?, this] at hc
  rw [hk.cell (p := ⟨b, o, none⟩) hb, hc]
theorem app45 (l : List UInt8) : (ByteArray.mk #[45]) ++ (ByteArray.mk l.toArray) = ByteArray.mk (45 :: l).toArray := app1 45 l
theorem c_digits (z : Int) (neg : Bool) (w : World) (hz : 0 ≤ z ∧ z < 18446744073709551616) (htab : TabP w) :
    Calls Tryd.prog 21 #[.agg #[.bool neg, .int .u64 z]] w fun e w' => e = .returned (.string ⟨(dl neg z.toNat).toArray⟩) ∧ Below w.heap.size w w' := by
  obtain ⟨u, rfl⟩ := Int.eq_ofNat_of_zero_le hz.1
  have HU := Lib.hid (show u < 18446744073709551616 by omega)
  have HT := Lib.hid htab
  have hl : (Lib.decDigits u).length ≤ 20 := by rw [Lib.decDigits_length]; exact nd20 HU.out
  clear htab hz
  rw [show (((u : Nat) : Int)).toNat = u by omega]
  cases neg with
  | true =>
    have e : dl true u = 45 :: Lib.decDigits u := rfl
    rw [e]; clear e
    go_enter Tryd.func21, Tryd.ntmps21
    go_wp2_with ((go_at_call 29; with_reducible refine (c_FU u _ HU.out (Lib.tabIs_alloc HT.out _)).mono ?_; rintro e w' ⟨rfl, hb⟩; have hc0 := keepb hb (b := w.heap.size) (o := 0) (v := .bool true) (by simp [go_sem])))
    go_ret
    exact ⟨ret_str (by rw [app45]), bb hb (ab (Below.refl _ _) _ _)⟩
  | false =>
    have e : dl false u = Lib.decDigits u := rfl
    rw [e]; clear e
    go_enter Tryd.func21, Tryd.ntmps21
    go_wp2_with ((go_at_call 29; with_reducible refine (c_FU u _ HU.out (Lib.tabIs_alloc HT.out _)).mono ?_; rintro e w' ⟨rfl, hb⟩; have hc0 := keepb hb (b := w.heap.size) (o := 0) (v := .bool false) (by simp [go_sem])))
    go_ret
    exact ⟨rfl, bb hb (ab (Below.refl _ _) _ _)⟩
theorem x_bad (b : Bool) (n : Int) (w : World) (hk : kc b n = false) :
    Calls Tryd.prog 6 #[.bool b, .int .u64 n] w fun e w' => e = .returned (.tuple #[.string ⟨#[]⟩, .int .i64 1]) ∧ Below w.heap.size w w' := by
  go_enter Tryd.func6, Tryd.ntmps6
  go_wp2_with ((go_at_call 16; with_reducible refine (c_sound b n _).mono ?_; rintro e w1 ⟨rfl, hk⟩))
  go_ret2
  exact ⟨rfl, Kp.below (by (repeat (first | exact Kp.refl _ | refine kback (by assumption) ?_ | refine Kp.setCell ?_ (by first | omega | (simp; done) | (simp; omega)) _ | refine Kp.alloc ?_ _ _ | refine Kp.drewN ?_ _ | refine Kp.drew ?_)))⟩
theorem x_good (b : Bool) (n : Int) (w : World) (hn : 0 ≤ n ∧ n < 18446744073709551616) (hk : kc b n = true) (htab : TabP w) :
    Calls Tryd.prog 6 #[.bool b, .int .u64 n] w fun e w' => e = .returned (.tuple #[.string ⟨(dl b n.toNat).toArray⟩, .int .i64 0]) ∧ Below w.heap.size w w' := by
  have HN := Lib.hid hn
  have HT := Lib.hid htab
  have HX := Lib.hid (fun (w' : World) (h : Kp w w') => tab_kp htab h)
  clear hn htab
  go_enter Tryd.func6, Tryd.ntmps6
  go_wp2_with (first | ((go_at_call 16; with_reducible refine (c_sound b n _).mono ?_; rintro e w1 ⟨rfl, hk⟩; have hc0 := keepc hk (b := w.heap.size) (o := 0) (v := .bool b) (by simp [go_sem]); have hc1 := keepc hk (b := w.heap.size) (o := 1) (v := .int .u64 n) (by simp [go_sem]); have HK := Lib.hid (show Kp w w1 from (by (repeat (first | exact Kp.refl _ | refine kback (by assumption) ?_ | refine Kp.setCell ?_ (by first | omega | (simp; done) | (simp; omega)) _ | refine Kp.alloc ?_ _ _ | refine Kp.drewN ?_ _ | refine Kp.drew ?_)))))) | (go_at_call 21; with_reducible refine (c_digits n b _ HN.out (HX.out _ HK.out)).mono ?_; rintro e w2 ⟨rfl, hb⟩))
  go_ret2
  exact ⟨rfl, bb hb HK.out.below⟩
/-! ### The reference's In and Word -/
def tp (k : Int) : Int := if k ≤ 3 then 128 else if k ≤ 5 then 2147483648 else 9223372036854775808
def inV (k : Int) (b : Bool) (n : Int) : Bool := if b then sg k && decide (n ≤ tp k) else if sg k then decide (n < tp k) else decide (n ≤ tp k - 1 + tp k)
theorem c_top (k : Int) (w : World) (h : wh k = true) : Calls Tryd.prog 25 #[.int .i64 k] w fun e w' => e = .returned (.int .u64 (tp k)) ∧ w' = w := by
  rcases wh_iff h with rfl | rfl | rfl | rfl | rfl | rfl
  all_goals
    clear h
    go_enter Tryd.func25, Tryd.ntmps25
    go_wp2_with ((go_at_call 34; with_reducible refine (c_rBits _ _).mono ?_; rintro e w1 ⟨rfl, rfl⟩))
    go_ret
    exact ⟨ret_int (by decide +kernel), rfl⟩
theorem c_rSigned' (k : Int) (w : World) : Calls Tryd.prog 24 #[.int .i64 k] w fun e w' => e = .returned (.bool (sg k)) ∧ w' = w := (c_rSigned k w).mono fun _ _ q => ⟨q.1, q.2.symm⟩
theorem tp_r (k : Int) : 0 ≤ tp k ∧ tp k ≤ 9223372036854775808 ∧ 1 ≤ tp k := by unfold tp; split <;> (try split) <;> omega
theorem c_In (k : Int) (b : Bool) (n : Int) (w : World) (h : wh k = true) : Calls Tryd.prog 13 #[.int .i64 k, .agg #[.bool b, .int .u64 n]] w fun e w' => e = .returned (.bool (inV k b n)) ∧ Kp w w' := by
  have ht := tp_r k
  have w1 : IntKind.u64.wrap (tp k - 1) = tp k - 1 := u64_id (by omega)
  have w2 : IntKind.u64.wrap (tp k - 1 + tp k) = tp k - 1 + tp k := u64_id (by omega)
  clear ht
  cases b with
  | true =>
    cases hs : sg k with
    | true =>
      have e : inV k true n = decide (n ≤ tp k) := by simp [inV, hs]
      rw [e]; clear e
      go_enter Tryd.func13, Tryd.ntmps13
      go_wp2_with fail
      go_quiet (first | (go_at_call 24; exact Calls.quiet_of_same (c_rSigned' _ _)) | (go_at_call 25; exact Calls.quiet_of_same (c_top _ _ h)))
      go_wp2_with fail
      go_ret
      exact ⟨rfl, (by (repeat (first | exact Kp.refl _ | refine kback (by assumption) ?_ | refine Kp.setCell ?_ (by first | omega | (simp; done) | (simp; omega)) _ | refine Kp.alloc ?_ _ _ | refine Kp.drewN ?_ _ | refine Kp.drew ?_)))⟩
    | false =>
      have e : inV k true n = false := by simp [inV, hs]
      rw [e]; clear e
      go_enter Tryd.func13, Tryd.ntmps13
      go_wp2_with fail
      go_quiet (first | (go_at_call 24; exact Calls.quiet_of_same (c_rSigned' _ _)) | (go_at_call 25; exact Calls.quiet_of_same (c_top _ _ h)))
      go_wp2_with fail
      go_ret
      exact ⟨rfl, (by (repeat (first | exact Kp.refl _ | refine kback (by assumption) ?_ | refine Kp.setCell ?_ (by first | omega | (simp; done) | (simp; omega)) _ | refine Kp.alloc ?_ _ _ | refine Kp.drewN ?_ _ | refine Kp.drew ?_)))⟩
  | false =>
    cases hs : sg k with
    | true =>
      have e : inV k false n = decide (n < tp k) := by simp [inV, hs]
      rw [e]; clear e
      go_enter Tryd.func13, Tryd.ntmps13
      go_wp2_with ((go_at_call 24; with_reducible refine (c_rSigned _ _).mono ?_; rintro e w1 ⟨rfl, rfl⟩))
      go_quiet ((go_at_call 25; exact Calls.quiet_of_same (c_top _ _ h)))
      go_wp2_with fail
      go_ret
      exact ⟨rfl, (by (repeat (first | exact Kp.refl _ | refine kback (by assumption) ?_ | refine Kp.setCell ?_ (by first | omega | (simp; done) | (simp; omega)) _ | refine Kp.alloc ?_ _ _ | refine Kp.drewN ?_ _ | refine Kp.drew ?_)))⟩
    | false =>
      have e : inV k false n = decide (n ≤ tp k - 1 + tp k) := by simp [inV, hs]
      rw [e]; clear e
      go_enter Tryd.func13, Tryd.ntmps13
      go_wp2_with ((go_at_call 24; with_reducible refine (c_rSigned _ _).mono ?_; rintro e w1 ⟨rfl, rfl⟩))
      go_quiet ((go_at_call 25; exact Calls.quiet_of_same (c_top _ _ h)))
      go_wp2_with fail
      go_ret
      exact ⟨rfl, (by (repeat (first | exact Kp.refl _ | refine kback (by assumption) ?_ | refine Kp.setCell ?_ (by first | omega | (simp; done) | (simp; omega)) _ | refine Kp.alloc ?_ _ _ | refine Kp.drewN ?_ _ | refine Kp.drew ?_)))⟩
theorem c_Word (b : Bool) (n : Int) (w : World) : Calls Tryd.prog 14 #[.agg #[.bool b, .int .u64 n]] w fun e w' => e = .returned (.int .u64 (wd b n)) ∧ Kp w w' := by
  cases b with
  | false =>
    show Calls Tryd.prog 14 #[.agg #[.bool false, .int .u64 n]] w fun e w' => e = .returned (.int .u64 n) ∧ Kp w w'
    go_enter Tryd.func14, Tryd.ntmps14
    go_wp2_with fail
    go_ret
    exact ⟨rfl, (by (repeat (first | exact Kp.refl _ | refine kback (by assumption) ?_ | refine Kp.setCell ?_ (by first | omega | (simp; done) | (simp; omega)) _ | refine Kp.alloc ?_ _ _ | refine Kp.drewN ?_ _ | refine Kp.drew ?_)))⟩
  | true =>
    show Calls Tryd.prog 14 #[.agg #[.bool true, .int .u64 n]] w fun e w' => e = .returned (.int .u64 (IntKind.u64.wrap (-n))) ∧ Kp w w'
    go_enter Tryd.func14, Tryd.ntmps14
    go_wp2_with fail
    go_ret
    exact ⟨rfl, (by (repeat (first | exact Kp.refl _ | refine kback (by assumption) ?_ | refine Kp.setCell ?_ (by first | omega | (simp; done) | (simp; omega)) _ | refine Kp.alloc ?_ _ _ | refine Kp.drewN ?_ _ | refine Kp.drew ?_)))⟩
/-- What the program asks of the word is what the reference asks of the number. -/
theorem in_v {k : Int} {b : Bool} {n : Int} (h : wh k = true) (hk : kc b n = true) (hn : 0 ≤ n ∧ n < 18446744073709551616) :
    inV k b n = (iz k (wd b n) && (ng k (wd b n) == b && sz k (wd b n) == n)) := by
  rcases wh_iff h with rfl | rfl | rfl | rfl | rfl | rfl <;> cases b <;> rw [Bool.eq_iff_iff] <;> simp [kc] at hk <;> simp only [iz, wr2, wr3, wr4, wr5, wr6, wr7] <;> simp [inV, tp, wd, ng, sz, sg, IntKind.wrap_u64] <;> (try split) <;> (try split) <;> omega
end Go.Proofs.YtihchlkoohficaaDoor
