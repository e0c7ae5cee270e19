/- Plain facts on constants: a sign and a size, the number that they stand for, and what is told of a number: its sign and its size, or that it is no constant. No conditions but those each theorem names. -/
import Derived.Test.YtihchlkoohficaaDoorPlain2
namespace Go.Proofs.YtihchlkoohficaaDoor.Plain

/-- The number of a sign and a size. -/
def vl (b : Bool) (n : Int) : Int := if b then -n else n
/-- Is it a sound constant? -/
def kc (b : Bool) (n : Int) : Bool := !b || (decide (1 ≤ n) && decide (n ≤ 9223372036854775808))
/-- Is the number a constant? -/
def ft (v : Int) : Bool := decide (-9223372036854775808 ≤ v) && decide (v < 18446744073709551616)
/-- What is told of a number: sign, size, error. -/
def rn (v : Int) : Bool := ft v && decide (v < 0)
def rs (v : Int) : Int := if ft v then (if v < 0 then -v else v) else 0
def re (v : Int) : Int := if ft v then 0 else 10
/-- What was worked out, if it was. -/
def tv (b : Bool) (n : Int) (ok : Bool) : Int := if ok then vl b n else 18446744073709551616
/-- The sum's sign, size, and whether the size has 64 bits. -/
def aB (a : Bool) (m : Int) (b : Bool) (n : Int) : Bool := if a == b then a else if m < n then b else a
def aN (a : Bool) (m : Int) (b : Bool) (n : Int) : Int := if a == b then (m + n) % 18446744073709551616 else if m < n then n - m else m - n
def aK (a : Bool) (m : Int) (b : Bool) (n : Int) : Bool := if a == b then decide (m + n < 18446744073709551616) else true

theorem ft_of {v : Int} (h : -9223372036854775808 ≤ v ∧ v < 18446744073709551616) : ft v = true := by simp [ft, h.1, h.2]
theorem ft_no {v : Int} (h : v < -9223372036854775808 ∨ 18446744073709551616 ≤ v) : ft v = false := by
  simp [ft]; omega
theorem ft_iff {v : Int} (h : ft v = true) : -9223372036854775808 ≤ v ∧ v < 18446744073709551616 := by simpa [ft] using h
theorem ft_out {v : Int} (h : ft v = false) : v < -9223372036854775808 ∨ 18446744073709551616 ≤ v := by
  simp [ft] at h; omega
theorem r_pos {v : Int} (h : 0 ≤ v ∧ v < 18446744073709551616) : rn v = false ∧ rs v = v ∧ re v = 0 := by
  have e := ft_of (v := v) (by omega)
  simp [rn, rs, re, e]; omega
theorem r_neg {v : Int} (h : -9223372036854775808 ≤ v ∧ v < 0) : rn v = true ∧ rs v = -v ∧ re v = 0 := by
  have e := ft_of (v := v) (by omega)
  simp [rn, rs, re, e]; omega
theorem r_none {v : Int} (h : v < -9223372036854775808 ∨ 18446744073709551616 ≤ v) : rn v = false ∧ rs v = 0 ∧ re v = 10 := by
  have e := ft_no h
  simp [rn, rs, re, e]
theorem r_range (v : Int) : 0 ≤ rs v ∧ rs v < 18446744073709551616 := by
  unfold rs
  cases h : ft v with
  | false => simp
  | true => have := ft_iff h; simp; split <;> omega
/-- What is told is sound. -/
theorem r_kc (v : Int) : kc (rn v) (rs v) = true := by
  cases h : ft v with
  | false => simp [kc, rn, h]
  | true =>
    have := ft_iff h
    by_cases hv : v < 0
    · have := r_neg (v := v) (by omega); rw [this.1, this.2.1]; simp [kc]; omega
    · have := r_pos (v := v) (by omega); rw [this.1]; simp [kc]
/-- And it is the number. -/
theorem r_vl {v : Int} (h : ft v = true) : vl (rn v) (rs v) = v := by
  have := ft_iff h
  by_cases hv : v < 0
  · have := r_neg (v := v) (by omega); rw [this.1, this.2.1]; simp [vl]
  · have := r_pos (v := v) (by omega); rw [this.1, this.2.1]; simp [vl]
/-- A sound constant is its number. -/
theorem kc_ft {b : Bool} {n : Int} (h : kc b n = true) (hn : 0 ≤ n ∧ n < 18446744073709551616) : ft (vl b n) = true := by
  cases b with
  | false => exact ft_of (by simp [vl]; omega)
  | true => simp [kc] at h; exact ft_of (by simp [vl]; omega)
theorem kc_rn {b : Bool} {n : Int} (h : kc b n = true) (hn : 0 ≤ n ∧ n < 18446744073709551616) : rn (vl b n) = b ∧ rs (vl b n) = n ∧ re (vl b n) = 0 := by
  cases b with
  | false => exact r_pos (by simp [vl]; omega)
  | true =>
    simp [kc] at h
    have := r_neg (v := vl true n) (by simp [vl]; omega)
    refine ⟨this.1, ?_, this.2.2⟩
    rw [this.2.1]; simp [vl]
theorem vl_inj {a b : Bool} {m n : Int} (ha : kc a m = true) (hb : kc b n = true) (hm : 0 ≤ m ∧ m < 18446744073709551616) (hn : 0 ≤ n ∧ n < 18446744073709551616) (h : vl a m = vl b n) : a = b ∧ m = n := by
  have h1 := kc_rn ha hm
  have h2 := kc_rn hb hn
  rw [h] at h1
  exact ⟨h1.1.symm.trans h2.1, h1.2.1.symm.trans h2.2.1⟩

theorem tv_no (b : Bool) (n : Int) : rn (tv b n false) = false ∧ rs (tv b n false) = 0 ∧ re (tv b n false) = 10 := r_none (by simp [tv])
theorem tv_pos {n : Int} (h : 0 ≤ n ∧ n < 18446744073709551616) : rn (tv false n true) = false ∧ rs (tv false n true) = n ∧ re (tv false n true) = 0 := r_pos (v := n) h
theorem tv_zero : rn (tv true 0 true) = false ∧ rs (tv true 0 true) = 0 ∧ re (tv true 0 true) = 0 := by decide
theorem tv_neg {n : Int} (h : 1 ≤ n ∧ n ≤ 9223372036854775808) : rn (tv true n true) = true ∧ rs (tv true n true) = n ∧ re (tv true n true) = 0 := by
  have := r_neg (v := -n) (by omega)
  have e : tv true n true = -n := by simp [tv, vl]
  rw [e]; refine ⟨this.1, ?_, this.2.2⟩; rw [this.2.1]; omega
theorem tv_low {n : Int} (h : 9223372036854775808 < n) : rn (tv true n true) = false ∧ rs (tv true n true) = 0 ∧ re (tv true n true) = 10 := r_none (by simp [tv, vl]; omega)

/-- Two that are alike where they are told. -/
theorem tell_same {u v : Int} (h : u = v ∨ (ft u = false ∧ ft v = false)) : rn u = rn v ∧ rs u = rs v ∧ re u = re v := by
  rcases h with rfl | ⟨h1, h2⟩
  · exact ⟨rfl, rfl, rfl⟩
  · simp [rn, rs, re, h1, h2]
theorem add_r {a b : Bool} {m n : Int} (hm : 0 ≤ m ∧ m < 18446744073709551616) (hn : 0 ≤ n ∧ n < 18446744073709551616) : 0 ≤ aN a m b n ∧ aN a m b n < 18446744073709551616 := by
  unfold aN; split <;> (try split) <;> omega
theorem add_v {a b : Bool} {m n : Int} (hm : 0 ≤ m ∧ m < 18446744073709551616) (hn : 0 ≤ n ∧ n < 18446744073709551616) :
    tv (aB a m b n) (aN a m b n) (aK a m b n) = vl a m + vl b n ∨ (ft (tv (aB a m b n) (aN a m b n) (aK a m b n)) = false ∧ ft (vl a m + vl b n) = false) := by
  unfold aB aN aK tv
  cases a <;> cases b <;> simp only [vl, beq_self_eq_true, if_true, if_false, Bool.false_eq_true, beq_iff_eq, reduceCtorEq]
  · by_cases h : m + n < 18446744073709551616
    · left; simp [h]; omega
    · right; simp [h]; exact ⟨ft_no (by omega), ft_no (by omega)⟩
  · left; split <;> simp <;> omega
  · left; split <;> simp <;> omega
  · by_cases h : m + n < 18446744073709551616
    · left; simp [h]; omega
    · right; simp [h]; exact ⟨ft_no (by omega), ft_no (by omega)⟩
end Go.Proofs.YtihchlkoohficaaDoor.Plain
