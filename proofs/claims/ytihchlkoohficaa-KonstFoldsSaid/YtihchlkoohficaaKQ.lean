/- Plain facts on constants: that what the program works out by signs and sizes is the product, the quotient, the rest, the shifted number. Conditions: those each theorem names. -/
import Derived.Test.YtihchlkoohficaaKP
namespace Go.Proofs.Ytihchlkoohficaa.Plain

theorem vl_not (b : Bool) (n : Int) : vl (!b) n = -vl b n := by cases b <;> simp [vl]
theorem vl_mul (a b : Bool) (m n : Int) : vl a m * vl b n = vl (a != b) (m * n) := by
  cases a <;> cases b <;> simp [vl, Int.neg_mul, Int.mul_neg]
theorem ft_big {a : Bool} {p : Int} (h : 18446744073709551616 ≤ p) : ft (vl a p) = false := by
  cases a <;> exact ft_no (by simp [vl]; omega)
theorem ft_tvno (b : Bool) (n : Int) : ft (tv b n false) = false := ft_no (by simp [tv])
theorem mul_v {a b : Bool} {m n : Int} (hm : 0 ≤ m) (hn : 0 ≤ n) :
    tv (a != b) (m * n % 18446744073709551616) (m * n / 18446744073709551616 == 0) = vl a m * vl b n ∨ (ft (tv (a != b) (m * n % 18446744073709551616) (m * n / 18446744073709551616 == 0)) = false ∧ ft (vl a m * vl b n) = false) := by
  rw [vl_mul]
  have hp : 0 ≤ m * n := Int.mul_nonneg hm hn
  generalize m * n = p at *
  by_cases h : p < 18446744073709551616
  · left
    have e1 : (p / 18446744073709551616 == 0) = true := by simp; omega
    have e2 : p % 18446744073709551616 = p := by omega
    rw [e1, e2]; rfl
  · right
    have e1 : (p / 18446744073709551616 == 0) = false := by simp; omega
    rw [e1]
    exact ⟨ft_tvno _ _, ft_big (by omega)⟩
theorem quo_v {a b : Bool} {m n : Int} : tv (a != b) (m.tdiv n) true = (vl a m).tdiv (vl b n) := by
  cases a <;> cases b <;> simp [tv, vl, Int.neg_tdiv, Int.tdiv_neg]
theorem rem_v {a b : Bool} {m n : Int} : tv a (m.tmod n) true = (vl a m).tmod (vl b n) := by
  cases a <;> cases b <;> simp [tv, vl, Int.neg_tmod, Int.tmod_neg]
theorem shl_v {a : Bool} {m n : Int} (hm : 0 ≤ m ∧ m < 18446744073709551616) :
    tv a (IntKind.u64.wrap (m * 2 ^ min n.toNat 64)) (IntKind.u64.wrap (m * 2 ^ min n.toNat 64) / 2 ^ min n.toNat 64 == m) = vl a m * 2 ^ min n.toNat 64 ∨ (ft (tv a (IntKind.u64.wrap (m * 2 ^ min n.toNat 64)) (IntKind.u64.wrap (m * 2 ^ min n.toNat 64) / 2 ^ min n.toNat 64 == m)) = false ∧ ft (vl a m * 2 ^ min n.toNat 64) = false) := by
  have hd := pow_pos2 (min n.toNat 64)
  generalize (2 : Int) ^ min n.toNat 64 = d at *
  have e0 : vl a m * d = vl a (m * d) := by cases a <;> simp [vl, Int.neg_mul]
  rw [e0, IntKind.wrap_u64]
  have hp : 0 ≤ m * d := Int.mul_nonneg hm.1 (Int.le_of_lt hd)
  by_cases h : m * d < 18446744073709551616
  · left
    have e2 : m * d % 18446744073709551616 = m * d := by omega
    have e3 : m * d / d = m := Int.mul_ediv_cancel m (by omega)
    rw [e2, e3]; simp [tv]
  · right
    have h1 : m * d % 18446744073709551616 < m * d := by omega
    have h2 : m * d % 18446744073709551616 / d < m := Int.ediv_lt_of_lt_mul hd h1
    have e1 : (m * d % 18446744073709551616 / d == m) = false := by simp; omega
    rw [e1]
    exact ⟨ft_tvno _ _, ft_big (by omega)⟩
theorem neg_floor {m d : Int} (hd : 0 < d) : -((m - 1) / d + 1) = (-m) / d := by
  have h1 := Int.mul_ediv_add_emod (m - 1) d
  have h2 := Int.emod_nonneg (m - 1) (b := d) (by omega)
  have h3 := Int.emod_lt_of_pos (m - 1) hd
  generalize (m - 1) / d = q at *
  generalize (m - 1) % d = r at *
  have e : -m = (d - r - 1) + d * (-(q + 1)) := by rw [Int.mul_neg, Int.mul_add]; omega
  rw [e, Int.add_mul_ediv_left _ _ (by omega), Int.ediv_eq_zero_of_lt (by omega) (by omega)]
  omega
theorem shr_v {a : Bool} {m : Int} (j : Nat) : tv a (if a then (m - 1) / 2 ^ j + 1 else m / 2 ^ j) true = vl a m / 2 ^ j := by
  cases a with
  | false => simp [tv, vl]
  | true => simp only [tv, vl, if_true]; exact neg_floor (pow_pos2 j)
/-- The lesser of two. -/
theorem ls_v {a b : Bool} {m n : Int} (ha : kc a m = true) (hb : kc b n = true) (hm : 0 ≤ m) (hn : 0 ≤ n) :
    (if a != b then a else if a then decide (n < m) else decide (m < n)) = decide (vl a m < vl b n) := by
  cases a <;> cases b <;> simp [kc] at ha hb <;> simp [vl] <;> omega
theorem eq_v {a b : Bool} {m n : Int} (ha : kc a m = true) (hb : kc b n = true) (hm : 0 ≤ m) (hn : 0 ≤ n) :
    (a == b && m == n) = decide (vl a m = vl b n) := by
  cases a <;> cases b <;> simp [kc] at ha hb <;> simp [vl, Bool.beq_eq_decide_eq] <;> omega
end Go.Proofs.Ytihchlkoohficaa.Plain
