/- Plain facts on products, quotients and rests of sizes with signs. Conditions: those each theorem names. -/
import Derived.Test.YtlpcnkjnjkijbaaPlain2
namespace Go.Proofs.Ytlpcnkjnjkijbaa.Plain
theorem sub_u64 {k : Int} (h : wh k = true) (a b : Int) : wr k (IntKind.u64.wrap (a + IntKind.u64.wrap (-b))) = wr k (a - b) := by
  rw [wr_u64 h, IntKind.wrap_u64]
  have := wr_m64 h (a - b) (-(-b / 18446744073709551616))
  rw [← this]; congr 1; omega
/-- A word is its number, up to 2 to the 64. -/
theorem sv_ex (k a : Int) : ∃ t, a = sv k a + 18446744073709551616 * t := by
  unfold sv; split
  · exact ⟨1, by omega⟩
  · exact ⟨0, by omega⟩
theorem sv_sz (k a : Int) : sv k a = if ng k a then -(sz k a) else sz k a := by
  unfold sv sz; split <;> omega
theorem sz_r {k a : Int} (ha : 0 ≤ a ∧ a < 18446744073709551616) : 0 ≤ sz k a ∧ sz k a < 18446744073709551616 := by
  unfold sz; split
  · rename_i h
    have hs := ng_sg h
    have : 9223372036854775808 ≤ a := by simp [ng, hs] at h; exact h
    omega
  · omega
theorem mul_sv {k : Int} (h : wh k = true) (a b : Int) : wr k (sv k a * sv k b) = wr k (a * b) := by
  obtain ⟨t, ht⟩ := sv_ex k a
  obtain ⟨u, hu⟩ := sv_ex k b
  have e : a * b = sv k a * sv k b + 18446744073709551616 * (sv k a * u + t * sv k b + 18446744073709551616 * t * u) := by
    have e1 : a * b = (sv k a + 18446744073709551616 * t) * (sv k b + 18446744073709551616 * u) := by rw [← ht, ← hu]
    rw [e1]; grind
  rw [e, wr_m64 h]
theorem neg_u64 {k : Int} (h : wh k = true) (x : Int) : wr k (-(IntKind.u64.wrap x)) = wr k (-x) := by
  rw [IntKind.wrap_u64]
  have := wr_m64 h (-x) (x / 18446744073709551616)
  rw [← this]; congr 1; omega
theorem mul_sz {k a b : Int} (h : wh k = true) (_ha : 0 ≤ a ∧ a < 18446744073709551616) (_hb : 0 ≤ b ∧ b < 18446744073709551616) :
    wr k (if (ng k a != ng k b) = true then -(IntKind.u64.wrap (sz k a * sz k b)) else IntKind.u64.wrap (sz k a * sz k b)) = wr k (a * b) := by
  rw [← mul_sv h a b, sv_sz k a, sv_sz k b]
  cases ng k a <;> cases ng k b <;> simp [wr_u64 h, neg_u64 h, Int.neg_mul, Int.mul_neg]
/-- A size with a sign, wrapped. -/
def sn (k : Int) (neg : Bool) (n : Int) : Int := wr k (if neg then -n else n)
theorem mul_sn {k a b : Int} (h : wh k = true) (ha : 0 ≤ a ∧ a < 18446744073709551616) (hb : 0 ≤ b ∧ b < 18446744073709551616) :
    sn k (ng k a != ng k b) (IntKind.u64.wrap (sz k a * sz k b)) = wr k (a * b) := mul_sz h ha hb
theorem quo_sn {k a b : Int} (h : wh k = true) :
    sn k (ng k a != ng k b) (IntKind.u64.wrap ((sz k a).tdiv (sz k b))) = wr k ((sv k a).tdiv (sv k b)) := by
  unfold sn
  rw [sv_sz k a, sv_sz k b]
  cases ng k a <;> cases ng k b <;> simp [wr_u64 h, neg_u64 h, Int.neg_tdiv, Int.tdiv_neg]
theorem sz_0 {k b : Int} (hb : 0 ≤ b ∧ b < 18446744073709551616) (h : b ≠ 0) : ¬ sz k b = 0 := by unfold sz; split <;> omega
theorem rem_sn {k a b : Int} (ha : 0 ≤ a ∧ a < 18446744073709551616) (hb : 0 ≤ b ∧ b < 18446744073709551616) (h0 : b ≠ 0) :
    sn k (ng k a) (IntKind.u64.wrap (sz k a - IntKind.u64.wrap (IntKind.u64.wrap ((sz k a).tdiv (sz k b)) * sz k b))) = wr k ((sv k a).tmod (sv k b)) := by
  have hA := sz_r (k := k) ha
  have hB := sz_r (k := k) hb
  have hz := sz_0 (k := k) hb h0
  have hd := Int.mul_ediv_add_emod (sz k a) (sz k b)
  have h1 := Int.ediv_nonneg hA.1 hB.1
  have h2 := Int.ediv_le_self (sz k b) hA.1
  have h3 := Int.emod_nonneg (sz k a) hz
  have h4 : 0 ≤ sz k b * (sz k a / sz k b) := Int.mul_nonneg hB.1 h1
  have e1 : (sz k a).tdiv (sz k b) = sz k a / sz k b := Int.tdiv_eq_ediv_of_nonneg hA.1
  have e2 : (sz k a).tmod (sz k b) = sz k a % sz k b := Int.tmod_eq_emod_of_nonneg hA.1
  have e3 : IntKind.u64.wrap (sz k a / sz k b) = sz k a / sz k b := u64_id (by omega)
  rw [e1, e3, Int.mul_comm (sz k a / sz k b)]
  have e4 : IntKind.u64.wrap (sz k b * (sz k a / sz k b)) = sz k b * (sz k a / sz k b) := u64_id (by omega)
  rw [e4, show sz k a - sz k b * (sz k a / sz k b) = sz k a % sz k b by omega]
  have e5 : IntKind.u64.wrap (sz k a % sz k b) = sz k a % sz k b := u64_id (by omega)
  rw [e5, ← e2, sv_sz k a, sv_sz k b]
  unfold sn
  cases ng k a <;> cases ng k b <;> simp [Int.neg_tmod, Int.tmod_neg]
end Go.Proofs.Ytlpcnkjnjkijbaa.Plain
