/- Plain facts on quotients and rests: the quotient times the divisor, and the rest, is the number; the rest is nearer to 0, with the number's sign. Conditions: those each theorem names. -/
import Derived.Test.YtlpcnkjnjkijbaaPlain3
namespace Go.Proofs.Ytlpcnkjnjkijbaa.Plain
/-- The quotient and the rest, as words. -/
def qu (k a b : Int) : Int := wr k ((sv k a).tdiv (sv k b))
def re (k a b : Int) : Int := wr k ((sv k a).tmod (sv k b))
theorem wr_sv' {k : Int} (h : wh k = true) (a : Int) : wr k (sv k a) = wr k a := by
  obtain ⟨t, ht⟩ := sv_ex k a
  have := wr_m64 h (sv k a) t
  rw [← this, ← ht]
theorem div_sum {k : Int} (h : wh k = true) (a b : Int) : wr k (wr k (wr k ((sv k a).tdiv (sv k b)) * b) + wr k ((sv k a).tmod (sv k b))) = wr k a := by
  obtain ⟨t, ht⟩ := wr_ex h ((sv k a).tdiv (sv k b))
  obtain ⟨u, hu⟩ := wr_ex h (wr k ((sv k a).tdiv (sv k b)) * b)
  obtain ⟨v, hv⟩ := wr_ex h ((sv k a).tmod (sv k b))
  obtain ⟨m, hm⟩ := md_64 h
  obtain ⟨c, hc⟩ := sv_ex k b
  have hd := Int.mul_tdiv_add_tmod (sv k a) (sv k b)
  rw [← wr_sv' h a]
  refine wr_sub ⟨t * b + (sv k a).tdiv (sv k b) * m * c + u + v, ?_⟩
  rw [hu, hv, ht]
  have e : (sv k a).tdiv (sv k b) * b = (sv k a).tdiv (sv k b) * sv k b + md k * ((sv k a).tdiv (sv k b) * m * c) := by
    have e1 : (sv k a).tdiv (sv k b) * b = (sv k a).tdiv (sv k b) * (sv k b + 18446744073709551616 * c) := by rw [← hc]
    rw [e1, hm]; grind
  have e2 : (sv k a).tdiv (sv k b) * sv k b + (sv k a).tmod (sv k b) = sv k a := by rw [Int.mul_comm]; exact hd
  grind
theorem div_back {k : Int} (h : wh k = true) (x y : Int) (_h0 : wr k y ≠ 0) :
    (wr k (wr k (wr k ((sv k (wr k x)).tdiv (sv k (wr k y))) * wr k y) + wr k ((sv k (wr k x)).tmod (sv k (wr k y)))) == wr k x) = true := by
  rw [div_sum h, wr_wr h]; simp
theorem sz_iz {k a : Int} (h : wh k = true) (hi : iz k a = true) (ha : 0 ≤ a ∧ a < 18446744073709551616) : (sg k = true → sz k a ≤ 2 ^ (bn k - 1)) ∧ (ng k a = true → sg k = true) ∧ (ng k a = false → sz k a ≤ (if sg k then 2 ^ (bn k - 1) - 1 else 2 ^ bn k - 1)) := by
  have hr := sv_r h hi
  have hz := sz_r (k := k) ha
  rw [sv_sz] at hr
  refine ⟨fun hs => ?_, ng_sg, fun hg => ?_⟩
  · simp [hs] at hr; split at hr <;> omega
  · rw [hg] at hr; simp at hr; exact hr.2
theorem div_rest {k : Int} (h : wh k = true) (x y : Int) (h0 : wr k y ≠ 0) :
    decide (sz k (wr k ((sv k (wr k x)).tmod (sv k (wr k y)))) < sz k (wr k y)) = true ∧
    (sz k (wr k ((sv k (wr k x)).tmod (sv k (wr k y)))) = 0 ∨ ng k (wr k ((sv k (wr k x)).tmod (sv k (wr k y)))) = ng k (wr k x)) := by
  have ha := wr_range h x
  have hb := wr_range h y
  have hia := iz_wr h x
  generalize wr k x = a at *
  generalize wr k y = b at *
  have hA := sz_r (k := k) ha
  have hB := sz_r (k := k) hb
  have hz := sz_0 (k := k) hb h0
  have hl := sz_iz h hia ha
  have h3 := Int.emod_nonneg (sz k a) hz
  have h4 := Int.emod_lt_of_pos (sz k a) (b := sz k b) (by omega)
  have h5 : sz k a % sz k b ≤ sz k a := by
    have hd := Int.mul_ediv_add_emod (sz k a) (sz k b)
    have h6 : 0 ≤ sz k b * (sz k a / sz k b) := Int.mul_nonneg hB.1 (Int.ediv_nonneg hA.1 hB.1)
    omega
  have e2 : (sz k a).tmod (sz k b) = sz k a % sz k b := Int.tmod_eq_emod_of_nonneg hA.1
  have e : (sv k a).tmod (sv k b) = if ng k a then -(sz k a % sz k b) else sz k a % sz k b := by
    rw [sv_sz k a, sv_sz k b, ← e2]
    cases ng k a <;> cases ng k b <;> simp [Int.neg_tmod, Int.tmod_neg]
  rw [e]
  generalize sz k a % sz k b = m at *
  have hp := pow_pos2 (bn k - 1)
  have hin : iz k ((if ng k a then -m else m) % 18446744073709551616) = true ∧ sv k ((if ng k a then -m else m) % 18446744073709551616) = (if ng k a then -m else m) := by
    apply in_kind h
    · cases hg : ng k a with
      | true => have := hl.2.1 hg; have := hl.1 this; simp [hl.2.1 hg]; omega
      | false => simp; split <;> omega
    · cases hg : ng k a with
      | true => simp [hl.2.1 hg]; omega
      | false => have := hl.2.2 hg; simp; omega
  have hw : wr k (if ng k a then -m else m) = (if ng k a then -m else m) % 18446744073709551616 := by
    have : wr k ((if ng k a then -m else m) % 18446744073709551616) = (if ng k a then -m else m) % 18446744073709551616 := by simpa [iz] using hin.1
    rw [← this, wr_64 h]
  rw [hw]
  have hs := hin.2
  have hq := sv_sz k ((if ng k a then -m else m) % 18446744073709551616)
  have hr := sz_r (k := k) (a := (if ng k a then -m else m) % 18446744073709551616) (by omega)
  rw [hs] at hq
  generalize (if ng k a then -m else m) % 18446744073709551616 = R at *
  cases hg : ng k a <;> cases hg2 : ng k R <;> simp [hg, hg2] at hq ⊢ <;> omega
end Go.Proofs.Ytlpcnkjnjkijbaa.Plain
