/- Plain facts on conversions: a number that a kind has comes back; through a wider kind it is the same. Conditions: those each theorem names. -/
import Derived.Test.YtlpcnkjnjkijbaaPlain3
namespace Go.Proofs.Ytlpcnkjnjkijbaa.Plain
def tp (k : Int) : Int := if k ≤ 3 then 128 else if k ≤ 5 then 2147483648 else 9223372036854775808
def ib (k : Int) (neg : Bool) (n : Int) : Bool := if neg then sg k && decide (n ≤ tp k) else if sg k then decide (n < tp k) else decide (n ≤ tp k - 1 + tp k)
theorem tp_r (k : Int) : 128 ≤ tp k ∧ tp k ≤ 9223372036854775808 := by unfold tp; split <;> (try split) <;> omega
theorem tp_pow {k : Int} (h : wh k = true) : tp k = 2 ^ (bn k - 1) := by
  rcases wh_iff h with rfl | rfl | rfl | rfl | rfl | rfl <;> decide
theorem wr_sv {k : Int} (h : wh k = true) (f a : Int) : wr k (sv f a) = wr k a := by
  obtain ⟨t, ht⟩ := sv_ex f a
  have := wr_m64 h (sv f a) t
  rw [← this, ← ht]
/-- A number that the kind t has comes back from it. -/
theorem back_in {f t n : Int} (hf : wh f = true) (ht : wh t = true) (hi : iz f n = true) (hn : 0 ≤ n ∧ n < 18446744073709551616) :
    (ib t (ng f n) (sz f n) && (wr f (wr t n) != n)) = false := by
  cases hb : ib t (ng f n) (sz f n) with
  | false => rfl
  | true =>
    have hsz := sz_r (k := f) hn
    have hp := pow_pos2 (bn t - 1)
    have hpow : sg t = false → (2 : Int) ^ bn t = 2 * 2 ^ (bn t - 1) := by
      intro _
      have h8 := bn_of ht
      rw [← pow_succ2]; congr 1; omega
    have hk : iz t (sv f n % 18446744073709551616) = true := by
      refine (in_kind ht ?_ ?_).1
      · rw [sv_sz]
        unfold ib at hb
        cases hg : ng f n <;> cases hs : sg t <;> simp [hg, hs, tp_pow ht] at hb ⊢ <;> omega
      · rw [sv_sz]
        unfold ib at hb
        cases hg : ng f n <;> cases hs : sg t <;> simp [hg, hs, tp_pow ht] at hb ⊢
        · rw [hpow hs]; omega
        · omega
        · omega
    have e1 : wr t n = sv f n % 18446744073709551616 := by
      have : wr t (sv f n % 18446744073709551616) = sv f n % 18446744073709551616 := by simpa [iz] using hk
      rw [← this, wr_64 ht, wr_sv ht]
    have e2 : wr f n = n := by simpa [iz] using hi
    rw [e1, wr_64 hf, wr_sv hf, e2]
    simp
/-- Through a wider kind it is the same. -/
theorem wide {b t n : Int} (hb : wh b = true) (ht : wh t = true) (hw : bt t ≤ bt b) : wr t (wr b n) = wr t n := by
  obtain ⟨s, hs⟩ := wr_ex hb n
  have hd : ∃ c, md b = md t * c := by
    rcases wh_iff hb with rfl | rfl | rfl | rfl | rfl | rfl <;> rcases wh_iff ht with rfl | rfl | rfl | rfl | rfl | rfl <;> simp [bt, wh] at hw <;>
      first | exact ⟨1, by decide⟩ | exact ⟨16777216, by decide⟩ | exact ⟨72057594037927936, by decide⟩ | exact ⟨4294967296, by decide⟩
  obtain ⟨c, hc⟩ := hd
  exact wr_sub ⟨c * s, by rw [hs, hc, Int.mul_assoc]⟩
end Go.Proofs.Ytlpcnkjnjkijbaa.Plain
