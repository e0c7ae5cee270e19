/- Plain facts on shifts by two counts and on the operators that go bit by bit, over words of six kinds. Conditions: those each theorem names. -/
import Derived.Test.YtihchlkoohficaaDoorPlain
namespace Go.Proofs.YtihchlkoohficaaDoor.Plain

theorem pow_split (p q : Nat) : (2 : Int) ^ (p + q) = 2 ^ p * 2 ^ q := Int.pow_add 2 p q
theorem pow64 : (2 : Int) ^ 64 = 18446744073709551616 := by decide
/-- Shifted up by 64 or more, nothing is left. -/
theorem shl_big {k : Int} (h : wh k = true) (a : Int) {e : Nat} (he : 64 ≤ e) : wr k (a * 2 ^ e) = wr k 0 := by
  obtain ⟨d, rfl⟩ := Nat.exists_eq_add_of_le he
  have := wr_m64 h 0 (a * 2 ^ d)
  rw [← this]
  congr 1
  rw [pow_split, pow64, Int.zero_add, ← Int.mul_assoc, ← Int.mul_assoc, Int.mul_comm a, Int.mul_assoc]
theorem wr_mul {k : Int} (h : wh k = true) (a b : Int) : wr k (wr k a * b) = wr k (a * b) := by
  obtain ⟨t, ht⟩ := wr_ex h a
  exact wr_sub ⟨t * b, by rw [ht]; grind⟩
theorem min_nat {x : Int} {i : Nat} (h : x.toNat = i) : min x.toNat 64 = min i 64 := by rw [h]
theorem shl_two {k : Int} (h : wh k = true) (a : Int) (i j : Nat) : wr k (wr k (a * 2 ^ min i 64) * 2 ^ min j 64) = wr k (a * 2 ^ min (i + j) 64) := by
  rw [wr_mul h, Int.mul_assoc, ← pow_split]
  by_cases hb : i + j < 64
  · rw [Nat.min_eq_left (by omega), Nat.min_eq_left (by omega), Nat.min_eq_left (by omega)]
  · rw [Nat.min_eq_right (a := i + j) (by omega), shl_big h _ (by omega), shl_big h _ (by omega)]
theorem div_two (s : Int) (i j : Nat) (h0 : -18446744073709551616 ≤ s) (h1 : s < 18446744073709551616) : s / 2 ^ min i 64 / 2 ^ min j 64 = s / 2 ^ min (i + j) 64 := by
  have hbig : ∀ e : Nat, 64 ≤ e → s / 2 ^ e = s / 2 ^ 64 := by
    intro e he
    obtain ⟨d, rfl⟩ := Nat.exists_eq_add_of_le he
    rw [pow_split, ← Int.ediv_ediv_of_nonneg (Int.le_of_lt (pow_pos2 64)), pow64]
    have hs : s / 18446744073709551616 = 0 ∨ s / 18446744073709551616 = -1 := by omega
    rcases hs with hs | hs
    · rw [hs]; simp
    · rw [hs]
      have hp := pow_pos2 d
      exact Int.ediv_eq_neg_one_of_neg_of_le (by omega) (by omega)
  rw [Int.ediv_ediv_of_nonneg (Int.le_of_lt (pow_pos2 _)), ← pow_split]
  by_cases hb : i + j < 64
  · rw [Nat.min_eq_left (by omega), Nat.min_eq_left (by omega), Nat.min_eq_left (by omega)]
  · rw [Nat.min_eq_right (a := i + j) (by omega), hbig _ (by omega)]
/-- What a shift down answers. -/
abbrev dn (k a : Int) (i : Nat) : Int := sv k a / 2 ^ min i 64 % 18446744073709551616
theorem sv_r {k a : Int} (h : wh k = true) (hi : iz k a = true) : (if sg k then -(2 ^ (bn k - 1)) else 0) ≤ sv k a ∧ sv k a ≤ (if sg k then 2 ^ (bn k - 1) - 1 else 2 ^ bn k - 1) := by
  have := sv_ends (k := k) (x := a) h
  rwa [show wr k a = a by simpa [iz] using hi] at this
/-- A number between the ends of a kind, as a word, is a number of it, and that one. -/
theorem in_kind {k s : Int} (h : wh k = true) (h0 : (if sg k then -(2 ^ (bn k - 1)) else 0) ≤ s) (h1 : s ≤ (if sg k then 2 ^ (bn k - 1) - 1 else 2 ^ bn k - 1)) :
    iz k (s % 18446744073709551616) = true ∧ sv k (s % 18446744073709551616) = s := by
  rcases wh_iff h with rfl | rfl | rfl | rfl | rfl | rfl
  · simp [bn, bt, wh, sg] at h0 h1; simp only [iz, wr2]; simp [sv, ng, sg]; constructor <;> split <;> omega
  · simp [bn, bt, wh, sg] at h0 h1; simp only [iz, wr3]; simp [sv, ng, sg]; omega
  · simp [bn, bt, wh, sg] at h0 h1; simp only [iz, wr4]; simp [sv, ng, sg]; constructor <;> split <;> omega
  · simp [bn, bt, wh, sg] at h0 h1; simp only [iz, wr5]; simp [sv, ng, sg]; omega
  · simp [bn, bt, wh, sg] at h0 h1; simp only [iz, wr6]; simp [sv, ng, sg]; split <;> omega
  · simp [bn, bt, wh, sg] at h0 h1; simp only [iz, wr7]; simp [sv, ng, sg]; omega
theorem ediv_pos {s d : Int} (hd : 0 < d) (h : 0 ≤ s) : 0 ≤ s / d ∧ s / d ≤ s := ⟨Int.ediv_nonneg h (Int.le_of_lt hd), Int.ediv_le_self d h⟩
theorem ediv_neg {s d : Int} (hd : 0 < d) (h : s < 0) : s ≤ s / d ∧ s / d < 0 := by
  refine ⟨Int.le_ediv_of_mul_le hd ?_, Int.ediv_neg_of_neg_of_pos h hd⟩
  have e : s * d = s + s * (d - 1) := by grind
  have := Int.mul_nonpos_of_nonpos_of_nonneg (a := s) (b := d - 1) (by omega) (by omega)
  omega
theorem dn_in {k a : Int} (h : wh k = true) (hi : iz k a = true) (i : Nat) : iz k (dn k a i) = true ∧ sv k (dn k a i) = sv k a / 2 ^ min i 64 := by
  have hr := sv_r h hi
  have hp := pow_pos2 (min i 64)
  have hq := pow_pos2 (bn k - 1)
  have hq2 := pow_pos2 (bn k)
  refine in_kind h ?_ ?_
  · by_cases hs : 0 ≤ sv k a
    · have := ediv_pos hp hs
      split <;> omega
    · have := ediv_neg hp (show sv k a < 0 by omega)
      omega
  · by_cases hs : 0 ≤ sv k a
    · have := ediv_pos hp hs
      omega
    · have := ediv_neg hp (show sv k a < 0 by omega)
      split <;> omega
theorem dn_r (k a : Int) (i : Nat) : 0 ≤ dn k a i ∧ dn k a i < 18446744073709551616 := by unfold dn; omega
theorem dn_two {k a : Int} (h : wh k = true) (hi : iz k a = true) (i j : Nat) : dn k (dn k a i) j = dn k a (i + j) := by
  have hr := sv_r h hi
  have h8 := bn_of h
  show sv k (dn k a i) / 2 ^ min j 64 % 18446744073709551616 = sv k a / 2 ^ min (i + j) 64 % 18446744073709551616
  rw [(dn_in h hi i).2, div_two]
  · rcases h8 with e | e | e <;> rw [e] at hr <;> revert hr <;> cases sg k <;> simp <;> omega
  · rcases h8 with e | e | e <;> rw [e] at hr <;> revert hr <;> cases sg k <;> simp <;> omega

/-! ### Bit by bit -/
theorem or_add (a b : Nat) : a ||| b = (a &&& b) + (a ^^^ b) := by
  induction a using Nat.strongRecOn generalizing b with
  | _ a ih =>
    by_cases h0 : a = 0
    · subst h0; simp
    · have hi := ih (a / 2) (by omega) (b / 2)
      have h1 : (a ||| b) / 2 = a / 2 ||| b / 2 := Nat.or_div_two
      have h2 : (a &&& b) / 2 = a / 2 &&& b / 2 := Nat.and_div_two
      have h3 : (a ^^^ b) / 2 = a / 2 ^^^ b / 2 := Nat.xor_div_two
      have m1 : (a ||| b) % 2 = if a % 2 = 1 ∨ b % 2 = 1 then 1 else 0 := by
        have := @Nat.or_mod_two_eq_one a b
        split <;> omega
      have m2 : (a &&& b) % 2 = if a % 2 = 1 ∧ b % 2 = 1 then 1 else 0 := by
        have := @Nat.and_mod_two_eq_one a b
        split <;> omega
      have m3 : (a ^^^ b) % 2 = if a % 2 = b % 2 then 0 else 1 := by
        have := @Nat.xor_mod_two_eq_one a b
        split <;> omega
      split at m1 <;> split at m2 <;> split at m3 <;> omega
theorem not_xor (a b : Nat) (hb : b < 2 ^ 64) (ha : a < 2 ^ 64) : a &&& (2 ^ 64 - 1 - b) = a ^^^ (a &&& b) := by
  apply Nat.eq_of_testBit_eq
  intro j
  have e : 2 ^ 64 - 1 - b = 2 ^ 64 - (b + 1) := by omega
  rw [e, Nat.testBit_and, Nat.testBit_two_pow_sub_succ hb, Nat.testBit_xor, Nat.testBit_and]
  by_cases hj : j < 64
  · simp [hj]; cases a.testBit j <;> cases b.testBit j <;> simp
  · have : a.testBit j = false := Nat.testBit_lt_two_pow (Nat.lt_of_lt_of_le ha (Nat.pow_le_pow_right (by omega) (by omega)))
    rw [this]; simp
theorem bor_add (a b : Int) : bor a b = ban a b + bxo a b := by
  unfold bor ban bxo; rw [or_add]; omega
theorem bnt_xor {a b : Int} (ha : 0 ≤ a ∧ a < 18446744073709551616) (hb : 0 ≤ b ∧ b < 18446744073709551616) : bnt a b = bxo a (ban a b) := by
  unfold bnt bxo ban
  have := not_xor a.toNat b.toNat (by rw [n64]; omega) (by rw [n64]; omega)
  rw [n64] at this
  rw [show (18446744073709551615 - b.toNat : Nat) = 18446744073709551616 - 1 - b.toNat by omega, this]
  congr 2
theorem md_pow {k : Int} (h : wh k = true) : md k = ((2 ^ bn k : Nat) : Int) := by
  rcases wh_iff h with rfl | rfl | rfl | rfl | rfl | rfl <;> decide
/-- The lowest bits of a xor hang on the lowest bits alone. -/
theorem bxo_low {k : Int} (h : wh k = true) (a : Int) {c : Int} (hc : 0 ≤ c) : wr k (bxo a (wr k c)) = wr k (bxo a c) := by
  have hr := wr_range h c
  apply wr_congr
  have hm := wr_mod h c
  rw [md_pow h] at hm ⊢
  unfold bxo
  obtain ⟨C, rfl⟩ := Int.eq_ofNat_of_zero_le hc
  obtain ⟨D, hD⟩ := Int.eq_ofNat_of_zero_le hr.1
  rw [hD] at hm ⊢
  have hm' : D % 2 ^ bn k = C % 2 ^ bn k := by exact_mod_cast hm
  have : (a.toNat ^^^ D) % 2 ^ bn k = (a.toNat ^^^ C) % 2 ^ bn k := by rw [Nat.xor_mod_two_pow, hm', ← Nat.xor_mod_two_pow]
  simp only [Int.toNat_natCast]
  exact_mod_cast this
theorem or_sum {k : Int} (h : wh k = true) (a b : Int) : wr k (wr k (ban a b) + wr k (bxo a b)) = wr k (bor a b) := by
  obtain ⟨t, ht⟩ := wr_ex h (ban a b)
  obtain ⟨u, hu⟩ := wr_ex h (bxo a b)
  exact wr_sub ⟨t + u, by rw [ht, hu, bor_add]; grind⟩
theorem not_lone {k : Int} (h : wh k = true) {a b : Int} (ha : 0 ≤ a ∧ a < 18446744073709551616) (hb : 0 ≤ b ∧ b < 18446744073709551616) : wr k (bxo a (wr k (ban a b))) = wr k (bnt a b) := by
  rw [bxo_low h a (ban_r ha).1, bnt_xor ha hb]

/-- The lowest j bits. -/
def low (c : Int) (j : Nat) : Int := c % 2 ^ j
theorem low_0 (c : Int) : low c 0 = 0 := by simp [low, Int.emod_one]
theorem low_64 {c : Int} (h : 0 ≤ c ∧ c < 18446744073709551616) : low c 64 = c := by unfold low; rw [pow64]; omega

theorem ban_0 (a b : Int) : 0 ≤ ban a b := by unfold ban; omega
theorem bor_0 (a b : Int) : 0 ≤ bor a b := by unfold bor; omega
theorem bxo_0 (a b : Int) : 0 ≤ bxo a b := by unfold bxo; omega
theorem bnt_0 (a b : Int) : 0 ≤ bnt a b := by unfold bnt; omega
theorem tmod_of {c : Int} (hc : 0 ≤ c) (j : Nat) : (c / 2 ^ j).tmod 2 = c / 2 ^ j % 2 := Int.tmod_eq_emod_of_nonneg (Int.ediv_nonneg hc (Int.le_of_lt (pow_pos2 j)))
theorem st_on {c : Int} {j : Nat} (hj : j < 64) (hc : 0 ≤ c) (h : ((c / 2 ^ j).tmod 2 == 1) = true) : IntKind.u64.wrap (low c j + IntKind.u64.wrap (2 ^ j)) = low c (j + 1) := by
  rw [tmod_of hc] at h
  have h1 : c / 2 ^ j % 2 = 1 := by simpa using h
  have hs := mod_step c j
  rw [h1] at hs
  have hp := pow_pos2 j
  have hp1 := pow_le64 (j := j + 1) (by omega)
  have h0 := Int.emod_nonneg c (b := 2 ^ j) (by omega)
  have hl := Int.emod_lt_of_pos c hp
  have hps := pow_succ2 j
  unfold low
  rw [u64_id (x := 2 ^ j) (by omega), u64_id (by omega)]; omega
theorem st_off {c : Int} {j : Nat} (hc : 0 ≤ c) (h : ((c / 2 ^ j).tmod 2 == 1) = false) : low c j = low c (j + 1) := by
  rw [tmod_of hc] at h
  have h1 : c / 2 ^ j % 2 = 0 := by
    have : ¬ c / 2 ^ j % 2 = 1 := by simpa using h
    omega
  have hs := mod_step c j
  rw [h1] at hs
  unfold low
  omega
theorem tb_nat (C j : Nat) : (((C : Int) / 2 ^ j).tmod 2 == 1) = C.testBit j := by
  rw [tmod_of (by omega), Nat.testBit_eq_decide_div_mod_eq]
  have e : (C : Int) / 2 ^ j % 2 = ((C / 2 ^ j % 2 : Nat) : Int) := by simp
  rw [e, Bool.eq_iff_iff]; simp; omega
theorem tb_of {a : Int} (ha : 0 ≤ a) (j : Nat) : ((a / 2 ^ j).tmod 2 == 1) = a.toNat.testBit j := by
  rw [← tb_nat]; rw [Int.toNat_of_nonneg ha]
section
variable {a b : Int} {j : Nat} (ha : 0 ≤ a ∧ a < 18446744073709551616) (hb : 0 ≤ b ∧ b < 18446744073709551616)
include ha hb
theorem tb_and : ((ban a b / 2 ^ j).tmod 2 == 1) = (((a / 2 ^ j).tmod 2 == 1) && ((b / 2 ^ j).tmod 2 == 1)) := by
  rw [tb_of ha.1, tb_of hb.1]; unfold ban; rw [tb_nat, Nat.testBit_and]
theorem tb_or : ((bor a b / 2 ^ j).tmod 2 == 1) = (((a / 2 ^ j).tmod 2 == 1) || ((b / 2 ^ j).tmod 2 == 1)) := by
  rw [tb_of ha.1, tb_of hb.1]; unfold bor; rw [tb_nat, Nat.testBit_or]
theorem tb_xor : ((bxo a b / 2 ^ j).tmod 2 == 1) = (((a / 2 ^ j).tmod 2 == 1) ^^ ((b / 2 ^ j).tmod 2 == 1)) := by
  rw [tb_of ha.1, tb_of hb.1]; unfold bxo; rw [tb_nat, Nat.testBit_xor]
theorem tb_not : ((bnt a b / 2 ^ j).tmod 2 == 1) = (((a / 2 ^ j).tmod 2 == 1) && !((b / 2 ^ j).tmod 2 == 1)) := by
  rw [bnt_xor ha hb, tb_xor ha (ban_r ha), tb_and ha hb]
  cases ((a / 2 ^ j).tmod 2 == 1) <;> cases ((b / 2 ^ j).tmod 2 == 1) <;> rfl
end

theorem shl_next {k : Int} (h : wh k = true) (a : Int) (j : Nat) : wr k (IntKind.u64.wrap (wr k (a * 2 ^ j) + wr k (a * 2 ^ j))) = wr k (a * 2 ^ (j + 1)) := by
  rw [wr_u64 h, show wr k (a * 2 ^ j) + wr k (a * 2 ^ j) = wr k (a * 2 ^ j) * 2 by omega, wr_mul h, Int.mul_assoc, Int.pow_succ]

theorem dn_0 {k a : Int} (ha : 0 ≤ a ∧ a < 18446744073709551616) : a = dn k a 0 := by
  simp [dn, sv]; split <;> omega
theorem dn_next {k a D : Int} {j : Nat} (h : wh k = true) (hi : iz k a = true) (hr : 0 ≤ D ∧ D < 18446744073709551616) (hD : D = dn k a j) :
    (ng k D = true → D / 2 + 9223372036854775808 = dn k a (j + 1)) ∧ (ng k D = false → D / 2 = dn k a (j + 1)) := by
  have e := dn_two h hi j 1
  rw [← hD] at e
  rw [← e]
  constructor
  · intro hv
    have hs := ng_sg hv
    have : 9223372036854775808 ≤ D := by simp [ng, hs] at hv; exact hv
    simp [dn, sv, hv]; omega
  · intro hv
    simp [dn, sv, hv]; omega
end Go.Proofs.YtihchlkoohficaaDoor.Plain
