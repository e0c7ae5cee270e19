/- Plain facts on words of six kinds, with no program in sight: what it is to keep the lowest bits of a number and to carry them on. No conditions but those each theorem names. -/
import Derived.WalkKit
namespace Go.Proofs.YtihchlkoohficaaDoor.Plain

/-- Is it one of the six kinds? -/
def wh (k : Int) : Bool := decide (2 ≤ k) && decide (k ≤ 7)
/-- Has it a sign? -/
def sg (k : Int) : Bool := k == 2 || k == 4 || k == 6
/-- How many bits it has (0: no kind). -/
def bt (k : Int) : Int := if wh k then (if k ≤ 3 then 8 else if k ≤ 5 then 32 else 64) else 0
/-- 2 to that. -/
def md (k : Int) : Int := if k ≤ 3 then 256 else if k ≤ 5 then 4294967296 else 18446744073709551616
/-- The number of kind k whose lowest bits are n's, as a word. -/
def wr (k n : Int) : Int := if sg k && decide (md k ≤ 2 * (n % md k)) then n % md k + (18446744073709551616 - md k) else n % md k
/-- Is the word n a number of kind k? -/
def iz (k n : Int) : Bool := wr k n == n
/-- The error of a kind. -/
def e0 (k : Int) : Int := if wh k then 0 else 2
def e1 (k a : Int) : Int := if wh k then (if iz k a then 0 else 1) else 2
def e2 (k a b : Int) : Int := if wh k then (if iz k a && iz k b then 0 else 1) else 2
/-- Is the number that the word n of kind k stands for below 0? -/
def ng (k n : Int) : Bool := sg k && decide (9223372036854775808 ≤ n)
/-- Its size. -/
def sz (k n : Int) : Int := if ng k n then 18446744073709551616 - n else n
/-- The number itself. -/
def sv (k n : Int) : Int := if ng k n then n - 18446744073709551616 else n

theorem wh_iff {k : Int} (h : wh k = true) : k = 2 ∨ k = 3 ∨ k = 4 ∨ k = 5 ∨ k = 6 ∨ k = 7 := by
  simp [wh] at h; omega
theorem wh_of {k : Int} (h : 2 ≤ k ∧ k ≤ 7) : wh k = true := by simp [wh, h.1, h.2]
theorem wh_no {k : Int} (h : wh k = false) : k < 2 ∨ 7 < k := by
  simp [wh] at h; omega
theorem sg_no {k : Int} (h : wh k = false) : sg k = false := by
  have := wh_no h
  simp [sg]; omega

theorem wr2 (n : Int) : wr 2 n = if 128 ≤ n % 256 then n % 256 + 18446744073709551360 else n % 256 := by
  simp [wr, sg, md]; split <;> split <;> omega
theorem wr3 (n : Int) : wr 3 n = n % 256 := by simp [wr, sg, md]
theorem wr4 (n : Int) : wr 4 n = if 2147483648 ≤ n % 4294967296 then n % 4294967296 + 18446744069414584320 else n % 4294967296 := by
  simp [wr, sg, md]; split <;> split <;> omega
theorem wr5 (n : Int) : wr 5 n = n % 4294967296 := by simp [wr, sg, md]
theorem wr6 (n : Int) : wr 6 n = n % 18446744073709551616 := by
  simp [wr, sg, md]
theorem wr7 (n : Int) : wr 7 n = n % 18446744073709551616 := by simp [wr, sg, md]

theorem wr_range {k : Int} (h : wh k = true) (n : Int) : 0 ≤ wr k n ∧ wr k n < 18446744073709551616 := by
  rcases wh_iff h with rfl | rfl | rfl | rfl | rfl | rfl
  · rw [wr2]; split <;> omega
  · rw [wr3]; omega
  · rw [wr4]; split <;> omega
  · rw [wr5]; omega
  · rw [wr6]; omega
  · rw [wr7]; omega
theorem md_pos (k : Int) : 0 < md k := by unfold md; split <;> (try split) <;> omega
/-- Only the lowest bits count. -/
theorem wr_congr (k : Int) {x y : Int} (h : x % md k = y % md k) : wr k x = wr k y := by unfold wr; rw [h]
theorem wr_add (k x t : Int) : wr k (x + md k * t) = wr k x := wr_congr k (by rw [Int.add_mul_emod_self_left])
theorem wr_sub {k x y : Int} (h : ∃ t, x = y + md k * t) : wr k x = wr k y := by obtain ⟨t, rfl⟩ := h; exact wr_add k y t
theorem wr_mod {k : Int} (h : wh k = true) (n : Int) : wr k n % md k = n % md k := by
  rcases wh_iff h with rfl | rfl | rfl | rfl | rfl | rfl
  · rw [wr2]; simp only [md]; split <;> simp <;> omega
  · rw [wr3]; simp [md]
  · rw [wr4]; simp only [md]; split <;> simp <;> omega
  · rw [wr5]; simp [md]
  · rw [wr6]; simp [md]
  · rw [wr7]; simp [md]
theorem wr_wr {k : Int} (h : wh k = true) (n : Int) : wr k (wr k n) = wr k n := wr_congr k (wr_mod h n)
theorem iz_wr {k : Int} (h : wh k = true) (n : Int) : iz k (wr k n) = true := by simp [iz, wr_wr h]
/-- What is left out is a multiple of 2 to the bits. -/
theorem wr_ex {k : Int} (h : wh k = true) (n : Int) : ∃ t, wr k n = n + md k * t := by
  have e := wr_mod h n
  refine ⟨wr k n / md k - n / md k, ?_⟩
  have h1 := Int.mul_ediv_add_emod (wr k n) (md k)
  have h2 := Int.mul_ediv_add_emod n (md k)
  rw [Int.mul_sub]; omega
/-- 2 to the 64 is a multiple of 2 to the bits. -/
theorem md_64 {k : Int} (h : wh k = true) : ∃ t, (18446744073709551616 : Int) = md k * t := by
  rcases wh_iff h with rfl | rfl | rfl | rfl | rfl | rfl
  · exact ⟨72057594037927936, by simp [md]⟩
  · exact ⟨72057594037927936, by simp [md]⟩
  · exact ⟨4294967296, by simp [md]⟩
  · exact ⟨4294967296, by simp [md]⟩
  · exact ⟨1, by simp [md]⟩
  · exact ⟨1, by simp [md]⟩
theorem wr_64 {k : Int} (h : wh k = true) (n : Int) : wr k (n % 18446744073709551616) = wr k n := by
  obtain ⟨t, ht⟩ := md_64 h
  refine wr_sub ⟨-(t * (n / 18446744073709551616)), ?_⟩
  have := Int.mul_ediv_add_emod n 18446744073709551616
  have e : md k * -(t * (n / 18446744073709551616)) = -(18446744073709551616 * (n / 18446744073709551616)) := by
    rw [ht, Int.mul_neg, ← Int.mul_assoc]
  omega
theorem wr_m64 {k : Int} (h : wh k = true) (n t : Int) : wr k (n + 18446744073709551616 * t) = wr k n := by
  rw [← wr_64 h (n + _), Int.add_mul_emod_self_left, wr_64 h]

/-! ### How the conversions of the language say it -/
theorem conv8 (n : Int) : IntKind.u64.wrap (IntKind.i8.wrap n) = wr 2 n := by
  rw [wr2]
  have e : IntKind.i8.wrap n = if 128 ≤ n % 256 then n % 256 - 256 else n % 256 := by
    simp only [IntKind.wrap, IntKind.bits, IntKind.signed]; simp
  rw [e, IntKind.wrap_u64]; split <;> omega
theorem convu8 (n : Int) : IntKind.u64.wrap (IntKind.u8.wrap n) = wr 3 n := by
  rw [wr3, IntKind.wrap_u8, IntKind.wrap_u64]; omega
theorem conv32 (n : Int) : IntKind.u64.wrap (IntKind.i32.wrap n) = wr 4 n := by
  rw [wr4, IntKind.wrap_i32, IntKind.wrap_u64]; split <;> omega
theorem convu32 (n : Int) : IntKind.u64.wrap (IntKind.u32.wrap n) = wr 5 n := by
  rw [wr5, IntKind.wrap_u32, IntKind.wrap_u64]; omega
theorem conv64 {n : Int} (h : 0 ≤ n ∧ n < 18446744073709551616) : n = wr 6 n := by rw [wr6]; omega
theorem convu64 {n : Int} (h : 0 ≤ n ∧ n < 18446744073709551616) : n = wr 7 n := by rw [wr7]; omega

/-! ### The bits, one by one -/
/-- How many bits, as a natural number. -/
def bn (k : Int) : Nat := (bt k).toNat
/-- The bit that the round ahead of number j has laid. -/
def bi (k n : Int) (j : Nat) : Int := if j = 0 then 0 else if j ≤ bn k then n / 2 ^ (j - 1) % 2 else if sg k then n / 2 ^ (bn k - 1) % 2 else 0
/-- What is laid ahead of round j. -/
def lo (k n : Int) (j : Nat) : Int := if j ≤ bn k then n % 2 ^ j else n % 2 ^ bn k + (if sg k then n / 2 ^ (bn k - 1) % 2 else 0) * (2 ^ j - 2 ^ bn k)

theorem pow_le64 {j : Nat} (h : j ≤ 64) : (2 : Int) ^ j ≤ 18446744073709551616 := by
  have := Nat.pow_le_pow_right (n := 2) (by omega) h
  have e : ((2 ^ j : Nat) : Int) = (2 : Int) ^ j := by simp
  have e2 : (2 ^ 64 : Nat) = 18446744073709551616 := by decide
  omega
theorem pow_pos2 (j : Nat) : (0 : Int) < 2 ^ j := Int.pow_pos (by omega)
theorem pow_succ2 (j : Nat) : (2 : Int) ^ (j + 1) = 2 * 2 ^ j := by rw [Int.pow_succ]; omega
theorem u64_id {x : Int} (h : 0 ≤ x ∧ x < 18446744073709551616) : IntKind.u64.wrap x = x := IntWalk.u64_in x ⟨h.1, by omega⟩
/-- One bit more. -/
theorem mod_step (n : Int) (j : Nat) : n % 2 ^ (j + 1) = n % 2 ^ j + n / 2 ^ j % 2 * 2 ^ j := by
  have h1 := Int.mul_ediv_add_emod n (2 ^ (j + 1))
  have h2 := Int.mul_ediv_add_emod n (2 ^ j)
  have h3 := Int.mul_ediv_add_emod (n / 2 ^ j) 2
  have h4 : n / 2 ^ j / 2 = n / 2 ^ (j + 1) := by
    rw [Int.ediv_ediv_of_nonneg (Int.le_of_lt (pow_pos2 j)), Int.pow_succ]
  rw [h4] at h3
  have e : n / 2 ^ j * 2 ^ j = 2 * (n / 2 ^ (j + 1)) * 2 ^ j + n / 2 ^ j % 2 * 2 ^ j := by rw [← Int.add_mul]; congr 1; omega
  have e1 : 2 ^ (j + 1) * (n / 2 ^ (j + 1)) = 2 * (n / 2 ^ (j + 1)) * 2 ^ j := by
    rw [pow_succ2, Int.mul_assoc, Int.mul_assoc, Int.mul_comm (2 ^ j)]
  rw [Int.mul_comm] at h2
  omega
theorem bit_01 (x : Int) : x % 2 = 0 ∨ x % 2 = 1 := by omega
theorem bn_of {k : Int} (h : wh k = true) : bn k = 8 ∨ bn k = 32 ∨ bn k = 64 := by
  rcases wh_iff h with rfl | rfl | rfl | rfl | rfl | rfl <;> simp [bn, bt, wh]
theorem bn_cast {k : Int} : bt k = (bn k : Int) := by
  unfold bn bt; split <;> (try split) <;> (try split) <;> simp
/-- A round ahead of the last bit. -/
theorem round_low {k n : Int} (hn : 0 ≤ n) {j : Nat} (hj : j < 64) (hb : j < bn k) :
    (n / 2 ^ j).tmod 2 = bi k n (j + 1) ∧ IntKind.u64.wrap (lo k n j + IntKind.u64.wrap ((n / 2 ^ j).tmod 2 * 2 ^ j)) = lo k n (j + 1) := by
  have hq : 0 ≤ n / 2 ^ j := Int.ediv_nonneg hn (Int.le_of_lt (pow_pos2 j))
  rw [Int.tmod_eq_emod_of_nonneg hq]
  have e1 : bi k n (j + 1) = n / 2 ^ j % 2 := by simp [bi]; omega
  have e2 : lo k n (j + 1) = n % 2 ^ (j + 1) := by simp [lo]; omega
  have e3 : lo k n j = n % 2 ^ j := by simp [lo]; omega
  rw [e1, e2, e3]
  refine ⟨rfl, ?_⟩
  have hs := mod_step n j
  have hp := pow_pos2 j
  have hp1 := pow_le64 (j := j + 1) (by omega)
  have h0 := Int.emod_nonneg n (b := 2 ^ j) (by omega)
  have h1 := Int.emod_lt_of_pos n hp
  have hlt := Int.emod_lt_of_pos n (pow_pos2 (j + 1))
  have hps := pow_succ2 j
  rcases bit_01 (n / 2 ^ j) with hx | hx
  · rw [hx] at hs ⊢
    rw [u64_id (x := 0 * 2 ^ j) (by omega), u64_id (by omega)]; omega
  · rw [hx] at hs ⊢
    rw [u64_id (x := 1 * 2 ^ j) (by omega), u64_id (by omega)]; omega
/-- A round behind it, with the sign. -/
theorem round_high {k n : Int} (h : wh k = true) {j : Nat} (hj : j < 64) (hb : bn k ≤ j) (hs : sg k = true) :
    bi k n j = bi k n (j + 1) ∧ IntKind.u64.wrap (lo k n j + IntKind.u64.wrap (bi k n j * 2 ^ j)) = lo k n (j + 1) := by
  have h8 := bn_of h
  have e1 : bi k n (j + 1) = n / 2 ^ (bn k - 1) % 2 := by
    unfold bi; rw [if_neg (by omega), if_neg (by omega), if_pos hs]
  have e2 : bi k n j = n / 2 ^ (bn k - 1) % 2 := by
    unfold bi; rw [if_neg (by omega)]
    by_cases e : j = bn k
    · rw [if_pos (by omega), e]
    · rw [if_neg (by omega), if_pos hs]
  have e3 : lo k n (j + 1) = n % 2 ^ bn k + n / 2 ^ (bn k - 1) % 2 * (2 ^ (j + 1) - 2 ^ bn k) := by
    unfold lo; rw [if_neg (by omega), if_pos hs]
  have e4 : lo k n j = n % 2 ^ bn k + n / 2 ^ (bn k - 1) % 2 * (2 ^ j - 2 ^ bn k) := by
    unfold lo
    by_cases e : j = bn k
    · rw [if_pos (by omega), e]; simp
    · rw [if_neg (by omega), if_pos hs]
  rw [e1, e2, e3, e4]
  refine ⟨rfl, ?_⟩
  have hp := pow_pos2 j
  have hp1 := pow_le64 (j := j + 1) (by omega)
  have hps := pow_succ2 j
  have hpb := pow_pos2 (bn k)
  have hle : (2 : Int) ^ bn k ≤ 2 ^ j := by
    have := Nat.pow_le_pow_right (n := 2) (by omega) hb
    have e : ((2 ^ j : Nat) : Int) = (2 : Int) ^ j := by simp
    have e' : ((2 ^ bn k : Nat) : Int) = (2 : Int) ^ bn k := by simp
    omega
  have h0 := Int.emod_nonneg n (b := 2 ^ bn k) (by omega)
  have h1 := Int.emod_lt_of_pos n hpb
  rcases bit_01 (n / 2 ^ (bn k - 1)) with hx | hx
  · rw [hx]
    rw [u64_id (x := 0 * 2 ^ j) (by omega), u64_id (by omega)]; omega
  · rw [hx]
    rw [u64_id (x := 1 * 2 ^ j) (by omega), u64_id (by omega)]; omega
/-- A round behind it, without. -/
theorem round_none {k n : Int} (h : wh k = true) {j : Nat} (hj : j < 64) (hb : bn k ≤ j) (hs : sg k = false) :
    0 = bi k n (j + 1) ∧ lo k n j = lo k n (j + 1) := by
  have h8 := bn_of h
  constructor
  · unfold bi; rw [if_neg (by omega), if_neg (by omega), hs]; simp
  · have e3 : lo k n (j + 1) = n % 2 ^ bn k := by
      unfold lo; rw [if_neg (by omega), hs]; simp
    have e4 : lo k n j = n % 2 ^ bn k := by
      unfold lo
      by_cases e : j = bn k
      · rw [if_pos (by omega), e]
      · rw [if_neg (by omega), hs]; simp
    rw [e3, e4]
theorem lo_0 (k n : Int) : 0 = lo k n 0 := by simp [lo, Int.emod_one]
theorem bi_0 (k n : Int) : 0 = bi k n 0 := by simp [bi]
theorem lo_range {k n : Int} (h : wh k = true) {j : Nat} (hj : j ≤ 64) : 0 ≤ lo k n j ∧ lo k n j < 18446744073709551616 := by
  have h8 := bn_of h
  have hp := pow_pos2 j
  have hp1 := pow_le64 hj
  unfold lo
  split
  · have h0 := Int.emod_nonneg n (b := 2 ^ j) (by omega)
    have h1 := Int.emod_lt_of_pos n hp
    omega
  · have hpb := pow_pos2 (bn k)
    have h0 := Int.emod_nonneg n (b := 2 ^ bn k) (by omega)
    have h1 := Int.emod_lt_of_pos n hpb
    have hle : (2 : Int) ^ bn k ≤ 2 ^ j := by
      have := Nat.pow_le_pow_right (n := 2) (by omega) (show bn k ≤ j by omega)
      have e : ((2 ^ j : Nat) : Int) = (2 : Int) ^ j := by simp
      have e' : ((2 ^ bn k : Nat) : Int) = (2 : Int) ^ bn k := by simp
      omega
    split
    · rcases bit_01 (n / 2 ^ (bn k - 1)) with hx | hx
      · rw [hx]; omega
      · rw [hx]; omega
    · omega
/-- Behind the last round. -/
theorem lo_end {k n : Int} (h : wh k = true) : lo k n 64 = wr k n := by
  rcases wh_iff h with rfl | rfl | rfl | rfl | rfl | rfl
  · rw [wr2]; simp [lo, bn, bt, wh, sg]; split <;> omega
  · rw [wr3]; simp [lo, bn, bt, wh, sg]
  · rw [wr4]; simp [lo, bn, bt, wh, sg]; split <;> omega
  · rw [wr5]; simp [lo, bn, bt, wh, sg]
  · rw [wr6]; simp [lo, bn, bt, wh]
  · rw [wr7]; simp [lo, bn, bt, wh]

theorem u64_r (x : Int) : 0 ≤ IntKind.u64.wrap x ∧ IntKind.u64.wrap x < 18446744073709551616 := by rw [IntKind.wrap_u64]; omega
theorem wr_u64 {k : Int} (h : wh k = true) (x : Int) : wr k (IntKind.u64.wrap x) = wr k x := by rw [IntKind.wrap_u64]; exact wr_64 h x

/-- The four operators that go bit by bit. -/
def ban (a b : Int) : Int := ((a.toNat &&& b.toNat : Nat) : Int)
def bor (a b : Int) : Int := ((a.toNat ||| b.toNat : Nat) : Int)
def bxo (a b : Int) : Int := ((a.toNat ^^^ b.toNat : Nat) : Int)
def bnt (a b : Int) : Int := ((a.toNat &&& (18446744073709551615 - b.toNat) : Nat) : Int)
theorem ban_r {a b : Int} (ha : 0 ≤ a ∧ a < 18446744073709551616) : 0 ≤ ban a b ∧ ban a b < 18446744073709551616 := by
  unfold ban
  have : a.toNat &&& b.toNat ≤ a.toNat := Nat.and_le_left
  omega
theorem bnt_r {a b : Int} (ha : 0 ≤ a ∧ a < 18446744073709551616) : 0 ≤ bnt a b ∧ bnt a b < 18446744073709551616 := by
  unfold bnt
  have : a.toNat &&& (18446744073709551615 - b.toNat) ≤ a.toNat := Nat.and_le_left
  omega
theorem n64 : (2 : Nat) ^ 64 = 18446744073709551616 := by decide
theorem bor_r {a b : Int} (ha : 0 ≤ a ∧ a < 18446744073709551616) (hb : 0 ≤ b ∧ b < 18446744073709551616) : 0 ≤ bor a b ∧ bor a b < 18446744073709551616 := by
  unfold bor
  have : a.toNat ||| b.toNat < 2 ^ 64 := Nat.or_lt_two_pow (by rw [n64]; omega) (by rw [n64]; omega)
  rw [n64] at this
  omega
theorem bxo_r {a b : Int} (ha : 0 ≤ a ∧ a < 18446744073709551616) (hb : 0 ≤ b ∧ b < 18446744073709551616) : 0 ≤ bxo a b ∧ bxo a b < 18446744073709551616 := by
  unfold bxo
  have : a.toNat ^^^ b.toNat < 2 ^ 64 := Nat.xor_lt_two_pow (by rw [n64]; omega) (by rw [n64]; omega)
  rw [n64] at this
  omega
theorem l_and {a b : Int} (ha : 0 ≤ a ∧ a < 18446744073709551616) (hb : 0 ≤ b ∧ b < 18446744073709551616) : bits .and .u64 a b = ban a b := u64_and a b ha.1 ha.2 hb.1 hb.2
theorem l_or {a b : Int} (ha : 0 ≤ a ∧ a < 18446744073709551616) (hb : 0 ≤ b ∧ b < 18446744073709551616) : bits .or .u64 a b = bor a b := u64_or a b ha.1 ha.2 hb.1 hb.2
theorem l_xor {a b : Int} (ha : 0 ≤ a ∧ a < 18446744073709551616) (hb : 0 ≤ b ∧ b < 18446744073709551616) : bits .xor .u64 a b = bxo a b := u64_xor a b ha.1 ha.2 hb.1 hb.2
theorem l_not {a b : Int} (ha : 0 ≤ a ∧ a < 18446744073709551616) (hb : 0 ≤ b ∧ b < 18446744073709551616) : bits .andNot .u64 a b = bnt a b := u64_andNot a b ha.1 ha.2 hb.1 hb.2

theorem iz_0 {k : Int} (h : wh k = true) : iz k 0 = true := by
  rcases wh_iff h with rfl | rfl | rfl | rfl | rfl | rfl <;> decide
theorem w64_sv {k a : Int} (ha : 0 ≤ a ∧ a < 18446744073709551616) (hs : sg k = true) : RowKit.wrap64 a = sv k a := by
  unfold RowKit.wrap64 sv ng; rw [hs]; simp; split <;> omega
theorem sv_un {k a : Int} (hs : sg k = false) : sv k a = a := by simp [sv, ng, hs]
theorem sv_0 {k b : Int} (hb : 0 ≤ b ∧ b < 18446744073709551616) (h : sv k b = 0) : b = 0 := by
  unfold sv at h; split at h <;> omega

theorem wr_w64 {k : Int} (h : wh k = true) (x : Int) : wr k (IntKind.u64.wrap (RowKit.wrap64 x)) = wr k x := by
  have hx := wr_m64 h x (-((x + 9223372036854775808) / 18446744073709551616))
  rw [wr_u64 h, ← hx]
  congr 1
  unfold RowKit.wrap64
  omega
theorem tmod_r {a b : Int} (ha : 0 ≤ a ∧ a < 18446744073709551616) (hb : 0 ≤ b ∧ b < 18446744073709551616) (h0 : b ≠ 0) : 0 ≤ a.tmod b ∧ a.tmod b < 18446744073709551616 := by
  rw [Int.tmod_eq_emod_of_nonneg ha.1]
  have h1 := Int.emod_nonneg a h0
  have h2 := Int.emod_lt_of_pos a (b := b) (by omega)
  omega

theorem ng_sg {k n : Int} (h : ng k n = true) : sg k = true := by unfold ng at h; revert h; cases sg k <;> simp
theorem ng_lt {k n : Int} (hn : 0 ≤ n ∧ n < 18446744073709551616) (h : ng k n = true) : RowKit.wrap64 n < 0 := by
  rw [w64_sv hn (ng_sg h)]; unfold sv; rw [if_pos h]; omega
theorem ng_ge {k n : Int} (hn : 0 ≤ n ∧ n < 18446744073709551616) (hs : sg k = true) (h : ng k n = false) : 0 ≤ RowKit.wrap64 n := by
  rw [w64_sv hn hs]; unfold sv; rw [h]; simpa using hn.1

theorem shr_un {k a n : Int} (ha : 0 ≤ a ∧ a < 18446744073709551616) (hs : sg k = false) : a / 2 ^ min n.toNat 64 = sv k a / 2 ^ min n.toNat 64 % 18446744073709551616 := by
  rw [sv_un hs]
  have h1 := Int.ediv_nonneg ha.1 (Int.le_of_lt (pow_pos2 (min n.toNat 64)))
  have h2 := Int.ediv_le_self (2 ^ min n.toNat 64) ha.1
  rw [Int.emod_eq_of_lt h1 (by omega)]

/-! ### A ring -/
theorem ring_assoc {k : Int} (h : wh k = true) (a b c : Int) : wr k (wr k (a + b) + c) = wr k (a + wr k (b + c)) := by
  obtain ⟨t, ht⟩ := wr_ex h (a + b)
  obtain ⟨u, hu⟩ := wr_ex h (b + c)
  exact wr_sub ⟨t - u, by rw [ht, hu]; grind⟩
theorem ring_back {k : Int} (h : wh k = true) {a : Int} (ha : wr k a = a) (b : Int) : wr k (wr k (a + b) - b) = a := by
  obtain ⟨t, ht⟩ := wr_ex h (a + b)
  have : wr k (wr k (a + b) - b) = wr k a := wr_sub ⟨t, by rw [ht]; grind⟩
  rw [this, ha]
theorem ring_dist {k : Int} (h : wh k = true) (a b c : Int) : wr k (a * wr k (b + c)) = wr k (wr k (a * b) + wr k (a * c)) := by
  obtain ⟨t, ht⟩ := wr_ex h (b + c)
  obtain ⟨u, hu⟩ := wr_ex h (a * b)
  obtain ⟨v, hv⟩ := wr_ex h (a * c)
  exact wr_sub ⟨a * t - u - v, by rw [ht, hu, hv]; grind⟩

/-- A number of a kind lies between its ends. -/
theorem sv_ends {k x : Int} (h : wh k = true) : (if sg k then -(2 ^ (bn k - 1)) else 0) ≤ sv k (wr k x) ∧ sv k (wr k x) ≤ (if sg k then 2 ^ (bn k - 1) - 1 else 2 ^ bn k - 1) := by
  rcases wh_iff h with rfl | rfl | rfl | rfl | rfl | rfl
  · rw [wr2]; simp [sv, ng, bn, bt, wh, sg]; split <;> split <;> omega
  · rw [wr3]; simp [sv, ng, bn, bt, wh, sg]; omega
  · rw [wr4]; simp [sv, ng, bn, bt, wh, sg]; split <;> split <;> omega
  · rw [wr5]; simp [sv, ng, bn, bt, wh, sg]; omega
  · rw [wr6]; simp [sv, ng, bn, bt, wh, sg]; split <;> omega
  · rw [wr7]; simp [sv, ng, bn, bt, wh, sg]; omega
end Go.Proofs.YtihchlkoohficaaDoor.Plain
