/- What is read, step by step. Plain: no program is walked here. -/
import Derived.Test.YtlhiaompcgdmfaaM0
namespace Go.Proofs.Ytlhiaompcgdmfaa
set_option linter.unusedVariables false
/-- How far the reader is; or where the number at fault begins. -/
abbrev St := Except Nat Nat
def stepS {α : Type} (f : Pr α) (l : List UInt8) : St → St
  | .error p => .error p
  | .ok p => match f l p with
    | .error q => .error q
    | .ok (_, q) => .ok q
/-- If nothing is at fault, x is what is read. -/
def Got {α : Type} (f : Pr α) (l : List UInt8) (st : St) (x : α) : Prop := ∀ p y q, st = .ok p → f l p = .ok (y, q) → x = y
section
variable {α β : Type} {l : List UInt8} {st : St}
theorem step_err (f : Pr α) (p : Nat) : stepS f l (.error p) = .error p := rfl
theorem got_err (f : Pr α) (p : Nat) (x : α) : Got f l (.error p) x := fun _ _ _ h => by cases h
theorem seq_st {f : Pr α} {g : α → Pr β} {x : α} (hx : Got f l st x) : stepS (g x) l (stepS f l st) = stepS (pThen f g) l st := by
  cases st with
  | error p => rfl
  | ok p =>
    simp only [stepS, pThen]
    cases h : f l p with
    | error q => rfl
    | ok y =>
      obtain ⟨y, q⟩ := y
      have := hx p y q rfl h
      subst this
      rfl
theorem seq_got {f : Pr α} {g : α → Pr β} {x : α} {z : β} (hx : Got f l st x) (hz : Got (g x) l (stepS f l st) z) : Got (pThen f g) l st z := by
  intro p y q hp h
  subst hp
  simp only [pThen] at h
  cases h1 : f l p with
  | error q => rw [h1] at h; cases h
  | ok u =>
    obtain ⟨u, r⟩ := u
    rw [h1] at h
    have e := hx p u r rfl h1
    subst e
    exact hz r y q (by simp only [stepS, h1]) h
theorem pure_st (x : α) : stepS (pPure x) l st = st := by cases st <;> rfl
theorem got_pure (x : α) : Got (pPure x) l st x := fun p y q _ h => by
  simp only [pPure, Except.ok.injEq, Prod.mk.injEq] at h
  exact h.1
/-- The end of a sequence. -/
theorem seq_end {f : Pr α} {h : α → β} {x : α} (hx : Got f l st x) : stepS (pThen f fun y => pPure (h y)) l st = stepS f l st ∧ Got (pThen f fun y => pPure (h y)) l st (h x) :=
  ⟨by rw [← seq_st (g := fun y => pPure (h y)) hx, pure_st], seq_got (g := fun y => pPure (h y)) hx (got_pure _)⟩
/-! ### a list -/
/-- So many are left, acc is read: all comes to what f n times from st0 on comes to. -/
def ListI (f : Pr α) (l : List UInt8) (n : Nat) (st0 : St) (k : Nat) (acc : List α) (st : St) : Prop :=
  stepS (pRep f k acc) l st = stepS (pRep f n []) l st0 ∧ (∀ z, Got (pRep f k acc) l st z → Got (pRep f n []) l st0 z) ∧ acc.length + k = n
theorem listI_start (f : Pr α) (n : Nat) : ListI f l n st n [] st := ⟨rfl, fun _ h => h, by simp⟩
theorem listI_next {f : Pr α} {n k : Nat} {st0 : St} {acc : List α} {x : α} (h : ListI f l n st0 (k + 1) acc st) (hx : Got f l st x) : ListI f l n st0 k (acc ++ [x]) (stepS f l st) := by
  refine ⟨?_, fun z hz => ?_, ?_⟩
  · rw [← h.1]; exact seq_st (g := fun x => pRep f k (acc ++ [x])) hx
  · exact h.2.1 z (seq_got (g := fun x => pRep f k (acc ++ [x])) hx hz)
  · have := h.2.2; simp; omega
theorem listI_end {f : Pr α} {n : Nat} {st0 : St} {acc : List α} (h : ListI f l n st0 0 acc st) : st = stepS (pRep f n []) l st0 ∧ Got (pRep f n []) l st0 acc :=
  ⟨by rw [← h.1]; exact (pure_st acc).symm, h.2.1 _ (got_pure acc)⟩
theorem listI_off {f : Pr α} {n k p : Nat} {st0 : St} {acc : List α} (h : ListI f l n st0 k acc (.error p)) : (.error p : St) = stepS (pRep f n []) l st0 ∧ Got (pRep f n []) l st0 acc :=
  ⟨by rw [← h.1]; rfl, h.2.1 _ (got_err _ _ _)⟩
/-! ### a number -/
/-- What is read of a number of most at most: 0, if it is at fault. -/
def numR (most : Nat) (l : List UInt8) : St → Nat × St
  | .error p => (0, .error p)
  | .ok p => match pUpto most l p with
    | .error q => (0, .error q)
    | .ok (n, q) => (n, .ok q)
theorem numR_st (most : Nat) : (numR most l st).2 = stepS (pUpto most) l st := by
  cases st with
  | error p => rfl
  | ok p =>
    simp only [numR, stepS]
    cases pUpto most l p <;> rfl
theorem numR_got (most : Nat) : Got (pUpto most) l st (numR most l st).1 := by
  intro p y q hp h
  subst hp
  simp only [numR, h]
theorem numR_le (most : Nat) : (numR most l st).1 ≤ most := by
  cases st with
  | error p => exact Nat.zero_le _
  | ok p =>
    simp only [numR, pUpto]
    cases pnum l p with
    | none => exact Nat.zero_le _
    | some u =>
      obtain ⟨n, s⟩ := u
      by_cases h : most < n
      · simp [h]
      · simp [h]; omega
end
/-! ### how bytes are read as a number -/
theorem rdA_end (i n : Nat) : rdA i n [] = none := rfl
theorem rdA_bad {i n : Nat} {c : UInt8} {r : List UInt8} (h : (i = 9 ∧ 1 < c.toNat) ∨ (0 < i ∧ c.toNat = 0)) : rdA i n (c :: r) = none := by rw [rdA, if_pos h]
theorem rdA_last {i n : Nat} {c : UInt8} {r : List UInt8} (h : ¬ ((i = 9 ∧ 1 < c.toNat) ∨ (0 < i ∧ c.toNat = 0))) (h2 : c.toNat < 128) : rdA i n (c :: r) = some (n + c.toNat * 128 ^ i, i + 1) := by rw [rdA, if_neg h, if_pos h2]
theorem rdA_more {i n : Nat} {c : UInt8} {r : List UInt8} (h : ¬ ((i = 9 ∧ 1 < c.toNat) ∨ (0 < i ∧ c.toNat = 0))) (h2 : ¬ c.toNat < 128) : rdA i n (c :: r) = rdA (i + 1) (n + c.toNat % 128 * 128 ^ i) r := by rw [rdA, if_neg h, if_neg h2]
theorem drop_at {l : List UInt8} {k : Nat} (h : k < l.length) : l.drop k = l[k] :: l.drop (k + 1) := (List.getElem_cons_drop ..).symm
/-- What first tells. -/
def firstR (l : List UInt8) : Nat × Nat := match rdA 0 0 l with
  | none => (0, 0)
  | some (n, s) => (n, s)
/-- So far: i bytes are read as n. -/
def FirI (l : List UInt8) (i n : Nat) : Prop := rdA 0 0 l = rdA i n (l.drop i) ∧ n < 128 ^ i ∧ i ≤ 9
theorem firI_start (l : List UInt8) : FirI l 0 0 := ⟨rfl, by simp, by omega⟩
theorem firI_next {l : List UInt8} {i n : Nat} (h : FirI l i n) (hi : i < l.length) (h1 : ¬ (i = 9 ∧ 1 < l[i].toNat)) (h2 : 128 ≤ l[i].toNat) : FirI l (i + 1) (n + l[i].toNat % 128 * 128 ^ i) := by
  obtain ⟨h3, h4, h5⟩ := h
  refine ⟨?_, ?_, ?_⟩
  · rw [h3, drop_at hi, rdA_more (by omega) (by omega)]
  · have : l[i].toNat % 128 ≤ 127 := by omega
    have := Nat.mul_le_mul_right (128 ^ i) this
    rw [Nat.pow_succ]; omega
  · by_cases e : i = 9
    · exact absurd ⟨e, by omega⟩ h1
    · omega
theorem firI_bad {l : List UInt8} {i n : Nat} (h : FirI l i n) (hi : i < l.length) (h1 : (i = 9 ∧ 1 < l[i].toNat) ∨ (0 < i ∧ l[i].toNat = 0)) : firstR l = (0, 0) := by
  rw [firstR, h.1, drop_at hi, rdA_bad h1]
theorem firI_last {l : List UInt8} {i n : Nat} (h : FirI l i n) (hi : i < l.length) (h1 : ¬ ((i = 9 ∧ 1 < l[i].toNat) ∨ (0 < i ∧ l[i].toNat = 0))) (h2 : l[i].toNat < 128) : firstR l = (n + l[i].toNat * 128 ^ i, i + 1) := by
  rw [firstR, h.1, drop_at hi, rdA_last h1 h2]
theorem firI_none {l : List UInt8} {i n : Nat} (h : FirI l i n) (hi : l.length ≤ i) : firstR l = (0, 0) := by
  rw [firstR, h.1, List.drop_eq_nil_of_le hi, rdA_end]
theorem rdA_size : ∀ (l : List UInt8) (i n m s : Nat), rdA i n l = some (m, s) → i < s ∧ s ≤ i + l.length
  | [], _, _, _, _, h => by cases h
  | c :: r, i, n, m, s, h => by
    by_cases h1 : (i = 9 ∧ 1 < c.toNat) ∨ (0 < i ∧ c.toNat = 0)
    · rw [rdA_bad h1] at h; cases h
    · by_cases h2 : c.toNat < 128
      · rw [rdA_last h1 h2] at h
        simp only [Option.some.injEq, Prod.mk.injEq] at h
        simp only [List.length_cons]
        omega
      · rw [rdA_more h1 h2] at h
        have := rdA_size r _ _ _ _ h
        simp only [List.length_cons]
        omega
theorem firstR_num {l : List UInt8} {p : Nat} : pnum l p = if (firstR (l.drop p)).2 = 0 then none else some (firstR (l.drop p)) := by
  rw [pnum, firstR]
  cases h : rdA 0 0 (l.drop p) with
  | none => rfl
  | some u =>
    obtain ⟨n, s⟩ := u
    have := rdA_size _ _ _ _ _ h
    dsimp only
    rw [if_neg (by omega)]
theorem firstR_size (l : List UInt8) : (firstR l).2 ≤ l.length := by
  rw [firstR]
  cases h : rdA 0 0 l with
  | none => exact Nat.zero_le _
  | some u =>
    obtain ⟨n, s⟩ := u
    have := rdA_size _ _ _ _ _ h
    show s ≤ _
    omega
theorem pow_le9 {i : Nat} (h : i ≤ 9) : 128 ^ i ≤ 9223372036854775808 := by
  have : 128 ^ i ≤ 128 ^ 9 := Nat.pow_le_pow_right (by omega) h
  omega
theorem firI_fits {i n c : Nat} (hn : n < 128 ^ i) (hi : i ≤ 9) (hc : c < 128) (h9 : i = 9 → c ≤ 1) : n + c * 128 ^ i < 18446744073709551616 := by
  by_cases e : i = 9
  · subst e
    have := h9 rfl
    have h1 : c * 128 ^ 9 ≤ 1 * 128 ^ 9 := Nat.mul_le_mul_right _ this
    omega
  · have h1 : 128 ^ (i + 1) ≤ 128 ^ 9 := Nat.pow_le_pow_right (by omega) (by omega)
    have h2 : (c + 1) * 128 ^ i ≤ 128 * 128 ^ i := Nat.mul_le_mul_right _ (by omega)
    rw [Nat.pow_succ] at h1
    rw [Nat.add_mul] at h2
    omega
end Go.Proofs.Ytlhiaompcgdmfaa
