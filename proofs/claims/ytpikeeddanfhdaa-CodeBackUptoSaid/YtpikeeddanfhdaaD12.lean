/- What is written is read back, and what is read is written so. Plain: no program is walked here. -/
import Derived.Test.YtpikeeddanfhdaaD0
namespace Go.Proofs.Ytpikeeddanfhdaa
set_option linter.unusedVariables false
set_option linter.unusedSimpArgs false
/-! ### a number -/
theorem rdA_num : ∀ (f i acc n : Nat) (suf : List UInt8), i + f = 9 → n < 128 ^ f * 2 → (0 < i → 0 < n) → rdA i acc (numF f n ++ suf) = some (acc + n * 128 ^ i, i + (numF f n).length)
  | 0, i, acc, n, suf, h, hn, h0 => by
    have hi : i = 9 := by omega
    have hn2 : n < 2 := by simpa using hn
    have hc : (UInt8.ofNat n).toNat = n := by rw [UInt8.toNat_ofNat']; omega
    rw [numF, List.singleton_append, rdA_last (by rw [hc]; intro hx; rcases hx with hx | hx <;> omega) (by rw [hc]; omega), hc]
    rfl
  | f + 1, i, acc, n, suf, h, hn, h0 => by
    by_cases h1 : n < 128
    · have hc : (UInt8.ofNat n).toNat = n := by rw [UInt8.toNat_ofNat']; omega
      rw [numF, if_pos h1, List.singleton_append, rdA_last (by rw [hc]; intro hx; rcases hx with hx | hx <;> omega) (by rw [hc]; omega), hc]
      rfl
    · have hc : (UInt8.ofNat (n % 128 + 128)).toNat = n % 128 + 128 := by rw [UInt8.toNat_ofNat']; omega
      have hq : n / 128 < 128 ^ f * 2 := by
        rw [Nat.pow_succ] at hn
        exact (Nat.div_lt_iff_lt_mul (by omega)).2 (by omega)
      rw [numF, if_neg h1, List.cons_append, rdA_more (by rw [hc]; intro hx; rcases hx with hx | hx <;> omega) (by rw [hc]; omega), rdA_num f (i + 1) _ (n / 128) suf (by omega) hq (by omega), hc]
      have e1 : (n % 128 + 128) % 128 = n % 128 := by omega
      have e2 : n * 128 ^ i = n % 128 * 128 ^ i + n / 128 * 128 ^ (i + 1) := by
        have : n = n % 128 + 128 * (n / 128) := by omega
        rw [Nat.pow_succ]
        conv => lhs; rw [this, Nat.add_mul]
        rw [Nat.mul_comm 128 (n / 128), Nat.mul_assoc, Nat.mul_comm 128 (128 ^ i)]
      rw [e1, e2, List.length_cons]
      congr 2 <;> omega
theorem num_rdA : ∀ (f i acc : Nat) (l : List UInt8) (m s : Nat), i + f = 9 → rdA i acc l = some (m, s) → ∃ n suf, l = numF f n ++ suf ∧ m = acc + n * 128 ^ i ∧ s = i + (numF f n).length ∧ n < 128 ^ f * 2 ∧ (0 < i → 0 < n)
  | _, _, _, [], _, _, _, h => by cases h
  | f, i, acc, c :: r, m, s, hi, h => by
    have hcl := c.toNat_lt
    have hof : UInt8.ofNat c.toNat = c := by simp
    by_cases h1 : (i = 9 ∧ 1 < c.toNat) ∨ (0 < i ∧ c.toNat = 0)
    · rw [rdA_bad h1] at h; cases h
    · by_cases h2 : c.toNat < 128
      · rw [rdA_last h1 h2] at h
        simp only [Option.some.injEq, Prod.mk.injEq] at h
        obtain ⟨rfl, rfl⟩ := h
        refine ⟨c.toNat, r, ?_, rfl, ?_, ?_, by omega⟩
        · cases f with
          | zero => rw [numF, hof]; rfl
          | succ f => rw [numF, if_pos h2, hof]; rfl
        · cases f with
          | zero => rfl
          | succ f => rw [numF, if_pos h2]; rfl
        · cases f with
          | zero => have : ¬ (i = 9 ∧ 1 < c.toNat) := fun e => h1 (.inl e); simp; omega
          | succ f =>
            have : 0 < 128 ^ f := Nat.pow_pos (by omega)
            rw [Nat.pow_succ]; omega
      · cases f with
        | zero => exact absurd (.inl ⟨by omega, by omega⟩) h1
        | succ f =>
          rw [rdA_more h1 h2] at h
          obtain ⟨n, suf, e1, e2, e3, e4, e5⟩ := num_rdA f (i + 1) _ r m s (by omega) h
          have hn := e5 (by omega)
          refine ⟨c.toNat % 128 + 128 * n, suf, ?_, ?_, ?_, ?_, by omega⟩
          · rw [numF, if_neg (by omega), show (c.toNat % 128 + 128 * n) % 128 + 128 = c.toNat by omega, hof, show (c.toNat % 128 + 128 * n) / 128 = n by omega, List.cons_append, ← e1]
          · rw [e2, Nat.add_mul, Nat.pow_succ, Nat.mul_comm 128 n, Nat.mul_assoc, Nat.mul_comm 128 (128 ^ i)]
            omega
          · rw [e3, numF, if_neg (by omega), show (c.toNat % 128 + 128 * n) / 128 = n by omega, List.length_cons]
            omega
          · rw [Nat.pow_succ]; omega
/-! ### what a reader reads as what -/
/-- Of the bytes s, wherever they stand, f reads x if R; and of no others. -/
structure Io {α : Type} (f : Pr α) (R : α → List UInt8 → Prop) : Prop where
  to : ∀ x s, R x s → ∀ pre suf, f (pre ++ (s ++ suf)) pre.length = .ok (x, pre.length + s.length)
  back : ∀ b p x q, p ≤ b.length → f b p = .ok (x, q) → ∃ s suf, b.drop p = s ++ suf ∧ q = p + s.length ∧ R x s
theorem Io.pure {α : Type} (x : α) : Io (pPure x) fun y s => y = x ∧ s = [] := by
  refine ⟨fun y s ⟨h1, h2⟩ pre suf => by subst h1; subst h2; rfl, fun b p y q hp h => ?_⟩
  simp only [pPure, Except.ok.injEq, Prod.mk.injEq] at h
  exact ⟨[], b.drop p, rfl, by simp [h.2], h.1.symm, rfl⟩
theorem Io.then {α β : Type} {f : Pr α} {g : α → Pr β} {R : α → List UInt8 → Prop} {T : α → β → List UInt8 → Prop} (hf : Io f R) (hg : ∀ x, Io (g x) (T x)) : Io (pThen f g) fun y u => ∃ x s t, R x s ∧ T x y t ∧ u = s ++ t := by
  refine ⟨fun y u ⟨x, s, t, h1, h2, h3⟩ pre suf => ?_, fun b p y q hp h => ?_⟩
  · subst h3
    have e1 := hf.to x s h1 pre (t ++ suf)
    have e2 := (hg x).to y t h2 (pre ++ s) suf
    simp only [pThen, List.append_assoc] at e1 e2 ⊢
    rw [e1]
    dsimp only
    rw [List.length_append] at e2
    rw [e2, List.length_append, Nat.add_assoc]
  · simp only [pThen] at h
    cases h1 : f b p with
    | error r => rw [h1] at h; cases h
    | ok u =>
      obtain ⟨x, r⟩ := u
      rw [h1] at h
      obtain ⟨s, suf, e1, e2, e3⟩ := hf.back b p x r hp h1
      have hl : s.length + suf.length = b.length - p := by rw [← List.length_append, ← e1, List.length_drop]
      obtain ⟨t, suf2, e4, e5, e6⟩ := (hg x).back b r y q (by omega) h
      refine ⟨s ++ t, suf2, ?_, by rw [List.length_append]; omega, x, s, t, e3, e6, rfl⟩
      have : b.drop r = suf := by rw [e2, ← List.drop_drop, e1, List.drop_left]
      rw [e1, ← this, e4, List.append_assoc]
theorem Io.congr {α : Type} {f : Pr α} {R T : α → List UInt8 → Prop} (h : Io f R) (e : ∀ x s, R x s ↔ T x s) : Io f T :=
  ⟨fun x s hx => h.to x s ((e x s).2 hx), fun b p x q hp hf => by
    obtain ⟨s, suf, h1, h2, h3⟩ := h.back b p x q hp hf
    exact ⟨s, suf, h1, h2, (e x s).1 h3⟩⟩
theorem io_upto {most : Nat} (hm : most < 18446744073709551616) : Io (pUpto most) fun n s => n ≤ most ∧ s = num n := by
  refine ⟨fun n s ⟨h1, h2⟩ pre suf => ?_, fun b p n q hp h => ?_⟩
  · subst h2
    have e := rdA_num 9 0 0 n suf rfl (by omega) (fun h => by omega)
    simp only [Nat.pow_zero, Nat.mul_one, Nat.zero_add] at e
    simp only [pUpto, pnum, List.drop_left]
    rw [num, e]
    dsimp only
    rw [if_neg (by omega)]
  · simp only [pUpto, pnum] at h
    cases h1 : rdA 0 0 (b.drop p) with
    | none => rw [h1] at h; cases h
    | some u =>
      obtain ⟨m, s⟩ := u
      rw [h1] at h
      dsimp only at h
      by_cases h2 : most < m
      · rw [if_pos h2] at h; cases h
      · rw [if_neg h2] at h
        simp only [Except.ok.injEq, Prod.mk.injEq] at h
        obtain ⟨rfl, rfl⟩ := h
        obtain ⟨k, suf, e1, e2, e3, e4, e5⟩ := num_rdA 9 0 0 _ m s rfl h1
        simp only [Nat.pow_zero, Nat.mul_one, Nat.zero_add] at e2 e3
        subst e2
        exact ⟨num m, suf, e1, by rw [e3]; rfl, by omega, rfl⟩
/-! ### items -/
def ser : It → List UInt8
  | .sm n least => num (n - least).toNat
  | .nu n => num n
def goodI' : It → Prop
  | .sm n least => badN n least = false
  | .nu n => n < 18446744073709551616
/-- These are the bytes of the items, none of which is beyond. -/
def Ser (l : List It) (s : List UInt8) : Prop := (∀ i ∈ l, goodI' i) ∧ s = l.flatMap ser
theorem ser_nil (s : List UInt8) : Ser [] s ↔ s = [] := ⟨fun h => h.2, fun h => ⟨fun _ h => (by cases h), h⟩⟩
theorem ser_app (l m : List It) (u : List UInt8) : Ser (l ++ m) u ↔ ∃ s t, Ser l s ∧ Ser m t ∧ u = s ++ t := by
  constructor
  · rintro ⟨h1, rfl⟩
    exact ⟨_, _, ⟨fun i hi => h1 i (List.mem_append_left _ hi), rfl⟩, ⟨fun i hi => h1 i (List.mem_append_right _ hi), rfl⟩, List.flatMap_append⟩
  · rintro ⟨s, t, ⟨h1, rfl⟩, ⟨h2, rfl⟩, rfl⟩
    exact ⟨fun i hi => (List.mem_append.1 hi).elim (h1 i) (h2 i), List.flatMap_append.symm⟩
theorem ser_one (i : It) (s : List UInt8) : Ser [i] s ↔ goodI' i ∧ s = ser i := by
  simp [Ser]
theorem ser_cons (i : It) (l : List It) (u : List UInt8) : Ser (i :: l) u ↔ ∃ s t, Ser [i] s ∧ Ser l t ∧ u = s ++ t := ser_app [i] l u
theorem io_small {least : Int} (hl : least = 0 ∨ least = -1) : Io (pSmall least) fun x s => Ser [.sm x least] s := by
  refine (Io.then (io_upto (by omega)) (fun n => Io.pure ((n : Int) + least))).congr fun x s => ?_
  rw [ser_one]
  simp only [goodI', ser, badN, Bool.or_eq_false_iff, decide_eq_false_iff_not]
  constructor
  · rintro ⟨n, s', t, ⟨h1, rfl⟩, ⟨rfl, rfl⟩, rfl⟩
    refine ⟨by omega, ?_⟩
    rw [List.append_nil]
    congr 1
    omega
  · rintro ⟨h1, rfl⟩
    refine ⟨(x - least).toNat, _, [], ⟨by omega, rfl⟩, ⟨by omega, rfl⟩, (List.append_nil _).symm⟩
/-- All of a list, one after another. -/
theorem io_rep {α : Type} {f : Pr α} {it : α → List It} {ok : α → Prop} (h : Io f fun x s => ok x ∧ Ser (it x) s) : ∀ (n : Nat) (acc : List α), Io (pRep f n acc) fun y u => ∃ xs, y = acc ++ xs ∧ xs.length = n ∧ (∀ x ∈ xs, ok x) ∧ Ser (xs.flatMap it) u
  | 0, acc => (Io.pure acc).congr fun y u => by
    constructor
    · rintro ⟨rfl, rfl⟩
      exact ⟨[], by simp, rfl, fun _ h => (by cases h), (ser_nil _).2 rfl⟩
    · rintro ⟨xs, h1, h2, _, h3⟩
      have : xs = [] := List.eq_nil_of_length_eq_zero h2
      subst this
      exact ⟨by simpa using h1, (ser_nil _).1 h3⟩
  | n + 1, acc => (Io.then h (fun x => io_rep h n (acc ++ [x]))).congr fun y u => by
    constructor
    · rintro ⟨x, s, t, ⟨h1, h2⟩, ⟨xs, rfl, h3, h4, h5⟩, rfl⟩
      refine ⟨x :: xs, by simp, by simp [h3], fun z hz => ?_, (ser_app _ _ _).2 ⟨s, t, h2, h5, rfl⟩⟩
      rcases List.mem_cons.1 hz with rfl | hz
      · exact h1
      · exact h4 z hz
    · rintro ⟨xs, rfl, h3, h4, h5⟩
      cases xs with
      | nil => cases h3
      | cons x xs =>
        obtain ⟨s, t, h6, h7, h8⟩ := (ser_app _ _ _).1 h5
        exact ⟨x, s, t, ⟨h4 x (by simp), h6⟩, ⟨xs, by simp, by simpa using h3, fun z hz => h4 z (by simp [hz]), h7⟩, h8⟩
theorem io_list {α : Type} {f : Pr α} {it : α → List It} {ok : α → Prop} (h : Io f fun x s => ok x ∧ Ser (it x) s) : Io (pList f) fun y u => (∀ x ∈ y, ok x) ∧ Ser (lenI y.length :: y.flatMap it) u := by
  refine (Io.then (io_small (.inl rfl)) (fun n => io_rep h n.toNat [])).congr fun y u => ?_
  constructor
  · rintro ⟨n, s, t, h1, ⟨xs, rfl, h3, h4, h5⟩, rfl⟩
    refine ⟨by simpa using h4, (ser_cons _ _ _).2 ⟨s, t, ?_, by simpa using h5, rfl⟩⟩
    have hn := ((ser_one _ _).1 h1).1
    simp only [goodI', badN, Bool.or_eq_false_iff, decide_eq_false_iff_not] at hn
    have : n = (y.length : Int) := by omega
    rw [lenI, ← this]
    exact h1
  · rintro ⟨h4, h5⟩
    obtain ⟨s, t, h6, h7, rfl⟩ := (ser_cons _ _ _).1 h5
    exact ⟨(y.length : Int), s, t, h6, ⟨y, rfl, by simp, h4, h7⟩, rfl⟩
end Go.Proofs.Ytpikeeddanfhdaa
