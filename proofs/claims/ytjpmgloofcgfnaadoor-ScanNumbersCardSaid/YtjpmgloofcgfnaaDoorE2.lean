/- A numeral's worth and its tokens. No program in sight but the plain functions. -/
import Derived.Test.YtjpmgloofcgfnaaDoorD5
import Derived.Test.YtjpmgloofcgfnaaDoorE1
namespace Go.Proofs.YtjpmgloofcgfnaaDoor
open Go.RowKit
set_option linter.unusedVariables false
set_option linter.unusedSimpArgs false

theorem pu_snoc (b : Nat) : ∀ (l : List UInt8) (c : UInt8) (acc : Nat), pu b acc (l ++ [c]) = (pu b acc l).bind fun m => if 18446744073709551616 ≤ m * b + dgV c.toNat then none else some (m * b + dgV c.toNat)
  | [], c, acc => by simp [pu]
  | a :: l, c, acc => by
    rw [List.cons_append, pu, pu]
    split
    · rfl
    · exact pu_snoc b l c _
theorem dgt_nat {c : Nat} (h : c < 10) : (dgt c).toNat = 48 + c := by
  unfold dgt; rw [UInt8.toNat_ofNat']; omega
theorem dgV_dgt {c : Nat} (h : c < 10) : dgV (dgt c).toNat = c := by
  rw [dgt_nat h]; unfold dgV; rw [if_pos (by omega)]; omega
theorem dec_ind (P : Nat → Prop) (h0 : ∀ v, v < 10 → P v) (h1 : ∀ v, 10 ≤ v → P (v / 10) → P v) (v : Nat) : P v := by
  induction v using Nat.strongRecOn with
  | _ v ih =>
    by_cases h : v < 10
    · exact h0 v h
    · exact h1 v (by omega) (ih (v / 10) (by omega))
theorem pu_dec (v : Nat) : v < 18446744073709551616 → pu 10 0 (Lib.decDigits v) = some v := by
  refine dec_ind (fun v => v < 18446744073709551616 → pu 10 0 (Lib.decDigits v) = some v) (fun v h _ => ?_) (fun v h ih hv => ?_) v
  · rw [dd_small h, pu, dgV_dgt h, if_neg (by omega), pu]; simp
  · rw [dd_big h, pu_snoc, ih (by omega), Option.bind_some, dgV_dgt (by omega), if_neg (by omega)]
    congr 1; omega
theorem dec_all (v : Nat) : ∀ c ∈ Lib.decDigits v, 48 ≤ c.toNat ∧ c.toNat ≤ 57 := by
  refine dec_ind (fun v => ∀ c ∈ Lib.decDigits v, 48 ≤ c.toNat ∧ c.toNat ≤ 57) (fun v h => ?_) (fun v h ih => ?_) v
  · rw [dd_small h]; intro c hc; rw [List.mem_singleton.1 hc, dgt_nat h]; omega
  · rw [dd_big h]; intro c hc
    rcases List.mem_append.1 hc with hc | hc
    · exact ih c hc
    · rw [List.mem_singleton.1 hc, dgt_nat (by omega)]; omega
/-- Digits in tens begin with no 0, but of 0 itself. -/
theorem dec_head (v : Nat) : ∃ c l, Lib.decDigits v = c :: l ∧ (c = 48 → v = 0 ∧ l = []) := by
  refine dec_ind (fun v => ∃ c l, Lib.decDigits v = c :: l ∧ (c = 48 → v = 0 ∧ l = [])) (fun v h => ?_) (fun v h ih => ?_) v
  · refine ⟨dgt v, [], dd_small h, fun e => ⟨?_, rfl⟩⟩
    have := congrArg UInt8.toNat e
    rw [dgt_nat h] at this
    have h48 : (48 : UInt8).toNat = 48 := rfl
    omega
  · obtain ⟨c, l, e, h2⟩ := ih
    refine ⟨c, l ++ [dgt (v % 10)], by rw [dd_big h, e]; rfl, fun hc => ?_⟩
    have := (h2 hc).1
    omega
theorem all_dec (v : Nat) : (Lib.decDigits v).all (dgB 10) = true := by
  rw [List.all_eq_true]
  intro c hc
  have := dec_all v c hc
  unfold dgB isDg
  simp
  omega
theorem nm_dec {v : Nat} (h : v < 18446744073709551616) : nmV 10 (Lib.decDigits v) = ((v : Int), 0) := by
  obtain ⟨c, l, e, _⟩ := dec_head v
  unfold nmV
  rw [if_neg (by rw [e]; simp), if_pos (all_dec v), pu_dec v h]
theorem num_not {l : List UInt8} (h : ∀ c r, l ≠ 48 :: c :: r) : numV l = nmV 10 l := by
  unfold numV
  split
  · rename_i c r; exact absurd rfl (h c r)
  · rfl
theorem num_dec {v : Nat} (h : v < 18446744073709551616) : numV (Lib.decDigits v) = ((v : Int), 0) := by
  rw [num_not, nm_dec h]
  intro c r e
  obtain ⟨c2, l, e2, h2⟩ := dec_head v
  rw [e2] at e
  cases e
  have := (h2 rfl).2
  cases this
theorem num_zero {v : Nat} : numV (48 :: Lib.decDigits v) = (0, 4) := by
  obtain ⟨c, l, e, _⟩ := dec_head v
  have hc := dec_all v c (by rw [e]; simp)
  rw [e]
  have h120 : (120 : UInt8).toNat = 120 := rfl
  have : c ≠ 120 := fun h => by rw [h] at hc; omega
  unfold numV
  simp only [if_neg this]
theorem num_let {v : Nat} : numV (Lib.decDigits v ++ [122]) = (0, 4) := by
  obtain ⟨c, l, e, h2⟩ := dec_head v
  by_cases hc : c = 48
  · obtain ⟨_, rfl⟩ := h2 hc
    rw [e, hc]
    rfl
  · rw [num_not (by intro c2 r h; rw [e] at h; simp at h; exact hc h.1)]
    unfold nmV
    rw [if_neg (by simp), if_neg]
    rw [List.all_append]
    simp [dgB, isDg]
/-- Digits in sixteens. -/
def hxd (c : Nat) : UInt8 := if c < 10 then UInt8.ofNat (48 + c) else UInt8.ofNat (87 + c)
def hxV : Nat → Nat → List UInt8
  | 0, v => [hxd v]
  | b + 1, v => if v < 16 then [hxd v] else hxV b (v / 16) ++ [hxd (v % 16)]
theorem hxd_nat {c : Nat} (h : c < 16) : (hxd c).toNat = if c < 10 then 48 + c else 87 + c := by
  unfold hxd
  split <;> (rw [UInt8.toNat_ofNat']; omega)
theorem hxd_ok {c : Nat} (h : c < 16) : dgB 16 (hxd c) = true ∧ dgV (hxd c).toNat = c := by
  unfold dgB isDg dgV
  rw [hxd_nat h]
  split
  · constructor
    · simp; omega
    · rw [if_pos (by omega)]; omega
  · constructor
    · simp; omega
    · rw [if_neg (by omega), if_neg (by omega)]; omega
theorem hx_len : ∀ (b v : Nat), 1 ≤ (hxV b v).length ∧ (hxV b v).length ≤ b + 1
  | 0, v => by simp [hxV]
  | b + 1, v => by
    rw [hxV]
    split
    · simp
    · have := hx_len b (v / 16); simp; omega
theorem hx_all : ∀ (b v : Nat), v < 16 ^ (b + 1) → (hxV b v).all (dgB 16) = true
  | 0, v, h => by simp [hxV, (hxd_ok (c := v) (by simpa using h)).1]
  | b + 1, v, h => by
    rw [hxV]
    split
    · rename_i h16; simp [(hxd_ok h16).1]
    · rw [List.all_append, hx_all b (v / 16) (by rw [Nat.pow_succ] at h; omega)]
      simp [(hxd_ok (c := v % 16) (by omega)).1]
theorem hx_pu : ∀ (b v : Nat), v < 16 ^ (b + 1) → v < 18446744073709551616 → pu 16 0 (hxV b v) = some v
  | 0, v, h, hv => by
    rw [hxV, pu, (hxd_ok (by simpa using h)).2, if_neg (by omega), pu]; simp
  | b + 1, v, h, hv => by
    rw [hxV]
    split
    · rename_i h16; rw [pu, (hxd_ok h16).2, if_neg (by omega), pu]; simp
    · rw [pu_snoc, hx_pu b (v / 16) (by rw [Nat.pow_succ] at h; omega) (by omega), Option.bind_some, (hxd_ok (by omega)).2, if_neg (by omega)]
      congr 1; omega
theorem num_hex {v : Nat} (h : v < 18446744073709551616) : numV (48 :: 120 :: hxV 15 v) = ((v : Int), 0) := by
  have h16 : v < 16 ^ 16 := h
  have h1 := hx_len 15 v
  unfold numV
  simp only [if_true]
  unfold nmV
  rw [if_neg (by intro e; rw [e] at h1; simp at h1), if_pos (hx_all 15 v h16), hx_pu 15 v h16 h]
/-! ### its tokens -/
theorem span_all {s : ByteArray} (h : ∀ p, p < s.size → wordC (rn s p) = true) : ∀ (m p : Nat), s.size - p ≤ m → p ≤ s.size → Span s p s.size
  | m, p, hm, hp => by
    by_cases he : p = s.size
    · subst he; exact .fin
    · have hlt : p < s.size := by omega
      have hw := wd_pos hlt
      cases m with
      | zero => omega
      | succ m => exact .step hlt (h p hlt) (span_all h m _ (by omega) (wd_le hlt))
theorem fine_all {s : ByteArray} (h : ∀ p, p < s.size → rn s p < 128) : ∀ (m p : Nat), s.size - p ≤ m → Fine s p
  | m, p, hm => by
    by_cases hlt : p < s.size
    · have hw := wd_pos hlt
      cases m with
      | zero => omega
      | succ m => exact (fine_step hlt).2 ⟨fun ⟨e, _⟩ => by have := h p hlt; omega, fine_all h m _ (by omega)⟩
    · exact fine_end hlt
def decT (v : Nat) : ByteArray := ⟨(Lib.decDigits v).toArray⟩
theorem decT_size (v : Nat) : (decT v).size = (Lib.decDigits v).length := by simp [decT, ByteArray.size]
theorem decT_byt {v p : Nat} (h : p < (decT v).size) : 48 ≤ (byt (decT v) p).toNat ∧ (byt (decT v) p).toNat ≤ 57 := by
  have hl : p < (Lib.decDigits v).length := by rw [← decT_size]; exact h
  have : byt (decT v) p = (Lib.decDigits v)[p] := by
    unfold byt
    rw [List.getD_eq_getElem?_getD, show (decT v).data.toList = Lib.decDigits v from rfl, List.getElem?_eq_getElem hl]
    rfl
  rw [this]
  exact dec_all v _ (List.getElem_mem hl)
theorem decT_rn {v p : Nat} (h : p < (decT v).size) : 48 ≤ rn (decT v) p ∧ rn (decT v) p ≤ 57 := by
  have h1 := decT_byt h
  have h2 := rn_byte (s := decT v) (p := p) (by omega)
  have : rn (decT v) p = (byt (decT v) p).toNat := by show (Utf8.decode (decT v) p).1 = _; rw [h2]
  omega
theorem toks_dec {v : Nat} (hv : v < 18446744073709551616) : toksV (decT v) = .ok [⟨2, decT v, (v : Int), 0⟩, semiT (decT v).size] := by
  have hn := nd20 hv
  have hl : (Lib.decDigits v).length = Lib.nDigits v := Lib.decDigits_length v
  obtain ⟨c, l, e, _⟩ := dec_head v
  have hs0 : 0 < (decT v).size := by rw [decT_size, e]; simp
  have hs1 : (decT v).size ≤ 20 := by rw [decT_size, hl]; exact hn
  have h1 := decT_rn hs0
  have hdig : decide (48 ≤ ((rn (decT v) 0 : Nat) : Int) ∧ ((rn (decT v) 0 : Nat) : Int) ≤ 57) = true := by simp; omega
  have hlt : lt ((rn (decT v) 0 : Nat) : Int) = false := by unfold lt; simp; omega
  have hsp := span_all (s := decT v) (fun p hp => by have := decT_rn hp; simp [wordC]; right; omega) (decT v).size 0 (by omega) (by omega)
  have hE := span_is (Nat.zero_le _) hsp
  have hx0 : (decT v).extract 0 (decT v).size = decT v := ext_all _
  rw [hx0] at hE
  have hf : firstV ((decT v).extract 0 (decT v).size) (rn (decT v) 0) = (⟨2, decT v, (v : Int), 0⟩, 0) := by
    rw [hx0]
    unfold firstV
    rw [if_neg (by rw [hlt]; decide), if_pos hdig, hE, Nat.sub_zero, hx0, show (decT v).data.toList = Lib.decDigits v from rfl, num_dec hv]
  refine toks_of (by omega) (fine_all (fun p hp => by have := decT_rn hp; omega) (decT v).size 0 (by omega)) ?_
  refine .tok hs0 ⟨by omega, by omega, ?_, hf⟩ (by simp) ?_
  · rw [List.drop_zero]
    show Lib.hasPrefix (Lib.decDigits v) [47, 47] = false
    have hc := dec_all v c (by rw [e]; simp)
    rw [e]
    have h47 : (47 : UInt8).toNat = 47 := rfl
    have : ¬ (47 : UInt8) = c := fun h => by rw [← h] at hc; omega
    simp [Lib.hasPrefix, List.isPrefixOf, this]
  · rw [show 0 + (decT v).size = (decT v).size by omega]
    refine .fin ?_
    unfold endV
    simp [endsB]
end Go.Proofs.YtjpmgloofcgfnaaDoor
