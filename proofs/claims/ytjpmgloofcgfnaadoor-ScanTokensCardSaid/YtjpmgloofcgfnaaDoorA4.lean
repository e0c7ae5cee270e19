/- Numbers in tens and in sixteens, as a plain function; Number of the reference. No condition. -/
import Derived.Test.YtjpmgloofcgfnaaDoorA3
namespace Go.Proofs.YtjpmgloofcgfnaaDoor
open Go.RowKit
set_option linter.unusedVariables false
set_option linter.unusedSimpArgs false

/-- The digits of a base. -/
def isDg (b : Nat) (c : Nat) : Bool := decide (48 ≤ c ∧ c ≤ 57) || (decide (b = 16) && (decide (97 ≤ c ∧ c ≤ 102) || decide (65 ≤ c ∧ c ≤ 70)))
def dgV (c : Nat) : Nat := if c ≤ 57 then c - 48 else if c ≤ 70 then c - 55 else c - 87
theorem dgV_lt {b c : Nat} (hb : b = 10 ∨ b = 16) (h : isDg b c = true) : dgV c < b := by
  unfold isDg at h
  unfold dgV
  rcases hb with rfl | rfl <;> simp at h
  · split <;> omega
  · split
    · omega
    · split <;> omega
/-- The number that digits are, on top of what stands ahead; none: it has no room in 64 bits. -/
def pu (b : Nat) : Nat → List UInt8 → Option Nat
  | acc, [] => some acc
  | acc, c :: l => if 18446744073709551616 ≤ acc * b + dgV c.toNat then none else pu b (acc * b + dgV c.toNat) l
theorem pu_lt {b : Nat} : ∀ {l : List UInt8} {acc n : Nat}, acc < 18446744073709551616 → pu b acc l = some n → n < 18446744073709551616
  | [], acc, n, h, hp => by simp [pu] at hp; omega
  | c :: l, acc, n, h, hp => by
    rw [pu] at hp
    split at hp
    · cases hp
    · exact pu_lt (by omega) hp
def dgB (b : Nat) (c : UInt8) : Bool := isDg b c.toNat
/-- A number's digits, in a base. -/
def nmV (b : Nat) (l : List UInt8) : Int × Int :=
  if l = [] then (0, 4) else if l.all (dgB b) = true then (match pu b 0 l with | some n => ((n : Int), 0) | none => (0, 6)) else (0, 4)
/-- What a text is worth as a number, and its error. -/
def numV (l : List UInt8) : Int × Int :=
  match l with
  | 48 :: c :: r => if c = 120 then nmV 16 r else (0, 4)
  | _ => nmV 10 l
def numT (x : Int × Int) : Value := .tuple #[.int .u64 x.1, .int .i64 x.2]
/-- A digit's value; -1: it is none. -/
def dgR (b c : Nat) : Int := if isDg b c = true then (dgV c : Int) else -1
theorem ret_i64 {a b : Int} (h : a = b) : Ending.returned (.int .i64 a) = .returned (.int .i64 b) := by rw [h]
set_option maxHeartbeats 1600000 in
theorem c_value (c b : Nat) (hb : b = 10 ∨ b = 16) (hc : c < 256) (w : World) : Calls Tryd.prog 32 #[.int .u8 c, .int .u64 b] w fun e w' => e = .returned (.int .i64 (dgR b c)) ∧ w = w' := by
  have hq : c < 48 ∨ (48 ≤ c ∧ c ≤ 57) ∨ (57 < c ∧ c < 65) ∨ (65 ≤ c ∧ c ≤ 70) ∨ (70 < c ∧ c < 97) ∨ (97 ≤ c ∧ c ≤ 102) ∨ 102 < c := by omega
  rcases hb with rfl | rfl
  all_goals
    rcases hq with h | ⟨h, h'⟩ | ⟨h, h'⟩ | ⟨h, h'⟩ | ⟨h, h'⟩ | ⟨h, h'⟩ | h
    all_goals
      first | (have d0 : decide ((c : Int) ≤ 57) = true := decide_eq_true (by omega)) | (have d0 : decide ((c : Int) ≤ 57) = false := decide_eq_false (by omega))
      first | (have d1 : decide ((c : Int) ≤ 102) = true := decide_eq_true (by omega)) | (have d1 : decide ((c : Int) ≤ 102) = false := decide_eq_false (by omega))
      first | (have d2 : decide ((c : Int) ≤ 70) = true := decide_eq_true (by omega)) | (have d2 : decide ((c : Int) ≤ 70) = false := decide_eq_false (by omega))
      first | (have d3 : decide (97 ≤ (c : Int)) = true := decide_eq_true (by omega)) | (have d3 : decide (97 ≤ (c : Int)) = false := decide_eq_false (by omega))
      first | (have d4 : decide (65 ≤ (c : Int)) = true := decide_eq_true (by omega)) | (have d4 : decide (65 ≤ (c : Int)) = false := decide_eq_false (by omega))
      go_enter Tryd.func32, Tryd.ntmps32
      go_wp2
      go_ret
      exact ⟨ret_i64 (by unfold dgR; first | (rw [if_neg (by unfold isDg; simp; omega)]; done) | (rw [if_pos (by unfold isDg; simp; omega)]; unfold dgV; split <;> (try split) <;> omega)), rfl⟩
end Go.Proofs.YtjpmgloofcgfnaaDoor
