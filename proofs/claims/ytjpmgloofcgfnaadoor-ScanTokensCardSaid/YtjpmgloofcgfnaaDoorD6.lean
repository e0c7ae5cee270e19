/- The contract of SameTokens at two lists of the same tokens. Condition: both lie in memory. -/
import Derived.Test.YtjpmgloofcgfnaaDoorC6
import Derived.Deep.QuietTactic
import Derived.BigQuiet
namespace Go.Proofs.YtjpmgloofcgfnaaDoor
open Go.RowKit
set_option linter.unusedVariables false
set_option linter.unusedSimpArgs false

/-- The tokens lie where a slice leads. -/
abbrev TkAt (w : World) (ad : Option Addr) (L : List Tk) : Prop := ∀ (j : Nat) (u : Value), (tkCells L)[j]? = some u → ∃ g, ad = some ⟨g, 0, none⟩ ∧ w.cell? ⟨g, j, none⟩ = some u
theorem TkAt.keep {w w' : World} {ad : Option Addr} {L : List Tk} (h : TkAt w ad L) (hk : Kp w w') : TkAt w' ad L := fun j u hu => by
  obtain ⟨g, e, hc⟩ := h j u hu
  exact ⟨g, e, hk.cellv hc⟩
set_option maxHeartbeats 1600000 in
set_option maxRecDepth 100000 in
theorem c_same (ad1 ad2 : Option Addr) (c1 c2 N : Nat) (M : List Tk) (hN : M.length = N) (hb : N ≤ 9223372036854775807) (w : World) (h1 : TkAt w ad1 M) (h2 : TkAt w ad2 M) :
    Calls Tryd.prog 13 #[.slice ad1 N c1, .slice ad2 N c2] w fun e w' => e = .returned (.bool true) ∧ ∃ m, w' = w.drewN m := by
  have H1 := Lib.hid h1
  have H2 := Lib.hid h2
  have HN := Lib.hid hN
  clear h1 h2 hN
  go_enter Tryd.func13, Tryd.ntmps13
  go_wp2_with fail
  go_loopw [5] (fun i wr => ∃ m : Nat, m ≤ N ∧ i = .int .i64 m ∧ ∃ n, wr = w.drewN n) (fun i _ => N - (intOf i).toNat)
  case atStart => exact ⟨0, by omega, rfl, 0, rfl⟩
  case round =>
    obtain ⟨m, hm, rfl, n, rfl⟩ := hrel
    by_cases hlt : m < N
    · obtain ⟨t, ht⟩ : ∃ t, M[m]? = some t := ⟨M[m]'(by have := HN.out; omega), by simp [HN.out, hlt]⟩
      obtain ⟨g, rfl, a0⟩ := H1.out _ _ (tok_at ht (q := 0) rfl)
      obtain ⟨g2, rfl, b0⟩ := H2.out _ _ (tok_at ht (q := 0) rfl)
      have a1 := cell_at H1.out (tok_at ht (q := 1) rfl)
      have a2 := cell_at H1.out (tok_at ht (q := 2) rfl)
      have a3 := cell_at H1.out (tok_at ht (q := 3) rfl)
      have b1 := cell_at H2.out (tok_at ht (q := 1) rfl)
      have b2 := cell_at H2.out (tok_at ht (q := 2) rfl)
      have b3 := cell_at H2.out (tok_at ht (q := 3) rfl)
      rw [Nat.add_zero] at a0 b0
      clear ht
      obtain ⟨tk, tx, tn, tp⟩ := t
      simp only at a0 a1 a2 a3 b0 b1 b2 b3
      have i1 : (0 : Int) ≤ (m : Int) := by omega
      have i2 : (m : Int) < (N : Int) := by omega
      go_wp2_with fail
      go_quiet (fail)
      go_wp2_with fail
      go_roundw
      case rel => exact ⟨m + 1, by omega, by go_num, n + nq, by first | rfl | rw [World.drewN_drewN]⟩
      case measure => simp [intOf]; omega
    · obtain rfl : m = N := by omega
      go_wp2_with fail
      go_ret
      exact ⟨rfl, n, rfl⟩
end Go.Proofs.YtjpmgloofcgfnaaDoor
