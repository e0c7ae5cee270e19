/- The walk of ScanBlanks: whatever the text and the number. Condition: the library's variables hold what they must. -/
import Derived.Test.YtjpmgloofcgfnaaDoorC4
import Derived.Test.YtjpmgloofcgfnaaDoorB9
namespace Go.Proofs.YtjpmgloofcgfnaaDoor
open Go.RowKit
set_option linter.unusedVariables false
set_option linter.unusedSimpArgs false

theorem blk_one (j : Nat) (s : ByteArray) : (⟨#[32]⟩ : ByteArray) ++ blk j s = blk (j + 1) s := rfl
theorem c_tokE (s : ByteArray) (i e0 : Int) (w : World) (h : toksV s = .error (i, e0)) (he : ErrAt w) (hg : SignsAt w) (hm : MaxAt w) : Calls Tryd.prog 10 #[.string s] w fun e w' => e = .returned (.tuple #[.slice none 0 0, .int .i64 i, .int .i64 e0]) ∧ Kp w w' :=
  (c_Tokens s w he hg hm).mono fun e w' hq => by
    rw [h] at hq
    exact ⟨hq.2, hq.1⟩
set_option maxHeartbeats 1600000 in
set_option maxRecDepth 1000000 in
theorem blanks_err (s : ByteArray) (n : Int) (x : Int × Int) (w : World) (hs : s.size ≤ 140737488351232) (hn : 0 ≤ n ∧ n ≤ 255) (he : ErrAt w) (hg : SignsAt w) (hm : MaxAt w) (h : toksV s = .error x) : Calls Tryd.prog 9 #[.string s, .int .u8 n] w fun e w' => e = .returned (.bool true) ∧ Kp w w' := by
  have HE := Lib.hid he
  have HG := Lib.hid hg
  have HM := Lib.hid hm
  have CT := Lib.hid (c_Tokens s w he hg hm)
  have HX := Lib.hid h
  obtain ⟨k, hk, hk9⟩ : ∃ k : Nat, (k : Int) = n % 9 ∧ k < 9 := ⟨(n % 9).toNat, by omega, by omega⟩
  have HK := Lib.hid hk
  obtain ⟨n0, n1⟩ := hn
  clear h he hg hm hk
  obtain ⟨xi, xe⟩ := x
  go_enter Tryd.func9, Tryd.ntmps9
  go_wp2_with (first | (go_at_call 10; refine (CT.out).mono ?_; rintro e w2 hq; rw [HX.out] at hq; obtain ⟨hk2, rfl⟩ := hq; have K2 := Lib.hid hk2; clear hk2))
  rw [← HK.out]
  have HK0 := HK
  clear HK
  go_loopw [9, 10] (fun t i wq => ∃ j : Nat, j ≤ k ∧ i = .int .i64 j ∧ t = .string (blk j s) ∧ w2 = wq) (fun _ i _ => k - (intOf i).toNat)
  case atStart => exact ⟨0, by omega, rfl, rfl, rfl⟩
  case round =>
    obtain ⟨j, hj, rfl, rfl, rfl⟩ := hrel
    by_cases hlt : j < k
    · have z1 : ¬ (9223372036854775807 < 1 + (blk j s).size) := by rw [blk_size]; omega
      have i1 : (j : Int) < (k : Int) := by omega
      go_wp2_with fail
      go_roundw
      case rel => exact ⟨j + 1, by omega, by go_num, rfl, trivial⟩
      case measure => simp [intOf]; omega
    · obtain rfl : j = k := by omega
      by_cases hbig : 65536 ≤ (blk j s).size
      · have z1 : (65536 : Int) ≤ (((blk j s).size : Nat) : Int) := by omega
        go_wp2_with (first | (go_at_call 12; (with_reducible refine (c_answers _ (HE.out.keep K2.out) (HG.out.keep K2.out) (HM.out.keep K2.out)).mono ?_); rintro e w3 ⟨rfl, hk3⟩; have K3 := Lib.hid (K2.out.trans hk3); clear hk3; have HE3 := Lib.hid (HE.out.keep K3.out); have HG3 := Lib.hid (HG.out.keep K3.out); have HM3 := Lib.hid (HM.out.keep K3.out)) | (go_at_call 12; (with_reducible refine (c_answers _ HE3.out HG3.out HM3.out).mono ?_); rintro e w4 ⟨rfl, hk4⟩; have K4 := Lib.hid (K3.out.trans hk4); clear hk4))
        go_ret
        exact ⟨rfl, K4.out⟩
      · have z1 : (((blk j s).size : Nat) : Int) < 65536 := by omega
        have hx2 : toksV (blk j s) = .error (xi + j, xe) := by rw [blk_toks j s (by omega), HX.out]; rfl
        have HX2 := Lib.hid hx2
        have hp := toks_pos HX.out
        have hne := toks_err HX.out
        simp only at hp hne
        have i1 : IntKind.i64.wrap (xi + (j : Int)) = xi + (j : Int) := by rw [IntKind.wrap_i64]; omega
        have q1 : (xe == 0) = false := beq_eq_false_iff_ne.2 hne
        have q2 : (xe != 0) = true := by simp [hne]
        have i2 : -100 ≤ xi := by omega
        have i3 : xi ≤ 140737488351232 := by omega
        clear hx2 hbig hp hne
        go_wp2_with (first | (go_at_call 12; (with_reducible refine (c_answers _ (HE.out.keep K2.out) (HG.out.keep K2.out) (HM.out.keep K2.out)).mono ?_); rintro e w3 ⟨rfl, hk3⟩; have K3 := Lib.hid (K2.out.trans hk3); clear hk3; have HE3 := Lib.hid (HE.out.keep K3.out); have HG3 := Lib.hid (HG.out.keep K3.out); have HM3 := Lib.hid (HM.out.keep K3.out)) | (go_at_call 10; (with_reducible refine (c_tokE (blk j s) (xi + (j : Int)) xe _ HX2.out HE3.out HG3.out HM3.out).mono ?_); rintro e w4 ⟨rfl, hk4⟩; have K4 := Lib.hid (K3.out.trans hk4); clear hk4))
        have HKW := Lib.hid K4.out
        go_loopw [14] (fun i wq => i = .int .i64 0 ∧ w4 = wq) (fun i _ => 0)
        case atStart => exact ⟨rfl, rfl⟩
        case round =>
          obtain ⟨rfl, rfl⟩ := hrel
          go_wp2_with fail
          go_ret
          exact ⟨rfl, HKW.out⟩
end Go.Proofs.YtjpmgloofcgfnaaDoor
