/- first: the number that bytes begin with. Condition: the bytes lie in memory. -/
import Derived.Test.YtlhiaompcgdmfaaD0
import Derived.Test.YtlhiaompcgdmfaaW4
import Derived.Test.YtlhiaompcgdmfaaS0
import Derived.Laws.BitsAllLaws
import Derived.IntWalk
namespace Go.Proofs.Ytlhiaompcgdmfaa
open Go.RowKit
set_option linter.unusedVariables false
set_option linter.unusedSimpArgs false
theorem not_all : (List.range 256).all (fun k => decide (bits BinOp.andNot IntKind.u8 (k : Int) 128 = ((k % 128 : Nat) : Int))) = true := by kernel_rfl
theorem not_128 {x : Nat} (h : x < 256) : bits BinOp.andNot IntKind.u8 (x : Int) 128 = ((x % 128 : Nat) : Int) := of_decide_eq_true (List.all_eq_true.1 not_all x (by simpa using h))
theorem pow_is (k : Nat) : (2 : Int) ^ (7 * k) = ((128 ^ k : Nat) : Int) := by
  rw [Int.pow_mul]
  simp
/-- Bits that lie above a number are put to it. -/
theorem or_val {n k x : Nat} {y q : Int} (hn : n < 128 ^ k) (hk : k ≤ 9) (hx : x < 256) (h9 : k = 9 → x % 128 ≤ 1) (hy : y = (x : Int)) (hq : q = ((128 ^ k : Nat) : Int)) :
    bits BinOp.or IntKind.u64 (n : Int) (IntKind.u64.wrap (IntKind.u64.wrap (bits BinOp.andNot IntKind.u8 y 128) * q)) = ((n + x % 128 * 128 ^ k : Nat) : Int) := by
  subst hy
  subst hq
  have hf := firI_fits hn hk (show x % 128 < 128 by omega) h9
  have h1 : IntKind.u64.wrap ((x % 128 : Nat) : Int) = ((x % 128 : Nat) : Int) := IntWalk.u64_in _ (by omega)
  have hm : ((x % 128 : Nat) : Int) * ((128 ^ k : Nat) : Int) = ((x % 128 * 128 ^ k : Nat) : Int) := by simp
  rw [not_128 hx, h1, hm, IntWalk.u64_in _ (by omega), u64_or _ _ (by omega) (by omega) (by omega) (by omega)]
  have e1 : ((n : Int)).toNat = n := by omega
  have e2 : (((x % 128 * 128 ^ k : Nat) : Int)).toNat = x % 128 * 128 ^ k := by omega
  have e3 : x % 128 * 128 ^ k = (x % 128) <<< (7 * k) := by rw [Nat.shiftLeft_eq, Nat.pow_mul]
  rw [e1, e2, e3, Nat.or_comm, ← Nat.shiftLeft_add_eq_or_of_lt (by rw [Nat.pow_mul]; exact hn), Nat.add_comm]
theorem ret2 {a b c d : Int} (h1 : a = c) (h2 : b = d) : Ending.returned (.tuple #[.int .u64 a, .int .i64 b]) = Ending.returned (.tuple #[.int .u64 c, .int .i64 d]) := by rw [h1, h2]
set_option maxHeartbeats 1600000 in
set_option maxRecDepth 100000 in
theorem c_first (l : List UInt8) (v : Value) (w : World) (hl : BL w A0 l v) (hb : l.length ≤ 1048576) :
    Calls Try.prog 47 #[v] w fun e w' => e = .returned (.tuple #[.int .u64 ((firstR l).1 : Int), .int .i64 ((firstR l).2 : Int)]) ∧ Kp w w' := by
  obtain ⟨a, c, C, rfl, _, _, hC, ht, hx⟩ := hl
  have hcap : l.length ≤ 140737488351232 := by omega
  have HB := Lib.hid hb
  have HT := Lib.hid ht
  have HX := Lib.hid hx
  clear ht hx hC hb
  go_enter Try.func47, Try.ntmps47
  go_wp2_with fail
  go_loopw [2, 8] (fun m i wr => ∃ (k n : Nat), k ≤ l.length ∧ i = .int .i64 (k : Int) ∧ m = .int .u64 (n : Int) ∧ FirI l k n ∧ Kp w wr) (fun _ i _ => l.length - (intOf i).toNat)
  case atStart => exact ⟨0, 0, by omega, rfl, rfl, firI_start l, Kp.refl w⟩
  case round =>
    obtain ⟨k, n, hk, rfl, rfl, hI, hkp⟩ := hrel
    have HI := Lib.hid hI
    have HK := Lib.hid hkp
    have hk9 : k ≤ 9 := hI.2.2
    clear hI hkp
    by_cases hlt : k < l.length
    · obtain ⟨x, hxk⟩ : ∃ x, l[k] = x := ⟨_, rfl⟩
      have hxk2 : l[k]? = some x := by rw [List.getElem?_eq_getElem hlt, hxk]
      obtain ⟨b, q, rfl, hr⟩ := (HT.out.keep HK.out).at (by omega)
      have c0 := hr k hlt 0 (.int .u8 (x.toNat : Int)) (by rw [HX.out k x hxk2]; rfl)
      simp only [Nat.add_zero, Nat.mul_one] at c0
      have i0 := run_index_tab 37 5 Try.underlying37 1 (by kernel_rfl) b q l.length c k hlt
      simp only [Nat.mul_one] at i0
      have hx8 : x.toNat ≤ 255 := by have := x.toNat_lt; omega
      have HXK := Lib.hid hxk
      clear hr hxk hxk2
      go_wp2_with fail
      · go_ret2
        refine ⟨?_, HK.out⟩
        rw [firI_bad HI.out hlt (by rw [HXK.out]; omega)]
        rfl
      · go_ret2
        refine ⟨?_, HK.out⟩
        rw [firI_bad HI.out hlt (by rw [HXK.out]; omega)]
        rfl
      · go_ret2
        refine ⟨?_, HK.out⟩
        rw [firI_last HI.out hlt (by rw [HXK.out]; omega) (by rw [HXK.out]; omega), HXK.out]
        have hv := or_val (n := n) (k := k) (x := x.toNat) (y := (x.toNat : Int)) (q := 9223372036854775808) HI.out.2.1 (by omega) (by omega) (by intro _; omega) (by omega) (by rw [show k = 9 by omega]; rfl)
        rw [Nat.mod_eq_of_lt (by omega)] at hv
        exact ret2 hv (by omega)
      · refine ⟨⟨k + 1, n + x.toNat % 128 * 128 ^ k, by omega, by go_num, ?_, by have := firI_next HI.out hlt (by rw [HXK.out]; omega) (by rw [HXK.out]; omega); rwa [HXK.out] at this, HK.out⟩, by simp [intOf]; omega⟩
        rw [or_val HI.out.2.1 (by omega) (by omega) (by intro _; omega) rfl (pow_is _)]
      · go_ret2
        refine ⟨?_, HK.out⟩
        rw [firI_bad HI.out hlt (by rw [HXK.out]; omega)]
        rfl
      · go_ret2
        refine ⟨?_, HK.out⟩
        rw [firI_last HI.out hlt (by rw [HXK.out]; omega) (by rw [HXK.out]; omega), HXK.out]
        have hv := or_val (n := n) (k := k) (x := x.toNat) (y := 0) (q := 2 ^ (7 * k)) HI.out.2.1 (by omega) (by omega) (by intro _; omega) (by omega) (by exact pow_is _)
        rw [Nat.mod_eq_of_lt (by omega)] at hv
        exact ret2 hv (by omega)
      · go_ret2
        refine ⟨?_, HK.out⟩
        rw [firI_last HI.out hlt (by rw [HXK.out]; omega) (by rw [HXK.out]; omega), HXK.out]
        have hv := or_val (n := n) (k := k) (x := x.toNat) (y := (x.toNat : Int)) (q := 2 ^ (7 * k)) HI.out.2.1 (by omega) (by omega) (by intro _; omega) (by omega) (by exact pow_is _)
        rw [Nat.mod_eq_of_lt (by omega)] at hv
        exact ret2 hv (by omega)
    · go_wp2_with fail
      go_ret2
      refine ⟨?_, HK.out⟩
      rw [firI_none HI.out (by omega)]
      rfl
end Go.Proofs.Ytlhiaompcgdmfaa
