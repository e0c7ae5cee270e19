/- The contract of Digits of the reference. Condition: the number is one of 64 bits. -/
import Derived.Test.YtjpmgloofcgfnaaDoorB9
import Derived.Lib.SmallJoins
import Derived.Lib.ItoaNum
import Derived.Laws.IdiomStrings
namespace Go.Proofs.YtjpmgloofcgfnaaDoor
open Go.RowKit
set_option linter.unusedVariables false
set_option linter.unusedSimpArgs false

/-- A digit's letter. -/
def dgt (c : Nat) : UInt8 := UInt8.ofNat (48 + c)
theorem conv1 (wr : World) (c : Nat) (hc : c < 10) (x : Int) (hx : x = ((48 + c : Nat) : Int)) :
    (convert 59 9 (.slice (some ⟨wr.heap.size, 0, none⟩) 1 1)).run Tryd.prog (wr.alloc (.cells #[.int .u8 x] 5)) = .ok (.string ⟨#[dgt c]⟩) (wr.alloc (.cells #[.int .u8 x] 5)) := by
  subst hx
  exact run_convert_bytes_back (P := Tryd.prog) (wr.alloc (.cells #[.int .u8 ((48 + c : Nat) : Int)] 5)) 59 9 5 ⟨wr.heap.size, 0, none⟩ 1 [dgt c] Tryd.underlying59 Tryd.underlying5 Tryd.underlying9 (fun j hj => by
    have hj0 : j = 0 := by simpa using hj
    subst hj0
    have e : (dgt c).toNat = 48 + c := by unfold dgt; rw [UInt8.toNat_ofNat']; omega
    have e2 : ([dgt c])[0] = dgt c := rfl
    rw [e2, e]
    simp [go_sem])
theorem app1 (c : UInt8) (l : List UInt8) : (ByteArray.mk #[c]) ++ (ByteArray.mk l.toArray) = ByteArray.mk (c :: l).toArray := by
  apply ByteArray.ext
  simp [ByteArray.data_append]
theorem dd_big {v : Nat} (h : 10 ≤ v) : Lib.decDigits v = Lib.decDigits (v / 10) ++ [dgt (v % 10)] := by
  rw [Lib.decDigits, dif_neg (by omega)]; rfl
theorem dd_small {v : Nat} (h : v < 10) : Lib.decDigits v = [dgt v] := by
  rw [Lib.decDigits, dif_pos h]; rfl
theorem nd20 {u : Nat} (hu : u < 18446744073709551616) : Lib.nDigits u ≤ 20 := by
  by_cases h : 1 ≤ u
  · have := Lib.numDigits_eq u h hu; split at this <;> omega
  · rw [Lib.nDigits_small (by omega)]; omega
theorem ret_str {a b : ByteArray} (h : a = b) : Ending.returned (.string a) = .returned (.string b) := by rw [h]
set_option maxHeartbeats 1600000 in
set_option maxRecDepth 100000 in
theorem c_Digits (u : Nat) (neg : Bool) (w : World) (hu : u < 18446744073709551616) :
    Calls Tryd.prog 21 #[.agg #[.bool neg, .int .u64 u]] w fun e w' => e = .returned (.string ⟨(if neg then 45 :: Lib.decDigits u else Lib.decDigits u).toArray⟩) ∧ Kp w w' := by
  have hn := nd20 hu
  cases neg with
  | true =>
    go_enter Tryd.func21, Tryd.ntmps21
    go_wp2_with fail
    go_loopw [3, 4] (fun n s wr => ∃ (v : Nat) (acc : List UInt8), v ≤ u ∧ n = .int .u64 v ∧ s = .string ⟨acc.toArray⟩ ∧ Hid (Lib.decDigits v ++ acc = Lib.decDigits u) ∧ Kp w wr ∧ wr.cell? ⟨w.heap.size, 0, none⟩ = some (.bool true)) (fun n _ _ => (intOf n).toNat)
    case atStart => exact ⟨u, [], by omega, rfl, rfl, by simp [Hid], (Kp.refl w).alloc _, by simp [go_sem]⟩
    case round =>
      obtain ⟨v, acc, hv, rfl, rfl, hd, hk, hc⟩ := hrel
      have hl : acc.length ≤ 20 := by
        have := congrArg List.length hd.out
        rw [List.length_append, Lib.decDigits_length, Lib.decDigits_length] at this
        omega
      have hlt : w.heap.size < wr.heap.size := by
        apply Classical.byContradiction
        intro hx
        have : wr.heap[w.heap.size]? = none := by simp; omega
        simp [World.cell?, this] at hc
      by_cases h10 : 10 ≤ v
      · have hcv := conv1 wr (v % 10) (by omega) (48 + (v : Int) % 10) (by omega)
        go_wp2_with fail
        go_roundw
        case rel => exact ⟨v / 10, dgt (v % 10) :: acc, by omega, rfl, by rw [app1], by rw [dd_big h10] at hd; simpa [Hid] using hd, hk.alloc _, by simpa [go_sem, hlt] using hc⟩
        case measure => simp [intOf]; omega
      · have hcv := conv1 wr v (by omega) (48 + (v : Int)) (by omega)
        have hd2 := Lib.hid (show dgt v :: acc = Lib.decDigits u by rw [dd_small (by omega)] at hd; simpa [Hid] using hd)
        clear hd
        go_wp2_with fail
        go_ret
        exact ⟨ret_str (by rw [app1, app1, hd2.out]), hk.alloc _⟩
  | false =>
    go_enter Tryd.func21, Tryd.ntmps21
    go_wp2_with fail
    go_loopw [3, 4] (fun n s wr => ∃ (v : Nat) (acc : List UInt8), v ≤ u ∧ n = .int .u64 v ∧ s = .string ⟨acc.toArray⟩ ∧ Hid (Lib.decDigits v ++ acc = Lib.decDigits u) ∧ Kp w wr ∧ wr.cell? ⟨w.heap.size, 0, none⟩ = some (.bool false)) (fun n _ _ => (intOf n).toNat)
    case atStart => exact ⟨u, [], by omega, rfl, rfl, by simp [Hid], (Kp.refl w).alloc _, by simp [go_sem]⟩
    case round =>
      obtain ⟨v, acc, hv, rfl, rfl, hd, hk, hc⟩ := hrel
      have hl : acc.length ≤ 20 := by
        have := congrArg List.length hd.out
        rw [List.length_append, Lib.decDigits_length, Lib.decDigits_length] at this
        omega
      have hlt : w.heap.size < wr.heap.size := by
        apply Classical.byContradiction
        intro hx
        have : wr.heap[w.heap.size]? = none := by simp; omega
        simp [World.cell?, this] at hc
      by_cases h10 : 10 ≤ v
      · have hcv := conv1 wr (v % 10) (by omega) (48 + (v : Int) % 10) (by omega)
        go_wp2_with fail
        go_roundw
        case rel => exact ⟨v / 10, dgt (v % 10) :: acc, by omega, rfl, by rw [app1], by rw [dd_big h10] at hd; simpa [Hid] using hd, hk.alloc _, by simpa [go_sem, hlt] using hc⟩
        case measure => simp [intOf]; omega
      · have hcv := conv1 wr v (by omega) (48 + (v : Int)) (by omega)
        have hd2 := Lib.hid (show dgt v :: acc = Lib.decDigits u by rw [dd_small (by omega)] at hd; simpa [Hid] using hd)
        clear hd
        go_wp2_with fail
        go_ret
        exact ⟨ret_str (by rw [app1, hd2.out]), hk.alloc _⟩

end Go.Proofs.YtjpmgloofcgfnaaDoor
