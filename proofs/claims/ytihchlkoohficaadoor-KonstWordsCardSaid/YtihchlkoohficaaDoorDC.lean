/- What FormatUint at base 10 and Digits of the reference answer, in the translation of KonstWords. Conditions: those each theorem names. -/
import Derived.Test.YtihchlkoohficaaDoorDB
import Derived.Test.YtihchlkoohficaaDoorShelf
import Derived.Lib.SmallJoins
import Derived.Shelf.Strconv.Itoa3
namespace Go.Proofs.YtihchlkoohficaaDoor
open Go.RowKit Go.Sort Plain
set_option linter.unusedVariables false

/-- A digit's letter. -/
def dgt (c : Nat) : UInt8 := UInt8.ofNat (48 + c)
theorem conv1 (wr : World) (c : Nat) (hc : c < 10) (x : Int) (hx : x = ((48 + c : Nat) : Int)) :
    (convert 51 9 (.slice (some ⟨wr.heap.size, 0, none⟩) 1 1)).run Tryd.prog (wr.alloc (.cells #[.int .u8 x] 5)) = .ok (.string ⟨#[dgt c]⟩) (wr.alloc (.cells #[.int .u8 x] 5)) := by
  subst hx
  exact run_convert_bytes_back (P := Tryd.prog) (wr.alloc (.cells #[.int .u8 ((48 + c : Nat) : Int)] 5)) 51 9 5 ⟨wr.heap.size, 0, none⟩ 1 [dgt c] Tryd.underlying51 Tryd.underlying5 Tryd.underlying9 (fun j hj => by
    have hj0 : j = 0 := by simpa using hj
    subst hj0
    have e : (dgt c).toNat = 48 + c := by unfold dgt; rw [UInt8.toNat_ofNat']; omega
    have e2 : ([dgt c])[0] = dgt c := rfl
    rw [e2, e]
    simp [go_sem])
theorem app1 (c : UInt8) (l : List UInt8) : (ByteArray.mk #[c]) ++ (ByteArray.mk l.toArray) = ByteArray.mk (c :: l).toArray := by
  apply ByteArray.ext
  simp [ByteArray.data_append]
theorem dd_big {v : Nat} (h : 10 ≤ v) : Lib.decDigits v = Lib.decDigits (v / 10) ++ [dgt (v % 10)] := by
  rw [Lib.decDigits, dif_neg (by omega)]; rfl
theorem dd_small {v : Nat} (h : v < 10) : Lib.decDigits v = [dgt v] := by
  rw [Lib.decDigits, dif_pos h]; rfl
theorem nd20 {u : Nat} (hu : u < 18446744073709551616) : Lib.nDigits u ≤ 20 := by
  by_cases h : 1 ≤ u
  · have := Lib.numDigits_eq u h hu; split at this <;> omega
  · rw [Lib.nDigits_small (by omega)]; omega
theorem ret_str {a b : ByteArray} (h : a = b) : Ending.returned (.string a) = .returned (.string b) := by rw [h]
theorem c_Digits (u : Nat) (neg : Bool) (w : World) (hu : u < 18446744073709551616) :
    Calls Tryd.prog 9 #[.agg #[.bool neg, .int .u64 u]] w fun e w' => e = .returned (.string ⟨(if neg then 45 :: Lib.decDigits u else Lib.decDigits u).toArray⟩) ∧ Kp w w' := by
  have hn := nd20 hu
  cases neg with
  | true =>
    go_enter Tryd.func9, Tryd.ntmps9
    go_wp2_with fail
    go_loopw [3, 4] (fun n s wr => ∃ (v : Nat) (acc : List UInt8), v ≤ u ∧ n = .int .u64 v ∧ s = .string ⟨acc.toArray⟩ ∧ Hid (Lib.decDigits v ++ acc = Lib.decDigits u) ∧ Kp w wr ∧ wr.cell? ⟨w.heap.size, 0, none⟩ = some (.bool true)) (fun n _ _ => (intOf n).toNat)
    case atStart => exact ⟨u, [], by omega, rfl, rfl, by simp [Hid], (Kp.refl w).alloc _ _, by simp [go_sem]⟩
    case round =>
      obtain ⟨v, acc, hv, rfl, rfl, hd, hk, hc⟩ := hrel
      have hl : acc.length ≤ 20 := by
        have := congrArg List.length hd.out
        rw [List.length_append, Lib.decDigits_length, Lib.decDigits_length] at this
        omega
      have hlt : w.heap.size < wr.heap.size := by
        apply Classical.byContradiction
        intro hx
        have : wr.heap[w.heap.size]? = none := by simp; omega
        simp [World.cell?, this] at hc
      by_cases h10 : 10 ≤ v
      · have hcv := conv1 wr (v % 10) (by omega) (48 + (v : Int) % 10) (by omega)
        go_wp2_with fail
        go_roundw
        case rel => exact ⟨v / 10, dgt (v % 10) :: acc, by omega, rfl, by rw [app1], by rw [dd_big h10] at hd; simpa [Hid] using hd, hk.alloc _ _, by simpa [go_sem, hlt] using hc⟩
        case measure => simp [intOf]; omega
      · have hcv := conv1 wr v (by omega) (48 + (v : Int)) (by omega)
        have hd2 := Lib.hid (show dgt v :: acc = Lib.decDigits u by rw [dd_small (by omega)] at hd; simpa [Hid] using hd)
        clear hd
        go_wp2_with fail
        go_ret
        exact ⟨ret_str (by rw [app1, app1, hd2.out]), hk.alloc _ _⟩
  | false =>
    go_enter Tryd.func9, Tryd.ntmps9
    go_wp2_with fail
    go_loopw [3, 4] (fun n s wr => ∃ (v : Nat) (acc : List UInt8), v ≤ u ∧ n = .int .u64 v ∧ s = .string ⟨acc.toArray⟩ ∧ Hid (Lib.decDigits v ++ acc = Lib.decDigits u) ∧ Kp w wr ∧ wr.cell? ⟨w.heap.size, 0, none⟩ = some (.bool false)) (fun n _ _ => (intOf n).toNat)
    case atStart => exact ⟨u, [], by omega, rfl, rfl, by simp [Hid], (Kp.refl w).alloc _ _, by simp [go_sem]⟩
    case round =>
      obtain ⟨v, acc, hv, rfl, rfl, hd, hk, hc⟩ := hrel
      have hl : acc.length ≤ 20 := by
        have := congrArg List.length hd.out
        rw [List.length_append, Lib.decDigits_length, Lib.decDigits_length] at this
        omega
      have hlt : w.heap.size < wr.heap.size := by
        apply Classical.byContradiction
        intro hx
        have : wr.heap[w.heap.size]? = none := by simp; omega
        simp [World.cell?, this] at hc
      by_cases h10 : 10 ≤ v
      · have hcv := conv1 wr (v % 10) (by omega) (48 + (v : Int) % 10) (by omega)
        go_wp2_with fail
        go_roundw
        case rel => exact ⟨v / 10, dgt (v % 10) :: acc, by omega, rfl, by rw [app1], by rw [dd_big h10] at hd; simpa [Hid] using hd, hk.alloc _ _, by simpa [go_sem, hlt] using hc⟩
        case measure => simp [intOf]; omega
      · have hcv := conv1 wr v (by omega) (48 + (v : Int)) (by omega)
        have hd2 := Lib.hid (show dgt v :: acc = Lib.decDigits u by rw [dd_small (by omega)] at hd; simpa [Hid] using hd)
        clear hd
        go_wp2_with fail
        go_ret
        exact ⟨ret_str (by rw [app1, hd2.out]), hk.alloc _ _⟩

theorem below_grow (w : World) (k : Nat) (os : Array Obj) : Below w.heap.size w (grow (w.drewN k) os) := by
  refine ⟨rfl, rfl, rfl, ?_, fun i hi => ?_⟩
  · show w.heap.size ≤ (w.heap ++ os).size
    simp
  · show (w.heap ++ os)[i]? = w.heap[i]?
    rw [Array.getElem?_append, if_pos hi]
theorem holds_zero0 (w : World) (T : TypeId) (nd : Nat) (hs : nd ≤ 24) : Holds (fun (b : UInt8) => Value.int .u8 (b.toNat : Int)) (w.alloc (.cells Lib.zeros24 T)) w.heap.size 0 (Array.replicate nd (0 : UInt8)) := fun j hj => by
  have hj' : j < nd := by simpa using hj
  refine ⟨?_, World.frozen?_alloc_new _ _ _ _⟩
  rw [World.cell?_alloc_new, Lib.zeros24_at _ (by omega), getElem!_pos _ j hj]
  simp
theorem fin0 (w : World) (o : Obj) (dk : Array UInt8) (k : Nat) : ∃ os, (putRow (fun (b : UInt8) => Value.int .u8 (b.toNat : Int)) (w.alloc o) w.heap.size 0 dk).drewN k = grow (w.drewN k) os := by
  rw [alloc_eq_grow]
  obtain ⟨os', _, e⟩ := putRow_grow_new (fun (b : UInt8) => Value.int .u8 (b.toNat : Int)) w #[o] w.heap.size 0 dk (Nat.le_refl _)
  exact ⟨os', by rw [e]; rfl⟩
set_option maxHeartbeats 1600000 in
set_option maxRecDepth 100000 in
/-- FormatUint of the library's inner package, at base 10: the digits of every number of 64 bits. -/
theorem c_FUi (u : Nat) (w : World) (hu64 : u < 18446744073709551616) (htab : Lib.TabIs Tryd.prog w "internal/strconv.uint64pow10" .u64 Lib.pow10Tab) :
    Calls Tryd.prog 36 #[.int .u64 u, .int .i64 10] w fun e w' => e = .returned (.string ⟨(Lib.decDigits u).toArray⟩) ∧ Below w.heap.size w w' := by
  by_cases hs : u < 100
  · go_enter Tryd.func36, Tryd.ntmps36
    go_wp2_with (go_at_call 43; refine (Tryd.internal_strconv_small u hs _).mono ?_; rintro e w' ⟨rfl, rfl⟩)
    go_ret
    exact ⟨rfl, Below.refl _ _⟩
  · have hu1 : 1 ≤ u := by omega
    have hnd20 := nd20 hu64
    have hal : Tryd.prog.arrayLen 72 = 24 := by simp [Program.arrayLen, Tryd.underlying72]
    have hsl1 : ∀ W, (Instr.sliceAt 72 (.pointer (some ⟨w.heap.size, 0, none⟩)) none (some (.int .i64 (Lib.nDigits u : Int))) none).run Tryd.prog W = .ok (.slice (some ⟨w.heap.size, 0, none⟩) (Lib.nDigits u) 24) W := fun W => by
      rw [run_sliceAt_array_h W 72 ⟨w.heap.size, 0, none⟩ (by simp [Program.arrayLen, Program.elem, Tryd.underlying72]) .i64 (Lib.nDigits u : Int) (by omega) (by rw [hal]; omega)]
      go_simp
    have hH0 := holds_zero0 w 72 (Lib.nDigits u) (by omega)
    have hfmt := Tryd.internal_strconv_formatBase10 w.heap.size 0 24 u (Array.replicate (Lib.nDigits u) 0) (w.alloc (.cells Lib.zeros24 72)) hH0 (by rw [Array.size_replicate]; exact Lib.lt_pow_nDigits u) hu64 (by rw [Array.size_replicate]; omega)
    rw [Array.size_replicate] at hfmt
    have HH0 := Lib.hid hH0
    have HT := Lib.hid htab
    clear hH0 hal htab
    go_enter Tryd.func36, Tryd.ntmps36
    go_wp2_with (go_at_call 44; refine (Tryd.internal_strconv_numDigits u hu1 hu64 _ (Lib.tabIs_alloc HT.out _)).mono ?_; rintro e w' ⟨rfl, rfl⟩)
    go_at_call 45
    refine hfmt.mono ?_
    rintro e w' ⟨rfl, k, v', dk, rfl, hF⟩
    have hcv : (convert 51 9 (.slice (some ⟨w.heap.size, 0, none⟩) (Lib.nDigits u) 24)).run Tryd.prog ((putRow (fun (b : UInt8) => Value.int .u8 (b.toNat : Int)) (w.alloc (.cells Lib.zeros24 72)) w.heap.size 0 dk).drewN k) = .ok (.string ⟨(Lib.decDigits u).toArray⟩) ((putRow (fun (b : UInt8) => Value.int .u8 (b.toNat : Int)) (w.alloc (.cells Lib.zeros24 72)) w.heap.size 0 dk).drewN k) := by
      have h := run_convert_bytes_back (P := Tryd.prog) ((putRow (fun (b : UInt8) => Value.int .u8 (b.toNat : Int)) (w.alloc (.cells Lib.zeros24 72)) w.heap.size 0 dk).drewN k) 51 9 5 ⟨w.heap.size, 0, none⟩ 24 (Lib.decDigits u) Tryd.underlying51 Tryd.underlying5 Tryd.underlying9 (fun j hj => by
        rw [Lib.row_is_numeral hF j hj, Lib.add_plain, World.cell?_drewN]
        exact cell?_putRow (fun (b : UInt8) => Value.int .u8 (b.toNat : Int)) _ w.heap.size 0 _ dk HH0.out (by rw [hF.size, Array.size_replicate]) j (by rw [hF.size]; rw [Lib.decDigits_length] at hj; exact hj))
      rw [Lib.decDigits_length] at h
      exact h
    go_wp2_with fail
    go_ret
    obtain ⟨os, eo⟩ := fin0 w (.cells Lib.zeros24 72) dk k
    exact ⟨rfl, by rw [eo]; exact below_grow w k os⟩
/-- FormatUint of strconv. -/
theorem c_FU (u : Nat) (w : World) (hu64 : u < 18446744073709551616) (htab : Lib.TabIs Tryd.prog w "internal/strconv.uint64pow10" .u64 Lib.pow10Tab) :
    Calls Tryd.prog 29 #[.int .u64 u, .int .i64 10] w fun e w' => e = .returned (.string ⟨(Lib.decDigits u).toArray⟩) ∧ Below w.heap.size w w' := by
  have HT := Lib.hid htab
  clear htab
  go_enter Tryd.func29, Tryd.ntmps29
  go_wp2_with (go_at_call 36; with_reducible refine (c_FUi u _ hu64 HT.out).mono ?_; rintro e w' ⟨rfl, hb⟩)
  go_ret
  exact ⟨rfl, hb⟩
end Go.Proofs.YtihchlkoohficaaDoor
