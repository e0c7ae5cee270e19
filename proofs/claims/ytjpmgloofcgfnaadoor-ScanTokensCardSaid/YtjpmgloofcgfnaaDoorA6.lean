/- The library's ParseUint in tens and in sixteens, of digits alone; its error, behind the library's own contracts. Condition: the text is not empty and has only digits. -/
import Derived.Test.YtjpmgloofcgfnaaDoorA5
import Derived.Test.YtjpmgloofcgfnaaDoorShelf
import Derived.Lib.ConvBytes
import Derived.Laws.Closers25
import Derived.Laws.Closers25b
import Derived.Laws.Strings3
import Derived.BigCall
import Derived.BigGuard
namespace Go.Proofs.YtjpmgloofcgfnaaDoor
open Go.RowKit
set_option linter.unusedVariables false
set_option linter.unusedSimpArgs false

theorem kp_bytes (w : World) (e : TypeId) (s : ByteArray) : Kp w (Lib.bytesWorld w e s) := by
  unfold Lib.bytesWorld
  have h := ((Kp.refl w).drew).alloc (.cells (Lib.bytesCells w e s) e)
  refine ⟨h.os, h.tape, h.output, ?_, fun k hk => ?_⟩
  · have := h.sz
    simp [World.freeze] at this ⊢
    try omega
  · rw [← h.blk hk]
    have hne : k ≠ w.heap.size := by omega
    simp [World.freeze, Array.getElem?_modify]
    intro e; omega
/-- What is read: the number, or the greatest and the error of what is too large. -/
def puT : Option Nat → Value
  | some n => .tuple #[.int .u64 n, .nilIface]
  | none => .tuple #[.int .u64 18446744073709551615, .iface 72 (.int .i64 1)]
theorem low_up {c : Nat} (h : 65 ≤ c ∧ c ≤ 70) : bits .or .u8 c 32 = ((c + 32 : Nat) : Int) := by
  have : c = 65 ∨ c = 66 ∨ c = 67 ∨ c = 68 ∨ c = 69 ∨ c = 70 := by omega
  rcases this with rfl | rfl | rfl | rfl | rfl | rfl <;> decide
theorem low_lo {c : Nat} (h : 97 ≤ c ∧ c ≤ 102) : bits .or .u8 c 32 = (c : Int) := by
  have : c = 97 ∨ c = 98 ∨ c = 99 ∨ c = 100 ∨ c = 101 ∨ c = 102 := by omega
  rcases this with rfl | rfl | rfl | rfl | rfl | rfl <;> decide
set_option maxHeartbeats 32000000 in
set_option maxRecDepth 100000 in
theorem c_pu10 (t : ByteArray) (w : World) (hne : t.size ≠ 0) (hmax : t.size ≤ 140737488351232) (hall : t.data.toList.all (dgB 10) = true) (r : Option Nat) (hr : pu 10 0 t.data.toList = r) :
    Calls Tryd.prog 44 #[.string t, .int .i64 10, .int .i64 64] w fun e w' => e = .returned (puT r) ∧ Kp w w' := by
  have hemp := (em_no hne).2
  have hcv := Lib.run_convert_string_bytes (P := Tryd.prog) w 9 59 5 t (u := .string) Tryd.underlying9 Tryd.underlying59 Tryd.underlying5
  have hB : ∀ j, j < t.size → (Lib.bytesWorld w 5 t).cell? ⟨w.heap.size, j, none⟩ = some (.int .u8 (t.data.toList.getD j 0).toNat) := fun j hj => Lib.bytesWorld_cell w 5 t j hj
  have hk0 := kp_bytes w 5 t
  obtain ⟨W1, hW1⟩ : ∃ W1, W1 = Lib.bytesWorld w 5 t := ⟨_, rfl⟩
  rw [← hW1] at hcv hB hk0
  have HK := Lib.hid hk0
  clear hW1 hk0
  have HB := Lib.hid hB
  have HD := Lib.hid (fun (k : Nat) (h : k < t.size) => drop_at h)
  have HDE := Lib.hid (drop_end (s := t) (Nat.le_refl _))
  obtain ⟨l, hl⟩ : ∃ l, l = t.data.toList := ⟨_, rfl⟩
  have hln : l.length = t.size := by rw [hl, size_list]
  have HLN := Lib.hid hln
  rw [← hl] at HB HD HDE hall hr
  have HALL := Lib.hid hall
  have HR0 := Lib.hid hr
  clear hl hB hall hr hln
  have hmv : IntKind.u64.wrap (IntKind.u64.wrap 18446744073709551616 - 1) = 18446744073709551615 := by
    rw [IntKind.wrap_u64, IntKind.wrap_u64]
    decide
  go_enter Tryd.func44, Tryd.ntmps44
  go_wp2
  go_loop [12, 13, 101] (fun vu vn vi => ∃ (k acc : Nat) (a : Int), k ≤ t.size ∧ vu = .bool false ∧ vn = .int .u64 a ∧ vi = .int .i64 k ∧ Hid (a = (acc : Int) ∧ pu 10 acc (l.drop k) = r) ∧ (0 ≤ a ∧ a < 18446744073709551616)) (fun _ _ vi => t.size - (intOf vi).toNat)
  case atStart => exact ⟨0, 0, 0, by omega, rfl, rfl, rfl, Lib.hid ⟨rfl, HR0.out⟩, by omega⟩
  case round =>
    obtain ⟨k, acc, a, hk, rfl, rfl, rfl, HA, ha0, ha1⟩ := hrel
    by_cases hlt : k < t.size
    · have hcc := HB.out k hlt
      have hget : l.getD k 0 = t[k]'hlt := by
        have h1 := HD.out k hlt
        have h2 : k < l.length := by rw [HLN.out]; exact hlt
        rw [List.drop_eq_getElem_cons h2] at h1
        injection h1 with h1 _
        simp [List.getD, List.getElem?_eq_getElem h2, h1]
      rw [hget] at hcc
      obtain ⟨c, hc⟩ : ∃ c, (t[k]'hlt).toNat = c := ⟨_, rfl⟩
      rw [hc] at hcc
      have hdg : isDg 10 c = true := by
        have h2 : (t[k]'hlt) ∈ l := by
          have h3 : k < l.length := by rw [HLN.out]; exact hlt
          have h1 := HD.out k hlt
          rw [List.drop_eq_getElem_cons h3] at h1
          injection h1 with h1 _
          rw [← h1]; exact List.getElem_mem _
        have := List.all_eq_true.1 HALL.out _ h2
        unfold dgB at this
        rwa [hc] at this
      clear hget
      have hq : (48 ≤ c ∧ c ≤ 57) := by
        unfold isDg at hdg
        simp at hdg
        omega
      clear hdg
      obtain ⟨hd0, hd1⟩ := hq
      have hd2 : (48 : Int) ≤ c := by omega
      have hd3 : (c : Int) ≤ 57 := by omega
      have HP := Lib.hid (fun acc => show pu 10 acc (l.drop k) = if 18446744073709551616 ≤ acc * 10 + (c - 48) then none else pu 10 (acc * 10 + (c - 48)) (l.drop (k + 1)) by rw [HD.out k hlt, pu, hc]; rw [show dgV c = (c - 48) by unfold dgV; split <;> (try split) <;> omega])
      by_cases hcut : 1844674407370955162 ≤ a
      · have HR : Hid (r = none) := Lib.hid (by rw [← HA.out.2, HP.out, if_pos (by have := HA.out.1; omega)])
        go_wp2_with (first | fail)
        go_ret2
        exact ⟨by rw [HR.out]; rfl, HK.out⟩
      · by_cases hov : 18446744073709551616 ≤ a * 10 + ((c : Int) - 48)
        · have HR : Hid (r = none) := Lib.hid (by rw [← HA.out.2, HP.out, if_pos (by have := HA.out.1; omega)])
          have icut : a < 1844674407370955162 := by omega
          have hwr : IntKind.u64.wrap (a * 10 + ((c : Int) - 48)) = a * 10 + ((c : Int) - 48) - 18446744073709551616 := by
            rw [IntKind.wrap_u64]
            omega
          clear hcut
          go_wp2_with (first | fail)
          go_ret2
          exact ⟨by rw [HR.out]; rfl, HK.out⟩
        · have HN : Hid (a * 10 + ((c : Int) - 48) = ((acc * 10 + (c - 48) : Nat) : Int) ∧ pu 10 (acc * 10 + (c - 48)) (l.drop (k + 1)) = r) := Lib.hid ⟨by have := HA.out.1; omega, by rw [← HA.out.2, HP.out, if_neg (by have := HA.out.1; omega)]⟩
          have icut : a < 1844674407370955162 := by omega
          have iov : a * 10 + ((c : Int) - 48) < 18446744073709551616 := by omega
          clear hcut hov
          go_wp2_with (first | fail)
          go_round
          case rel => exact ⟨k + 1, acc * 10 + (c - 48), a * 10 + ((c : Int) - 48), by omega, rfl, (by first | rfl | (congr 1; omega)), (by go_num), HN, by omega⟩
          case measure => simp [intOf]; omega

    · obtain rfl : k = t.size := by omega
      have HR : Hid (r = some acc) := Lib.hid (by rw [← HA.out.2, HDE.out]; rfl)
      obtain rfl := HA.out.1
      go_wp2
      go_ret2
      exact ⟨by rw [HR.out]; rfl, HK.out⟩
set_option maxHeartbeats 32000000 in
set_option maxRecDepth 100000 in
theorem c_pu16 (t : ByteArray) (w : World) (hne : t.size ≠ 0) (hmax : t.size ≤ 140737488351232) (hall : t.data.toList.all (dgB 16) = true) (r : Option Nat) (hr : pu 16 0 t.data.toList = r) :
    Calls Tryd.prog 44 #[.string t, .int .i64 16, .int .i64 64] w fun e w' => e = .returned (puT r) ∧ Kp w w' := by
  have hemp := (em_no hne).2
  have hcv := Lib.run_convert_string_bytes (P := Tryd.prog) w 9 59 5 t (u := .string) Tryd.underlying9 Tryd.underlying59 Tryd.underlying5
  have hB : ∀ j, j < t.size → (Lib.bytesWorld w 5 t).cell? ⟨w.heap.size, j, none⟩ = some (.int .u8 (t.data.toList.getD j 0).toNat) := fun j hj => Lib.bytesWorld_cell w 5 t j hj
  have hk0 := kp_bytes w 5 t
  obtain ⟨W1, hW1⟩ : ∃ W1, W1 = Lib.bytesWorld w 5 t := ⟨_, rfl⟩
  rw [← hW1] at hcv hB hk0
  have HK := Lib.hid hk0
  clear hW1 hk0
  have HB := Lib.hid hB
  have HD := Lib.hid (fun (k : Nat) (h : k < t.size) => drop_at h)
  have HDE := Lib.hid (drop_end (s := t) (Nat.le_refl _))
  obtain ⟨l, hl⟩ : ∃ l, l = t.data.toList := ⟨_, rfl⟩
  have hln : l.length = t.size := by rw [hl, size_list]
  have HLN := Lib.hid hln
  rw [← hl] at HB HD HDE hall hr
  have HALL := Lib.hid hall
  have HR0 := Lib.hid hr
  clear hl hB hall hr hln
  have hmv : IntKind.u64.wrap (IntKind.u64.wrap 18446744073709551616 - 1) = 18446744073709551615 := by
    rw [IntKind.wrap_u64, IntKind.wrap_u64]
    decide
  go_enter Tryd.func44, Tryd.ntmps44
  go_wp2
  go_loop [12, 13, 101] (fun vu vn vi => ∃ (k acc : Nat) (a : Int), k ≤ t.size ∧ vu = .bool false ∧ vn = .int .u64 a ∧ vi = .int .i64 k ∧ Hid (a = (acc : Int) ∧ pu 16 acc (l.drop k) = r) ∧ (0 ≤ a ∧ a < 18446744073709551616)) (fun _ _ vi => t.size - (intOf vi).toNat)
  case atStart => exact ⟨0, 0, 0, by omega, rfl, rfl, rfl, Lib.hid ⟨rfl, HR0.out⟩, by omega⟩
  case round =>
    obtain ⟨k, acc, a, hk, rfl, rfl, rfl, HA, ha0, ha1⟩ := hrel
    by_cases hlt : k < t.size
    · have hcc := HB.out k hlt
      have hget : l.getD k 0 = t[k]'hlt := by
        have h1 := HD.out k hlt
        have h2 : k < l.length := by rw [HLN.out]; exact hlt
        rw [List.drop_eq_getElem_cons h2] at h1
        injection h1 with h1 _
        simp [List.getD, List.getElem?_eq_getElem h2, h1]
      rw [hget] at hcc
      obtain ⟨c, hc⟩ : ∃ c, (t[k]'hlt).toNat = c := ⟨_, rfl⟩
      rw [hc] at hcc
      have hdg : isDg 16 c = true := by
        have h2 : (t[k]'hlt) ∈ l := by
          have h3 : k < l.length := by rw [HLN.out]; exact hlt
          have h1 := HD.out k hlt
          rw [List.drop_eq_getElem_cons h3] at h1
          injection h1 with h1 _
          rw [← h1]; exact List.getElem_mem _
        have := List.all_eq_true.1 HALL.out _ h2
        unfold dgB at this
        rwa [hc] at this
      clear hget
      have hq : (48 ≤ c ∧ c ≤ 57) ∨ (65 ≤ c ∧ c ≤ 70) ∨ (97 ≤ c ∧ c ≤ 102) := by
        unfold isDg at hdg
        simp at hdg
        omega
      clear hdg
      rcases hq with ⟨hd0, hd1⟩ | ⟨hd0, hd1⟩ | ⟨hd0, hd1⟩
      · have hd2 : (48 : Int) ≤ c := by omega
        have hd3 : (c : Int) ≤ 57 := by omega
        have HP := Lib.hid (fun acc => show pu 16 acc (l.drop k) = if 18446744073709551616 ≤ acc * 16 + (c - 48) then none else pu 16 (acc * 16 + (c - 48)) (l.drop (k + 1)) by rw [HD.out k hlt, pu, hc]; rw [show dgV c = (c - 48) by unfold dgV; split <;> (try split) <;> omega])
        by_cases hcut : 1152921504606846976 ≤ a
        · have HR : Hid (r = none) := Lib.hid (by rw [← HA.out.2, HP.out, if_pos (by have := HA.out.1; omega)])
          go_wp2_with (first | fail)
          go_ret2
          exact ⟨by rw [HR.out]; rfl, HK.out⟩
        · by_cases hov : 18446744073709551616 ≤ a * 16 + ((c : Int) - 48)
          · exfalso; omega
          · have HN : Hid (a * 16 + ((c : Int) - 48) = ((acc * 16 + (c - 48) : Nat) : Int) ∧ pu 16 (acc * 16 + (c - 48)) (l.drop (k + 1)) = r) := Lib.hid ⟨by have := HA.out.1; omega, by rw [← HA.out.2, HP.out, if_neg (by have := HA.out.1; omega)]⟩
            have icut : a < 1152921504606846976 := by omega
            have iov : a * 16 + ((c : Int) - 48) < 18446744073709551616 := by omega
            clear hcut hov
            go_wp2_with (first | fail)
            go_round
            case rel => exact ⟨k + 1, acc * 16 + (c - 48), a * 16 + ((c : Int) - 48), by omega, rfl, (by first | rfl | (congr 1; omega)), (by go_num), HN, by omega⟩
            case measure => simp [intOf]; omega
      · have hd2 : decide ((c : Int) ≤ 57) = false := decide_eq_false (by omega)
        have hd4 : decide (48 ≤ (c : Int)) = true := decide_eq_true (by omega)
        have HLOW := Lib.hid (low_up ⟨hd0, hd1⟩)
        have HP := Lib.hid (fun acc => show pu 16 acc (l.drop k) = if 18446744073709551616 ≤ acc * 16 + (c - 55) then none else pu 16 (acc * 16 + (c - 55)) (l.drop (k + 1)) by rw [HD.out k hlt, pu, hc]; rw [show dgV c = (c - 55) by unfold dgV; split <;> (try split) <;> omega])
        by_cases hcut : 1152921504606846976 ≤ a
        · have HR : Hid (r = none) := Lib.hid (by rw [← HA.out.2, HP.out, if_pos (by have := HA.out.1; omega)])
          go_wp2_with (first | (go_at_call 53; refine (Tryd.internal_strconv_lower _ _).mono ?_; rintro e w' ⟨rfl, rfl⟩; rw [HLOW.out]))
          go_ret2
          exact ⟨by rw [HR.out]; rfl, HK.out⟩
        · by_cases hov : 18446744073709551616 ≤ a * 16 + ((c : Int) - 55)
          · exfalso; omega
          · have HN : Hid (a * 16 + ((c : Int) - 55) = ((acc * 16 + (c - 55) : Nat) : Int) ∧ pu 16 (acc * 16 + (c - 55)) (l.drop (k + 1)) = r) := Lib.hid ⟨by have := HA.out.1; omega, by rw [← HA.out.2, HP.out, if_neg (by have := HA.out.1; omega)]⟩
            have icut : a < 1152921504606846976 := by omega
            have iov : a * 16 + ((c : Int) - 55) < 18446744073709551616 := by omega
            clear hcut hov
            go_wp2_with (first | (go_at_call 53; refine (Tryd.internal_strconv_lower _ _).mono ?_; rintro e w' ⟨rfl, rfl⟩; rw [HLOW.out]))
            go_round
            case rel => exact ⟨k + 1, acc * 16 + (c - 55), a * 16 + ((c : Int) - 55), by omega, rfl, (by first | rfl | (congr 1; omega)), (by go_num), HN, by omega⟩
            case measure => simp [intOf]; omega
      · have hd2 : decide ((c : Int) ≤ 57) = false := decide_eq_false (by omega)
        have hd4 : decide (48 ≤ (c : Int)) = true := decide_eq_true (by omega)
        have HLOW := Lib.hid (low_lo ⟨hd0, hd1⟩)
        have HP := Lib.hid (fun acc => show pu 16 acc (l.drop k) = if 18446744073709551616 ≤ acc * 16 + (c - 87) then none else pu 16 (acc * 16 + (c - 87)) (l.drop (k + 1)) by rw [HD.out k hlt, pu, hc]; rw [show dgV c = (c - 87) by unfold dgV; split <;> (try split) <;> omega])
        by_cases hcut : 1152921504606846976 ≤ a
        · have HR : Hid (r = none) := Lib.hid (by rw [← HA.out.2, HP.out, if_pos (by have := HA.out.1; omega)])
          go_wp2_with (first | (go_at_call 53; refine (Tryd.internal_strconv_lower _ _).mono ?_; rintro e w' ⟨rfl, rfl⟩; rw [HLOW.out]))
          go_ret2
          exact ⟨by rw [HR.out]; rfl, HK.out⟩
        · by_cases hov : 18446744073709551616 ≤ a * 16 + ((c : Int) - 87)
          · exfalso; omega
          · have HN : Hid (a * 16 + ((c : Int) - 87) = ((acc * 16 + (c - 87) : Nat) : Int) ∧ pu 16 (acc * 16 + (c - 87)) (l.drop (k + 1)) = r) := Lib.hid ⟨by have := HA.out.1; omega, by rw [← HA.out.2, HP.out, if_neg (by have := HA.out.1; omega)]⟩
            have icut : a < 1152921504606846976 := by omega
            have iov : a * 16 + ((c : Int) - 87) < 18446744073709551616 := by omega
            clear hcut hov
            go_wp2_with (first | (go_at_call 53; refine (Tryd.internal_strconv_lower _ _).mono ?_; rintro e w' ⟨rfl, rfl⟩; rw [HLOW.out]))
            go_round
            case rel => exact ⟨k + 1, acc * 16 + (c - 87), a * 16 + ((c : Int) - 87), by omega, rfl, (by first | rfl | (congr 1; omega)), (by go_num), HN, by omega⟩
            case measure => simp [intOf]; omega

    · obtain rfl : k = t.size := by omega
      have HR : Hid (r = some acc) := Lib.hid (by rw [← HA.out.2, HDE.out]; rfl)
      obtain rfl := HA.out.1
      go_wp2
      go_ret2
      exact ⟨by rw [HR.out]; rfl, HK.out⟩
end Go.Proofs.YtjpmgloofcgfnaaDoor
