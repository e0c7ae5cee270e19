/- What the writer's builder tells: its length and its text; what put writes. Condition: the writer holds the bytes, which stay below 2 to the 47. -/
import Derived.Test.YtahidfjlifojiaaDoorPB
import Derived.Test.YtahidfjlifojiaaDoorT1
import Derived.RegionTactic
import Derived.ChangeAlike
import Derived.Shelf.RegionOpen
namespace Go.Proofs.YtahidfjlifojiaaDoor
open Go.RowKit
set_option linter.unusedVariables false
set_option linter.unusedSimpArgs false

set_option maxHeartbeats 1600000 in
set_option maxRecDepth 100000 in
theorem c_Len (b : Nat) (t : Int) (l : List UInt8) (w : World) (h : Wt w b t l) :
    Calls Tryd.prog 12 #[.pointer (some ⟨b, 0, none⟩)] w fun e w' => e = .returned (.int .i64 l.length) ∧ w = w' := by
  obtain ⟨p, v, hbk, hown, hne⟩ : ∃ p, WtAt p w b t l := by
    rcases h with h | h <;> exact ⟨_, h⟩
  have c1 : w.cell? ⟨b, 1, none⟩ = some v := by rw [cell_of_row _ _ _ _ _ _ hbk]; rfl
  have hlen : ∃ ad cap, v = .slice ad l.length cap := by
    rcases hown.2 with ⟨hv, h0⟩ | ⟨g, cap, cur, hv, _⟩
    · exact ⟨none, 0, by rw [hv, h0]⟩
    · exact ⟨_, _, hv⟩
  obtain ⟨ad, cap, rfl⟩ := hlen
  clear hbk hown hne h
  go_enter Tryd.func12, Tryd.ntmps12
  go_wp2_with fail
  go_ret
  exact ⟨rfl, rfl⟩
theorem cellsByte : Tryd.prog.cellsOf 5 = 1 := by kernel_rfl
set_option maxHeartbeats 1600000 in
set_option maxRecDepth 100000 in
theorem c_String (b : Nat) (t : Int) (l : List UInt8) (w : World) (h : Wt w b t l) (h0 : l ≠ []) :
    Calls Tryd.prog 13 #[.pointer (some ⟨b, 0, none⟩)] w fun e w' => e = .returned (.string ⟨l.toArray⟩) ∧ Below b w w' := by
  obtain ⟨p, v, hbk, hown, hne⟩ : ∃ p, WtAt p w b t l := by
    rcases h with h | h <;> exact ⟨_, h⟩
  have hl0 : l.length ≠ 0 := by simpa using h0
  obtain ⟨g, cap, cur, rfl, hbg, hg, hnc, hcm, hcs, htake⟩ : ∃ g cap cur, v = .slice (some ⟨g, 0, none⟩) l.length cap ∧ b ≤ g ∧ w.heap[g]? = some (.cells cur 5 (0, 0)) ∧ l.length ≤ cap ∧ cap ≤ maxLen ∧ cur.size = cap * 1 ∧ cur.toList.take (l.length * 1) = Lib.byteCells l := by
    rcases hown.2 with ⟨_, hz⟩ | ⟨g, cap, cur, hv, r⟩
    · exact absurd hz hl0
    · exact ⟨g, cap, cur, hv, r⟩
  have c1 : w.drew.cell? ⟨b, 1, none⟩ = some (.slice (some ⟨g, 0, none⟩) l.length cap) := by
    have : w.drew.heap[b]? = some (.cells #[p, .slice (some ⟨g, 0, none⟩) l.length cap, .int .i64 t] 42 (0, 0)) := hbk
    rw [Lib.cell_of_heap this]; rfl
  have hSD : (Builtin.unsafeSliceData_ #[38] 53 #[.slice (some ⟨g, 0, none⟩) l.length cap]).run Tryd.prog w.drew = .ok (.pointer (some ⟨g, 0, none⟩)) w.drew :=
    Lib.run_unsafeSliceData_row _ _ _ _ _ _ (by omega)
  have hUS : (Builtin.unsafeString_ #[53, 3] 9 #[.pointer (some ⟨g, 0, none⟩), .int .i64 l.length]).run Tryd.prog w.drew = .ok (.string ⟨l.toArray⟩) (w.drew.freeze ⟨g, 0, none⟩ l.length) := by
    refine Lib.run_unsafeString_row w.drew 53 3 9 5 Tryd.underlying53 cellsByte g cur.size (by have hg' : w.drew.heap[g]? = some (.cells cur 5 (0, 0)) := hg; simp [World.shape?, hg']) l h0 (by omega) (by unfold maxLen at hcm; omega) ?_
    intro j x hx
    have := hown.cells (g := g) rfl j (.int .u8 x.toNat) (by simp [Lib.byteCells, hx])
    exact this
  clear hbk hown hne h hg htake hcs
  go_enter Tryd.func13, Tryd.ntmps13
  go_wp2_with fail
  go_region
  all_goals (go_wp2; go_ret; exact ⟨rfl, Lib.below_freeze (Below.drew (Below.refl b w)) (p := ⟨g, 0, none⟩) hbg _⟩)

/-- Texts, one behind the other. -/
def joined : List ByteArray → List UInt8
  | [] => []
  | s :: r => s.data.toList ++ joined r
theorem joined_snoc (L : List ByteArray) (s : ByteArray) : joined (L ++ [s]) = joined L ++ s.data.toList := by
  induction L with
  | nil => simp [joined]
  | cons x r ih => simp [joined, ih]
theorem Kp.wr' {b : Nat} {w w' : World} (h : Kp w w') : Wr b w w' := h.wr
set_option maxHeartbeats 3200000 in
set_option maxRecDepth 100000 in
theorem c_put (b : Nat) (t : Int) (l : List UInt8) (L : List ByteArray) (q N c : Nat) (w : World) (hN : L.length = N) (h : Wt w b t l)
    (hq : w.heap[q]? = some (.cells (L.map Value.string).toArray 9 (0, 0))) (hlen : l.length + (joined L).length ≤ 140737488355328) (hL : N ≤ 4294967296) (hqb : q ≠ b) :
    Calls Tryd.prog 18 #[.pointer (some ⟨b, 0, none⟩), .slice (some ⟨q, 0, none⟩) N c] w fun e w' => e = .returned (.tuple #[]) ∧ Wt w' b t (l ++ joined L) ∧ Wr b w w' := by
  have H := Lib.hid h
  have HQ := Lib.hid hq
  have HN := Lib.hid hN
  have HB := Lib.hid hlen
  have hqlt : q < w.heap.size := (Array.getElem?_eq_some_iff.1 hq).1
  have hnb : ¬ isB w q := by
    rintro ⟨cs, fr, e⟩
    rw [hq] at e
    simp at e
  have HNB := Lib.hid hnb
  clear h hq hN hlen hnb
  go_enter Tryd.func18, Tryd.ntmps18
  go_wp2_with fail
  go_loopw [5, 8] (fun s i wr => ∃ n : Nat, n ≤ N ∧ i = .int .i64 n ∧ Wt wr b t (l ++ joined (L.take n)) ∧ Wr b w wr) (fun _ i _ => N - (intOf i).toNat)
  case atStart => exact ⟨0, by omega, rfl, by simpa [joined] using H.out, Wr.refl _ _⟩
  case round =>
    obtain ⟨n, hn, rfl, hw, hk⟩ := hrel
    by_cases hlt : n < N
    · have hlt' : n < L.length := by rw [HN.out]; exact hlt
      have hx : L[n]? = some (L[n]'hlt') := List.getElem?_eq_getElem hlt'
      obtain ⟨s, hs⟩ : ∃ s, s = L[n]'hlt' := ⟨_, rfl⟩
      rw [← hs] at hx
      have g0 : wr.cell? ⟨q, n, none⟩ = some (.string s) := by
        rw [cell_of_row _ _ _ _ _ _ ((hk.blk q hqlt hqb (.inr HNB.out)).trans HQ.out)]
        simp [hx]
      have hts : joined (L.take (n + 1)) = joined (L.take n) ++ s.data.toList := by rw [List.take_succ_eq_append_getElem hlt', hs]; exact joined_snoc _ _
      have hb2 : (l ++ joined (L.take n)).length + s.size ≤ 140737488355328 := by
        have h1 : joined L = joined (L.take (n + 1)) ++ joined (L.drop (n + 1)) := by
          conv => lhs; rw [← List.take_append_drop (n + 1) L]
          generalize L.take (n + 1) = X
          induction X with
          | nil => rfl
          | cons x r ih => simp [joined, ih]
        have h2 := HB.out
        rw [h1, hts] at h2
        simp only [List.length_append] at h2 ⊢
        have h3 : s.data.toList.length = s.size := rfl
        omega
      have HTS := Lib.hid hts
      have HW := Lib.hid hw
      have HK := Lib.hid hk
      clear hts hw hk hx hs hlt'
      go_wp2_with (go_at_call 30; (with_reducible refine (c_Write b t _ s _ HW.out hb2).mono ?_); rintro e w1 ⟨rfl, hw1, hk1⟩)
      go_roundw
      case rel => exact ⟨n + 1, by omega, by go_num, by rw [HTS.out, ← List.append_assoc]; exact hw1, HK.out.trans hk1⟩
      case measure => simp [intOf]; omega
    · obtain rfl : n = N := by omega
      have e : joined (L.take n) = joined L := by rw [List.take_of_length_le (by have := HN.out; omega)]
      rw [e] at hw
      have HW := Lib.hid hw
      have HK := Lib.hid hk
      clear hw hk e
      go_wp2_with fail
      go_end0
      exact ⟨rfl, HW.out, HK.out⟩
end Go.Proofs.YtahidfjlifojiaaDoor
