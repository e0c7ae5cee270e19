/- One type, or two, put into another: what Subst answers then, and what is so put in one after the other. Condition: the types lie in memory. -/
import Derived.Test.YtcaffohojaobaaaRd
namespace Go.Proofs.Ytcaffohojaobaaa
open Go.RowKit
set_option linter.unusedVariables false
set_option linter.unusedSimpArgs false
/-- The type of no kind, as it reads. -/
def tz : Ty := .mk 0 ⟨#[]⟩ 0 [] 0 []
theorem hd0_lies (w : World) (S : Sel) (r : Nat) : Lies w S (r + 1) tz hd0 := by
  refine ⟨fun _ => hd0, ⟨rfl, rfl, rfl, rfl, rfl, rfl, by decide, by decide, by decide, (fun n hn => by cases hn), by decide, by decide, by decide, tab_nil _ _ _ _ _, tab_nil _ _ _ _ _, tab_nil _ _ _ _ _⟩, fun i X hX => ?_⟩
  simp [tz, Ty.kids] at hX
/-- What Subst gives, or the type of no kind. -/
noncomputable def putX (r : Nat) (T : Ty) (L : List ByteArray) (As : List Ty) : Ty := if subE T L As = 0 then fill (stand L As) r T else tz
/-- What Subst answers, told of the type that lies in memory then. -/
def PutP (R : Nat) (X : Ty) (q : Int) (w : World) (e : Ending) (w' : World) : Prop := ∃ h' : Hd, e = .returned (.tuple #[h'.val, .int .i64 q]) ∧ Lies w' (From w.heap.size) R X h' ∧ Kp w w'
theorem sub_put {r Ra : Nat} {T : Ty} {L : List ByteArray} {As : List Ty} {w w' : World} {e : Ending} (h : SubstP r Ra T L As w e w') : PutP (r + Ra + 1) (putX r T L As) (subE T L As) w e w' := by
  obtain ⟨h', h1, h2, h3, h4⟩ := h
  refine ⟨h', h1, ?_, h2⟩
  unfold putX
  by_cases hq : subE T L As = 0
  · rw [if_pos hq]
    exact (h3 hq).mono (by omega)
  · rw [if_neg hq, h4 hq]
    exact hd0_lies _ _ _
theorem tab_row {w : World} {g m N : Nat} {e : TypeId} {cs : Array Value} {C : Nat → List Value} (hg : w.heap[g]? = some (.cells cs e (0, 0))) (hN : 0 < N) (hC : ∀ i j v, i < N → (C i)[j]? = some v → cs[i * m + j]? = some v) : tab w A0 e (some ⟨g, 0, none⟩) N N m C :=
  ⟨fun h => by (cases h), fun _ => ⟨g, 0, rfl, trivial, (Array.getElem?_eq_some_iff.1 hg).1, fun h => h.elim, fun i hi j v hv => by
    rw [Nat.zero_add, cell_of_row w g _ cs e (0, 0) hg]
    exact hC i j v hi hv⟩⟩
theorem c_Subst1 (r Ra : Nat) (T A : Ty) (h1 h2 : Hd) (m : ByteArray) (g1 g2 : Nat) (w : World) (hl : Lies w A0 r T h1) (ha : Lies w A0 Ra A h2) (hm : m.size ≤ 140737488351232) (hg1 : w.heap[g1]? = some (.cells #[.string m] 9 (0, 0)))
    (hg2 : w.heap[g2]? = some (.cells #[.int .i64 h2.k, .string h2.nm, .int .i64 h2.con, .slice h2.fa h2.fl h2.fc, .slice h2.la h2.ll h2.lc, .slice h2.ra h2.rl h2.rc] 25 (0, 0))) :
    Calls Try.prog 29 #[h1.val, .slice (some ⟨g1, 0, none⟩) 1 1, .slice (some ⟨g2, 0, none⟩) 1 1] w (PutP (r + Ra + 1) (putX r T [m] [A]) (subE T [m] [A]) w) := by
  refine (c_Subst r Ra T h1 [m] (some ⟨g1, 0, none⟩) 1 A0 [A] (some ⟨g2, 0, none⟩) 1 (fun _ => h2) w hl (tab_row hg1 (by simp) ?_) (fun s hs => by rw [List.mem_singleton] at hs; rw [hs]; exact hm) (by simp) ⟨tab_row hg2 (by simp) ?_, ?_⟩ (by simp)).mono (fun e w' hp => sub_put hp)
  · intro i j v hi hv
    obtain rfl : i = 0 := Nat.lt_one_iff.1 hi
    rw [Nat.zero_mul, Nat.zero_add]
    simpa using hv
  · intro i j v hi hv
    obtain rfl : i = 0 := Nat.lt_one_iff.1 hi
    rw [Nat.zero_mul, Nat.zero_add]
    simpa using hv
  · intro i X hX
    have : X = A := by
      cases i with
      | zero => simpa using hX.symm
      | succ i => simp at hX
    rw [this]
    exact ha
theorem c_Subst2 (r Ra : Nat) (T A B : Ty) (h1 h2 h3 : Hd) (m n : ByteArray) (g1 g2 : Nat) (w : World) (hl : Lies w A0 r T h1) (ha : Lies w A0 Ra A h2) (hb : Lies w A0 Ra B h3) (hm : m.size ≤ 140737488351232) (hn : n.size ≤ 140737488351232) (hg1 : w.heap[g1]? = some (.cells #[.string m, .string n] 9 (0, 0)))
    (hg2 : w.heap[g2]? = some (.cells #[.int .i64 h2.k, .string h2.nm, .int .i64 h2.con, .slice h2.fa h2.fl h2.fc, .slice h2.la h2.ll h2.lc, .slice h2.ra h2.rl h2.rc, .int .i64 h3.k, .string h3.nm, .int .i64 h3.con, .slice h3.fa h3.fl h3.fc, .slice h3.la h3.ll h3.lc, .slice h3.ra h3.rl h3.rc] 25 (0, 0))) :
    Calls Try.prog 29 #[h1.val, .slice (some ⟨g1, 0, none⟩) 2 2, .slice (some ⟨g2, 0, none⟩) 2 2] w (PutP (r + Ra + 1) (putX r T [m, n] [A, B]) (subE T [m, n] [A, B]) w) := by
  refine (c_Subst r Ra T h1 [m, n] (some ⟨g1, 0, none⟩) 2 A0 [A, B] (some ⟨g2, 0, none⟩) 2 (fun i => if i = 0 then h2 else h3) w hl (tab_row hg1 (by simp) ?_) (fun s hs => by simp at hs; rcases hs with rfl | rfl <;> assumption) (by simp) ⟨tab_row hg2 (by simp) ?_, ?_⟩ (by simp)).mono (fun e w' hp => sub_put hp)
  · intro i j v hi hv
    have : i = 0 ∨ i = 1 := by have : i < 2 := hi; omega
    rcases this with rfl | rfl
    · rw [Nat.zero_mul, Nat.zero_add]
      cases j with
      | zero => simpa using hv
      | succ j => simp at hv
    · cases j with
      | zero => simpa using hv
      | succ j => simp at hv
  · intro i j v hi hv
    have : i = 0 ∨ i = 1 := by have : i < 2 := hi; omega
    rcases this with rfl | rfl
    · have hv : h2.cells[j]? = some v := hv
      have hj : j < 6 := (List.getElem?_eq_some_iff.1 hv).1
      rw [Nat.zero_mul, Nat.zero_add]
      match j, hj with
      | 0, _ => exact hv
      | 1, _ => exact hv
      | 2, _ => exact hv
      | 3, _ => exact hv
      | 4, _ => exact hv
      | 5, _ => exact hv
    · have hv : h3.cells[j]? = some v := hv
      have hj : j < 6 := (List.getElem?_eq_some_iff.1 hv).1
      match j, hj with
      | 0, _ => exact hv
      | 1, _ => exact hv
      | 2, _ => exact hv
      | 3, _ => exact hv
      | 4, _ => exact hv
      | 5, _ => exact hv
  · intro i X hX
    match i, hX with
    | 0, hX =>
      have : X = A := by simpa using hX.symm
      rw [this]; exact ha
    | 1, hX =>
      have : X = B := by simpa using hX.symm
      rw [this]; exact hb
    | i + 2, hX => simp at hX
/-! ### one put in behind another -/
theorem stand_one (m : ByteArray) (A : Ty) : stand [m] [A] = one m A := by
  funext s
  unfold stand one
  rw [idx, idx]
  by_cases e : s = m
  · rw [if_pos e, if_pos e]; rfl
  · rw [if_neg e, if_neg e]; rfl
theorem stand_two {m n : ByteArray} (hmn : m ≠ n) (A B : Ty) : stand [m, n] [A, B] = two m n A B := by
  funext s
  unfold stand two
  rw [idx, idx, idx]
  by_cases e : s = m
  · rw [if_pos e, if_neg (fun x => hmn (e.symm.trans x)), if_pos e]; rfl
  · rw [if_neg e]
    by_cases e2 : s = n
    · rw [if_pos e2, if_pos e2]; rfl
    · rw [if_neg e2, if_neg e2, if_neg e]; rfl
theorem sub_ok {T : Ty} {L : List ByteArray} {As : List Ty} (h : subE T L As = 0) : (look 9 T).2.2 = true ∧ allOk As = true ∧ As.length = L.length ∧ L.Nodup ∧ (lookG (standG L As) 9 T).2.2 = true := by
  unfold subE at h
  split at h
  · rename_i h1
    split at h
    · rename_i h2
      split at h
      · rename_i h3
        rw [Bool.and_eq_true] at h1
        exact ⟨h1.1, h1.2, h2.1, h2.2, h3⟩
      · exact absurd h (by decide)
    · exact absurd h (by decide)
  · exact absurd h (by decide)
theorem put_ok {r : Nat} {T : Ty} {L : List ByteArray} {As : List Ty} (hr : 9 ≤ r) (h : subE T L As = 0) : putX r T L As = fill (stand L As) r T ∧ (look 9 (putX r T L As)).2.2 = true := by
  obtain ⟨h1, h2, h3, h4, h5⟩ := sub_ok h
  have e : putX r T L As = fill (stand L As) r T := by unfold putX; rw [if_pos h]
  refine ⟨e, ?_⟩
  rw [e, ← (fill_look (stand_sized h3 h2) 9 r T hr (Nat.le_refl _)).1]
  exact h5
theorem put_twice {r : Nat} (hr : 9 ≤ r) {T A B : Ty} {m n : ByteArray} (hmn : m ≠ n) (hT : Dp r T) (hA : Dp r A) {rx : Nat} (hrx : 9 ≤ rx) (hX : Dp rx (putX r T [m] [A])) (h1 : subE T [m] [A] = 0) (h2 : subE (putX r T [m] [A]) [n] [B] = 0) (h3 : subE A [n] [B] = 0) :
    subE T [m, n] [putX r A [n] [B], B] = 0 ∧ putX r T [m, n] [putX r A [n] [B], B] = putX rx (putX r T [m] [A]) [n] [B] ∧ (look 9 (putX rx (putX r T [m] [A]) [n] [B])).2.2 = true := by
  obtain ⟨e1, k1⟩ := put_ok hr h1
  obtain ⟨e2, k2⟩ := put_ok hrx h2
  obtain ⟨e3, k3⟩ := put_ok hr h3
  have ef : fill (stand [m, n] [putX r A [n] [B], B]) r T = putX rx (putX r T [m] [A]) [n] [B] := by
    rw [e2, e1, stand_one, stand_one, stand_two hmn, e3, stand_one]
    rw [e1, stand_one] at hX
    exact (fill_twice hmn hA hT hX).symm
  have hB : (look 9 B).2.2 = true := by
    have := (sub_ok h2).2.1
    simpa [allOk] using this
  have hall : allOk [putX r A [n] [B], B] = true := by simp [allOk, k3, hB]
  have hlen : [putX r A [n] [B], B].length = [m, n].length ∧ [m, n].Nodup := ⟨rfl, by simp [hmn]⟩
  have h4 : subE T [m, n] [putX r A [n] [B], B] = 0 := by
    rw [sub_end (sub_ok h1).1 hall hlen, (fill_look (stand_sized hlen.1 hall) 9 r T hr (Nat.le_refl _)).1, ef, k2]
    rfl
  refine ⟨h4, ?_, k2⟩
  rw [(put_ok hr h4).1, ef]
end Go.Proofs.Ytcaffohojaobaaa
