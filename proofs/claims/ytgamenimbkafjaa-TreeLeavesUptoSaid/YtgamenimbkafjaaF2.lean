/- Whether a Kind is among some: Contains and Index of slices, the sort that is made of some Kinds; what a sort is as a value. Condition: the Kinds lie in memory. -/
import Derived.Test.YtgamenimbkafjaaF1
namespace Go.Proofs.Ytgamenimbkafjaa
open Go.RowKit
set_option linter.unusedVariables false
set_option linter.unusedSimpArgs false

def fnI (L : List Int) (i : Nat) : Int := L.getD i 0
/-- Is a Kind among some? -/
def inK (L : List Int) (k : Int) : Bool := L.contains k
theorem mem_at {L : List Int} {k : Int} {n : Nat} (hn : n < L.length) (h : fnI L n = k) : inK L k = true := by
  unfold inK
  rw [List.contains_iff_mem]
  unfold fnI at h
  rw [List.getD_eq_getElem?_getD, List.getElem?_eq_getElem hn] at h
  exact h ▸ List.getElem_mem hn
theorem mem_none {L : List Int} {k : Int} (h : ∀ i, i < L.length → fnI L i ≠ k) : inK L k = false := by
  apply Bool.eq_false_iff.2
  intro hc
  unfold inK at hc
  rw [List.contains_iff_mem] at hc
  obtain ⟨i, hi, rfl⟩ := List.mem_iff_getElem.1 hc
  exact h i hi (by unfold fnI; rw [List.getD_eq_getElem?_getD, List.getElem?_eq_getElem hi]; rfl)
set_option maxHeartbeats 1600000 in
set_option maxRecDepth 100000 in
theorem c_Index (w : World) (ad : Option Addr) (c N : Nat) (L : List Int) (k : Int) (hN : L.length = N) (ht : tab w A0 3 ad N c 1 (fun i => [.int .i64 (fnI L i)])) (hb : N ≤ 4294967296) :
    Calls Try.prog 54 #[.slice ad N c, .int .i64 k] w fun e w' => (∃ r : Int, e = .returned (.int .i64 r) ∧ decide (0 ≤ r) = inK L k) ∧ Kp w w' := by
  have HT := Lib.hid ht
  have HLEN := Lib.hid hN
  clear ht hN
  go_enter Try.func54, Try.ntmps54
  go_wp2_with fail
  go_loopw [8] (fun i wr => ∃ n : Nat, n ≤ N ∧ i = .int .i64 n ∧ Hid (∀ j, j < n → fnI L j ≠ k) ∧ Kp w wr) (fun i _ => N - (intOf i).toNat)
  case atStart => exact ⟨0, by omega, rfl, Lib.hid (fun k hk => absurd hk (by omega)), Kp.refl _⟩
  case round =>
    obtain ⟨n, hn, rfl, HN, hkr⟩ := hrel
    by_cases hlt : n < N
    · obtain ⟨b, o, ha, hr⟩ := HT.out.at (by omega)
      have HA := Lib.hid ha
      have g0 : wr.cell? ⟨b, o + n, none⟩ = some (.int .i64 (fnI L n)) := hkr.cellv (by simpa using hr n hlt 0 _ rfl)
      clear ha hr
      by_cases e : fnI L n = k
      · have hv := Lib.hid (mem_at (L := L) (by rw [HLEN.out]; exact hlt) e)
        have e1 : (k == fnI L n) = true := beq_iff_eq.2 e.symm
        clear e
        go_wp2_with ((with_reducible show wpList _ _ _ (⟨some 14, _, _, _, _, _⟩ :: _) _ _); refine wpList_index_tab (d := 14) _ _ _ rfl 3 Try.underlying36 1 rfl _ _ _ _ o (by rfl) HA.out n (by rfl) hlt ?_)
        go_ret
        exact ⟨⟨n, rfl, by rw [hv.out]; exact decide_eq_true (by omega)⟩, hkr⟩
      · have hv := Lib.hid e
        have e1 : (k == fnI L n) = false := beq_eq_false_iff_ne.2 (Ne.symm e)
        clear e
        go_wp2_with ((with_reducible show wpList _ _ _ (⟨some 14, _, _, _, _, _⟩ :: _) _ _); refine wpList_index_tab (d := 14) _ _ _ rfl 3 Try.underlying36 1 rfl _ _ _ _ o (by rfl) HA.out n (by rfl) hlt ?_)
        go_roundw
        case rel => exact ⟨n + 1, by omega, by go_num, Lib.hid (fun j hj => by
          by_cases hkn : j = n
          · rw [hkn]; exact hv.out
          · exact HN.out j (by omega)), hkr⟩
        case measure => simp [intOf]; omega
    · obtain rfl : n = N := by omega
      have hv := Lib.hid (mem_none (L := L) (k := k) (by rw [HLEN.out]; exact HN.out))
      go_wp2_with fail
      go_ret
      exact ⟨⟨_, rfl, by rw [hv.out]; rfl⟩, hkr⟩
theorem c_Contains (w : World) (ad : Option Addr) (c N : Nat) (L : List Int) (k : Int) (hN : L.length = N) (ht : tab w A0 3 ad N c 1 (fun i => [.int .i64 (fnI L i)])) (hb : N ≤ 4294967296) :
    Calls Try.prog 42 #[.slice ad N c, .int .i64 k] w fun e w' => e = .returned (.bool (inK L k)) ∧ Kp w w' := by
  have HC := Lib.hid (c_Index w ad c N L k hN ht hb)
  clear ht hN
  go_enter Try.func42, Try.ntmps42
  go_wp2_with (first | (go_at_call 54; (with_reducible refine HC.out.mono ?_); rintro e w' ⟨⟨r, rfl, hr⟩, hk⟩))
  go_ret
  exact ⟨rfl, hk⟩
/-- The Kinds that the sort at p was made of. -/
def OfAt (w : World) (p : Nat) (L : List Int) : Prop := ∃ ad c, w.cell? ⟨p, 0, none⟩ = some (.slice ad L.length c) ∧ tab w A0 3 ad L.length c 1 (fun i => [.int .i64 (fnI L i)]) ∧ L.length ≤ 4294967296
theorem OfAt.keep {w w' : World} {p : Nat} {L : List Int} (h : OfAt w p L) (hk : Kp w w') : OfAt w' p L := by
  obtain ⟨ad, c, h1, h2, h3⟩ := h
  exact ⟨ad, c, hk.cellv h1, h2.keep hk, h3⟩
theorem c_of1 (h : Hn) (w : World) (p : Nat) (L : List Int) (ho : OfAt w p L) : Calls Try.prog 41 #[h.val, .pointer (some ⟨p, 0, none⟩)] w fun e w' => e = .returned (.bool (inK L h.k)) ∧ Kp w w' := by
  obtain ⟨ad, c, h1, h2, h3⟩ := ho
  obtain ⟨k, tx, n, at_, la, ll, lc⟩ := h
  have hlt := lt_of_cell h1
  have H2 := Lib.hid h2
  clear h2
  have HC := Lib.hid (c_Contains (w.alloc (.cells #[.int .i64 k, .string tx, .int .u64 n, .int .i64 at_, .slice la ll lc] 25)) ad c L.length L k rfl (H2.out.keep ((Kp.refl w).alloc _)) h3)
  go_enter Try.func41, Try.ntmps41
  go_wp2_with (first | (go_at_call 42; (with_reducible refine HC.out.mono ?_); rintro e w' ⟨rfl, hk⟩))
  go_ret
  exact ⟨rfl, ((Kp.refl w).alloc _).trans hk⟩
theorem c_of (w : World) (ad : Option Addr) (n c : Nat) : Calls Try.prog 31 #[.slice ad n c] w fun e w' => e = .returned (.func (.func 41) #[] #[.pointer (some ⟨w.heap.size, 0, none⟩)]) ∧ w' = w.alloc (.cells #[.slice ad n c] 36) := by
  have hmf : ∀ (fn : Fn) (first cap : Array Value) (w : World), (Instr.makeFunc fn first cap).run Try.prog w = .ok (.func fn first cap) w := fun _ _ _ _ => rfl
  go_enter Try.func31, Try.ntmps31
  go_wp2_with fail
  go_ret
  exact ⟨rfl, rfl⟩
/-- What is asked of a node's Kind by the value F. -/
def SortAt (w : World) (F : Value) (p : Int → Bool) : Prop :=
  (F = .func (.func 34) #[] #[] ∧ p = tyK) ∨ (F = .func (.func 32) #[] #[] ∧ p = stK) ∨ (F = .func (.func 33) #[] #[] ∧ p = exK) ∨ (F = .func (.func 65) #[] #[] ∧ p = brK) ∨
  (∃ b L, F = .func (.func 41) #[] #[.pointer (some ⟨b, 0, none⟩)] ∧ OfAt w b L ∧ p = inK L)
theorem SortAt.keep {w w' : World} {F : Value} {p : Int → Bool} (h : SortAt w F p) (hk : Kp w w') : SortAt w' F p := by
  rcases h with h | h | h | h | ⟨b, L, h1, h2, h3⟩
  · exact .inl h
  · exact .inr (.inl h)
  · exact .inr (.inr (.inl h))
  · exact .inr (.inr (.inr (.inl h)))
  · exact .inr (.inr (.inr (.inr ⟨b, L, h1, h2.keep hk, h3⟩)))
end Go.Proofs.Ytgamenimbkafjaa
