/- in, Word and Name of the reference, Name of package scan. No condition. -/
import Derived.Test.YtgamenimbkafjaaA2
namespace Go.Proofs.Ytgamenimbkafjaa
open Go.RowKit
set_option linter.unusedVariables false
set_option linter.unusedSimpArgs false

theorem tab_lit (w : World) (L : List ByteArray) (e : TypeId) : tab (w.alloc (.cells (L.map Value.string).toArray e)) A0 e (some ⟨w.heap.size, 0, none⟩) L.length L.length 1 (fun i => [.string (fnS L i)]) :=
  ⟨fun h => (by cases h), fun hn => ⟨w.heap.size, 0, rfl, trivial, by simp, fun h => h.elim, fun i hi j v hv => by
    rw [cell_of_row _ _ _ _ _ _ (heap_alloc_new _ _)]
    cases j with
    | succ j => simp at hv
    | zero =>
      simp only [List.getElem?_cons_zero, Option.some.injEq] at hv
      subst hv
      simp [fnS, List.getD_eq_getElem?_getD, List.getElem?_eq_getElem hi]⟩⟩
set_option maxHeartbeats 1600000 in
set_option maxRecDepth 100000 in
theorem c_in (w : World) (S : Sel) (ad : Option Addr) (c N : Nat) (L : List ByteArray) (s : ByteArray) (hN : L.length = N) (ht : tab w S 9 ad N c 1 (fun i => [.string (fnS L i)])) (hb : N ≤ 9223372036854775807) :
    Calls Try.prog 69 #[.slice ad N c, .string s] w fun e w' => e = .returned (.bool (inB L s)) ∧ Kp w w' := by
  have HT := Lib.hid ht
  have HLEN := Lib.hid hN
  clear ht hN
  go_enter Try.func69, Try.ntmps69
  go_wp2_with fail
  go_loopw [5] (fun i wr => ∃ n : Nat, n ≤ N ∧ i = .int .i64 n ∧ Hid (∀ k, k < n → fnS L k ≠ s) ∧ Kp w wr) (fun i _ => N - (intOf i).toNat)
  case atStart => exact ⟨0, by omega, rfl, Lib.hid (fun k hk => absurd hk (by omega)), Kp.refl _⟩
  case round =>
    obtain ⟨n, hn, rfl, HN, hkr⟩ := hrel
    by_cases hlt : n < N
    · obtain ⟨b, o, ha, hr⟩ := HT.out.at (by omega)
      have HA := Lib.hid ha
      have g0 : wr.cell? ⟨b, o + n, none⟩ = some (.string (fnS L n)) := hkr.cellv (by simpa using hr n hlt 0 _ rfl)
      clear ha hr
      rcases same_or (fnS L n) s with ⟨e, e1⟩ | ⟨e, e1⟩
      · have hv := Lib.hid (inB_at (L := L) (by rw [HLEN.out]; exact hlt) e)
        clear e
        go_wp2_with ((with_reducible show wpList _ _ _ (⟨some 14, _, _, _, _, _⟩ :: _) _ _); refine wpList_index_tab (d := 14) _ _ _ rfl 9 Try.underlying41 1 rfl _ _ _ _ o (by rfl) HA.out n (by rfl) hlt ?_)
        go_ret
        exact ⟨ret_boolA hv.out.symm, hkr⟩
      · have hv := Lib.hid e
        clear e
        go_wp2_with ((with_reducible show wpList _ _ _ (⟨some 14, _, _, _, _, _⟩ :: _) _ _); refine wpList_index_tab (d := 14) _ _ _ rfl 9 Try.underlying41 1 rfl _ _ _ _ o (by rfl) HA.out n (by rfl) hlt ?_)
        go_roundw
        case rel => exact ⟨n + 1, by omega, by go_num, Lib.hid (fun k hk => by
          by_cases hkn : k = n
          · rw [hkn]; exact hv.out
          · exact HN.out k (by omega)), hkr⟩
        case measure => simp [intOf]; omega
    · obtain rfl : n = N := by omega
      have hv := Lib.hid (inB_none (L := L) (s := s) (by rw [HLEN.out]; exact HN.out))
      go_wp2_with fail
      go_ret
      exact ⟨ret_boolA hv.out.symm, hkr⟩
set_option maxHeartbeats 1600000 in
set_option maxRecDepth 100000 in
theorem c_rWord (s : ByteArray) (w : World) : Calls Try.prog 56 #[.string s] w fun e w' => e = .returned (.bool (inB wordsL s)) ∧ Kp w w' := by
  have HT := Lib.hid (tab_lit w wordsL 9)
  go_enter Try.func56, Try.ntmps56
  go_wp2_with (first | (go_at_call 69; refine (c_in _ A0 (some ⟨w.heap.size, 0, none⟩) 18 18 wordsL s rfl HT.out (by decide)).mono ?_; rintro e w' ⟨rfl, hk⟩))
  go_ret
  exact ⟨rfl, ((Kp.refl w).alloc _).trans hk⟩
/-- A name that is no word of the language. -/
noncomputable def nameB (s : ByteArray) : Bool := nmB s && !inB wordsL s
theorem c_scanName (s : ByteArray) (w : World) (hs : s.size ≤ 140737488351232) : Calls Try.prog 67 #[.string s] w fun e w' => e = .returned (.bool (nameB s)) ∧ Kp w w' := by
  unfold nameB
  cases hn : nmB s with
  | false =>
    go_enter Try.func67, Try.ntmps67
    go_wp2_with (first | (go_at_call 70; (with_reducible refine (c_isName s _ hs).mono ?_); rintro e w' ⟨rfl, hk⟩; rw [hn]))
    go_ret
    exact ⟨rfl, hk⟩
  | true =>
    go_enter Try.func67, Try.ntmps67
    go_wp2_with (first | (go_at_call 70; (with_reducible refine (c_isName s _ hs).mono ?_); rintro e w' ⟨rfl, hk⟩; rw [hn]) | (go_at_call 71; (with_reducible refine (c_Word s _).mono ?_); rintro e w2 ⟨rfl, rfl⟩))
    go_ret
    exact ⟨by first | rfl | (simp; done), hk⟩
theorem c_rName (s : ByteArray) (w : World) (hs : s.size ≤ 140737488351232) : Calls Try.prog 45 #[.string s] w fun e w' => e = .returned (.bool (nameB s)) ∧ Kp w w' := by
  unfold nameB
  cases hn : nmB s with
  | false =>
    go_enter Try.func45, Try.ntmps45
    go_wp2_with (first | (go_at_call 55; (with_reducible refine (c_Name s _ hs).mono ?_); rintro e w' ⟨rfl, hk⟩; rw [hn]))
    go_ret
    exact ⟨rfl, hk⟩
  | true =>
    go_enter Try.func45, Try.ntmps45
    go_wp2_with (first | (go_at_call 55; (with_reducible refine (c_Name s _ hs).mono ?_); rintro e w' ⟨rfl, hk⟩; rw [hn]) | (go_at_call 56; (with_reducible refine (c_rWord s _).mono ?_); rintro e w2 ⟨rfl, hk2⟩))
    go_ret
    exact ⟨by first | rfl | (simp; done), hk.trans hk2⟩
end Go.Proofs.Ytgamenimbkafjaa
