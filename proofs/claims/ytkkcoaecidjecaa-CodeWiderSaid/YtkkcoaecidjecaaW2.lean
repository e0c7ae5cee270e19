/- What the program's writer does with lists and with the parts of a module. Condition: the writer lies in a block of its own, what is written elsewhere. -/
import Derived.Test.YtkkcoaecidjecaaW1
namespace Go.Proofs.Ytkkcoaecidjecaa
open Go.RowKit
set_option linter.unusedVariables false
set_option linter.unusedSimpArgs false
theorem itInts_next {l : List Int} {k : Nat} {x : Int} {o o2 o3 : Ou} (h : o2 = puts o (lenI l.length :: (l.take k).map intI)) (hx : l[k]? = some x) (h3 : o3 = puts o2 [.sm x 0]) : o3 = puts o (lenI l.length :: (l.take (k + 1)).map intI) := by
  rw [puts_step h h3, take_map intI l hx]
  rfl
set_option maxHeartbeats 1000000 in
set_option maxRecDepth 100000 in
theorem c_integers (p B n : Nat) (o : Ou) (l : List Int) (v : Value) (w : World) (h : WR w p B o) (hn : n ≤ p) (hl : IL w (Und n) l v) (hb : o.1.length + 10 * (itInts l).length ≤ 1099511627776) :
    Calls Try.prog 84 #[.pointer (some ⟨p, 0, none⟩), v] w (WP p B o (itInts l) w) := by
  obtain ⟨a, c, C, rfl, hlc, hby, hC, ht, hx⟩ := hl
  rw [show (itInts l).length = l.length + 1 by simp [itInts]] at hb
  have b0 : i64 (l.length : Int) := i64_len (by omega)
  have HT := Lib.hid ht
  have HX := Lib.hid hx
  have HW := Lib.hid h
  have HL := Lib.hid hlc
  have HY := Lib.hid hby
  clear ht hx h hC hlc hby
  go_enter Try.func84, Try.ntmps84
  go_wp2_with (go_at_call 59; (with_reducible refine (c_integer p B _ _ _ _ HW.out (by omega) (by decide) (by assumption)).mono ?_); rintro e w1 ⟨rfl, o1, ho1, hl1, h1, h2⟩; simp only [List.length_cons, List.length_nil] at hl1; have H1 := Lib.hid h1; have H2 := Lib.hid h2; clear h1 h2)
  go_loopw [12] (fun i wr => ∃ (k : Nat) (o2 : Ou), k ≤ l.length ∧ i = .int .i64 (k : Int) ∧ Hid (o2 = puts o (lenI l.length :: (l.take k).map intI)) ∧ o2.1.length ≤ o.1.length + 10 * (k + 1) ∧ WR wr p B o2 ∧ WF p w wr) (fun i _ => l.length - (intOf i).toNat)
  case atStart => exact ⟨0, o1, by omega, rfl, Lib.hid (by rw [ho1.out]; simp [lenI]), by omega, H1.out, H2.out⟩
  case round =>
    obtain ⟨k, o2, hk, rfl, ho2, hl2, h1, h2⟩ := hrel
    have HA := Lib.hid h1
    have HF := Lib.hid h2
    clear h1 h2
    by_cases hlt : k < l.length
    · obtain ⟨x, hxk⟩ : ∃ x, l[k]? = some x := ⟨_, List.getElem?_eq_getElem hlt⟩
      obtain ⟨hcx, hix⟩ := HX.out k x hxk
      obtain ⟨b, q, rfl, hr⟩ := (und_tab HT.out (HW.out.und_rows hn) HF.out).at (by omega)
      have c0 := hr k hlt 0 (.int .i64 x) (by rw [hcx]; rfl)
      simp only [Nat.add_zero, Nat.mul_one] at c0
      have HK := Lib.hid hxk
      clear hr hcx hxk
      go_wp2_with (first | ((with_reducible show wpList _ _ _ (⟨some 14, _, _, _, _, _⟩ :: _) _ _); refine wpList_index_tab (d := 14) _ _ _ rfl 3 Try.underlying33 1 rfl _ _ _ _ 0 (by rfl) rfl k (by rfl) hlt ?_) | (go_at_call 59; (with_reducible refine (c_integer p B _ _ _ _ HA.out (by omega) (by decide) (by assumption)).mono ?_); rintro e w2 ⟨rfl, o3, ho3, hl3, h1, h2⟩; simp only [List.length_cons, List.length_nil] at hl3; have H3 := Lib.hid h1; have H4 := Lib.hid h2; clear h1 h2))
      go_roundw
      case rel => exact ⟨k + 1, o3, by omega, by go_num, Lib.hid (itInts_next ho2.out HK.out ho3.out), by omega, H3.out, HF.out.trans H4.out⟩
      case measure => simp [intOf]; omega
    · go_wp2_with fail
      refine end_none (by rfl) (by rfl) (WP.of ?_ HA.out HF.out)
      rw [ho2.out, List.take_of_length_le (by omega)]
      rfl
end Go.Proofs.Ytkkcoaecidjecaa
