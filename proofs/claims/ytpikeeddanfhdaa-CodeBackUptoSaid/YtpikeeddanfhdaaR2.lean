/- What the reference's writer does with a number within bounds, and with a list. Condition: the writer lies in a block of its own. -/
import Derived.Test.YtpikeeddanfhdaaR1
import Derived.Test.YtpikeeddanfhdaaS0
namespace Go.Proofs.Ytpikeeddanfhdaa
open Go.RowKit
set_option linter.unusedVariables false
set_option linter.unusedSimpArgs false
theorem c_rnumI (p B : Nat) (o : Ou) (x : Int) (n : Nat) (w : World) (h : RW w p B o) (hb : o.1.length + 10 ≤ 1099511627776) (hn : n < 18446744073709551616) (hx : x = (n : Int)) :
    Calls Try.prog 45 #[.pointer (some ⟨p, 0, none⟩), .int .u64 x] w (WQ p B o [.nu n] w) := by
  subst hx
  exact c_rnum p B o n w h hb hn
theorem RW.bad {w : World} {p B : Nat} {o : Ou} (h : RW w p B o) : RW (w.setCell ⟨p, 1, none⟩ (.bool true)) p B (o.1, true) ∧ WF p w (w.setCell ⟨p, 1, none⟩ (.bool true)) := by
  obtain ⟨h0, hB, v, hp, ho⟩ := h
  have h2 := heap_setCell_same w p 1 _ _ (.bool true) hp
  refine ⟨⟨h0, by simpa using hB, v, by simpa using h2, ?_⟩, ⟨rfl, rfl, rfl, by simp, fun k hk hkp hr => Below.heap_setCell _ _ _ _ hkp, fun k hk => ?_⟩⟩
  · exact own_fr ho (fun k hk => Below.heap_setCell _ _ _ _ (by have := (ho.lt k hk).1; simp; omega))
  · have := (rowAt_of h2 (show _ = some v by simp)).1 hk
    exact .inl ((rowAt_of hp rfl).2 this)
theorem rbad_sm {o o1 : Ou} {n least : Int} (h : badN n least = true) (h1 : o1 = putsR (o.1, true) [.nu 0]) : o1 = putsR o [.sm n least] := by
  rw [h1]
  show putR (o.1, true) (.nu 0) = putR o (.sm n least)
  rw [putR, putR, if_pos h]
theorem rgood_sm {o : Ou} {n least : Int} (h : badN n least = false) : putsR o [.nu (n - least).toNat] = putsR o [.sm n least] := by
  show putR o (.nu _) = putR o (.sm n least)
  rw [putR, putR, if_neg (by rw [h]; simp)]
set_option maxHeartbeats 1000000 in
set_option maxRecDepth 100000 in
theorem c_small (p B : Nat) (o : Ou) (n least : Int) (w : World) (h : RW w p B o) (hb : o.1.length + 10 ≤ 1099511627776) (hl : -1 ≤ least ∧ least ≤ 0) (hn : i64 n) :
    Calls Try.prog 27 #[.pointer (some ⟨p, 0, none⟩), .int .i64 n, .int .i64 least] w (WQ p B o [.sm n least] w) := by
  have HW := Lib.hid h
  have HX := Lib.hid h.bad
  obtain ⟨_, _, v, hp, hown⟩ := h
  have hpl := row_lt hp
  obtain ⟨g0, g1⟩ := row2 hp
  have hfp := frozen_of_row w p 1 _ _ hp
  obtain ⟨hl0, hl1⟩ := hl
  obtain ⟨hn0, hn1⟩ := hn
  clear hp hown
  cases hbad : badN n least with
  | true =>
    have HB := Lib.hid hbad
    unfold badN at hbad
    by_cases h1 : n < least
    · clear hbad
      go_enter Try.func27, Try.ntmps27
      go_wp2_with (go_at_call 45; (with_reducible refine (c_rnumI p B (o.1, true) _ 0 _ HX.out.1 hb (by omega) (by first | rfl | omega)).mono ?_); rintro e w1 ⟨rfl, o1, ho, hl1, h1, h2⟩; have H1 := Lib.hid h1; have H2 := Lib.hid h2; clear h1 h2)
      exact end_none (by rfl) (by rfl) (WQ.of (rbad_sm HB.out ho.out) H1.out (HX.out.2.trans H2.out))
    · have h2 : 2147483647 < n := by simpa [h1] using hbad
      clear hbad
      go_enter Try.func27, Try.ntmps27
      go_wp2_with (go_at_call 45; (with_reducible refine (c_rnumI p B (o.1, true) _ 0 _ HX.out.1 hb (by omega) (by first | rfl | omega)).mono ?_); rintro e w1 ⟨rfl, o1, ho, hl1, h1, h2⟩; have H1 := Lib.hid h1; have H2 := Lib.hid h2; clear h1 h2)
      exact end_none (by rfl) (by rfl) (WQ.of (rbad_sm HB.out ho.out) H1.out (HX.out.2.trans H2.out))
  | false =>
    have HB := Lib.hid hbad
    unfold badN at hbad
    have h1 : ¬ n < least := by simp at hbad; omega
    have h2 : ¬ 2147483647 < n := by simp at hbad; omega
    clear hbad
    go_enter Try.func27, Try.ntmps27
    go_wp2_with (go_at_call 45; (with_reducible refine (c_rnumI p B o _ (n - least).toNat _ HW.out hb (by omega) (by omega)).mono ?_); rintro e w1 ⟨rfl, o1, ho, hl1, h1, h2⟩; have H1 := Lib.hid h1; have H2 := Lib.hid h2; clear h1 h2)
    exact end_none (by rfl) (by rfl) (WQ.of (ho.out.trans (rgood_sm HB.out)) H1.out H2.out)
theorem RW.far_und {w : World} {p B n b : Nat} {o : Ou} (h : RW w p B o) (hn : n ≤ p) (hb : b < n) (hl : b < w.heap.size) : Far w p b := ⟨hl, by omega, fun e => by have := (h.rows e).1; have := h.1; omega⟩
theorem itInts_nextR {l : List Int} {k : Nat} {x : Int} {o o2 o3 : Ou} (h : o2 = putsR o (lenI l.length :: (l.take k).map intI)) (hx : l[k]? = some x) (h3 : o3 = putsR o2 [.sm x 0]) : o3 = putsR o (lenI l.length :: (l.take (k + 1)).map intI) := by
  rw [putsR_step h h3, take_map intI l hx]
  rfl
set_option maxHeartbeats 1000000 in
set_option maxRecDepth 100000 in
theorem c_rints (p B n : Nat) (o : Ou) (l : List Int) (v : Value) (w : World) (h : RW w p B o) (hn : n ≤ p) (hl : IL w (Und n) l v) (hb : o.1.length + 10 * (itInts l).length ≤ 1099511627776) :
    Calls Try.prog 28 #[.pointer (some ⟨p, 0, none⟩), v] w (WQ p B o (itInts l) w) := by
  obtain ⟨a, c, C, rfl, hlc, hby, hC, ht, hx⟩ := hl
  rw [show (itInts l).length = l.length + 1 by simp [itInts]] at hb
  have b0 : i64 (l.length : Int) := i64_len (by omega)
  have HT := Lib.hid ht
  have HX := Lib.hid hx
  have HW := Lib.hid h
  have HL := Lib.hid hlc
  have HY := Lib.hid hby
  clear ht hx h hC hlc hby
  go_enter Try.func28, Try.ntmps28
  go_wp2_with (go_at_call 27; (with_reducible refine (c_small p B _ _ _ _ HW.out (by omega) (by decide) (by assumption)).mono ?_); rintro e w1 ⟨rfl, o1, ho1, hl1, h1, h2⟩; simp only [List.length_cons, List.length_nil] at hl1; have H1 := Lib.hid h1; have H2 := Lib.hid h2; clear h1 h2)
  go_loopw [4] (fun i wr => ∃ (k : Nat) (o2 : Ou), k ≤ l.length ∧ i = .int .i64 (k : Int) ∧ Hid (o2 = putsR o (lenI l.length :: (l.take k).map intI)) ∧ o2.1.length ≤ o.1.length + 10 * (k + 1) ∧ RW wr p B o2 ∧ WF p w wr) (fun i _ => l.length - (intOf i).toNat)
  case atStart => exact ⟨0, o1, by omega, rfl, Lib.hid (by rw [ho1.out]; simp [lenI]), by omega, H1.out, H2.out⟩
  case round =>
    obtain ⟨k, o2, hk, rfl, ho2, hl2, h1, h2⟩ := hrel
    have HA := Lib.hid h1
    have HF := Lib.hid h2
    clear h1 h2
    by_cases hlt : k < l.length
    · obtain ⟨x, hxk⟩ : ∃ x, l[k]? = some x := ⟨_, List.getElem?_eq_getElem hlt⟩
      obtain ⟨hcx, hix⟩ := HX.out k x hxk
      obtain ⟨b, q, rfl, hr⟩ := (und_tab HT.out (HW.out.und_rows hn) HF.out).at (by omega)
      have c0 := hr k hlt 0 (.int .i64 x) (by rw [hcx]; rfl)
      simp only [Nat.add_zero, Nat.mul_one] at c0
      have HK := Lib.hid hxk
      clear hr hcx hxk
      go_wp2_with (first | ((with_reducible show wpList _ _ _ (⟨some 18, _, _, _, _, _⟩ :: _) _ _); refine wpList_index_tab (d := 18) _ _ _ rfl 3 Try.underlying33 1 rfl _ _ _ _ q (by rfl) rfl k (by rfl) hlt ?_) | (go_at_call 27; (with_reducible refine (c_small p B _ _ _ _ HA.out (by omega) (by decide) (by assumption)).mono ?_); rintro e w2 ⟨rfl, o3, ho3, hl3, h1, h2⟩; simp only [List.length_cons, List.length_nil] at hl3; have H3 := Lib.hid h1; have H4 := Lib.hid h2; clear h1 h2))
      go_roundw
      case rel => exact ⟨k + 1, o3, by omega, by go_num, Lib.hid (itInts_nextR ho2.out HK.out ho3.out), by omega, H3.out, HF.out.trans H4.out⟩
      case measure => simp [intOf]; omega
    · go_wp2_with fail
      refine end_none (by rfl) (by rfl) (WQ.of ?_ HA.out HF.out)
      rw [ho2.out, List.take_of_length_le (by omega)]
      rfl
end Go.Proofs.Ytpikeeddanfhdaa
