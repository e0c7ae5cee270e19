/- The walk of HeapActs. Condition: the arguments lie in memory. -/
import Derived.Test.YtkaeigklhdpifaaB3
import Derived.Test.YtkaeigklhdpifaaAD
namespace Go.Proofs.Ytkaeigklhdpifaa
open Go.RowKit Go.Maps Go.Sort
set_option linter.unusedVariables false
set_option linter.unusedSimpArgs false
theorem actP_six {bud : Nat} {S : Hs} {x : Ac} (h : x.k = 6) : actP bud S x = S := by
  unfold actP
  rw [if_neg (by omega), if_neg (by omega), if_pos (by omega)]
theorem Gr.copy {w0 w w' : World} {p q p' bud : Nat} {S : Hs} {N M N' : Nat → Prop} (h : Gr w0 w p q bud S N M) (h1 : HP w' N' p' bud S) (h2 : ∀ k, N' k → w.heap.size ≤ k) (k : Kp w w') : Gr w0 w' p' q bud S N' M :=
  ⟨⟨h1, h.bo.rp.keep k, fun j hn hm => by have := h2 j hn; have := h.bo.rp.lt j hm; omega, h.bo.ok⟩, h.kp.trans k, fun j hj => by have := h2 j hj; have := h.kp.sz; omega, h.m0⟩
set_option maxHeartbeats 4000000 in
set_option maxRecDepth 100000 in
theorem law_HeapActs (cells : Int) (l : List Ac) (v : Value) (w : World) (hc : i64 cells) (hl : AL w A0 l v) :
    Calls Try.prog 3 #[.int .i64 cells, v] w fun e w' => e = .returned (.bool true) ∧ Kp w w' := by
  obtain ⟨a, c, rfl, hll⟩ := hl.shape (by decide)
  have HL := Lib.hid (RL.below goodA hl (Nat.le_refl _))
  clear hl
  go_enter Try.func3, Try.ntmps3
  by_cases hbad : cells < 0 ∨ 65536 < cells
  · have HBad := Lib.hid hbad
    clear hbad
    go_wp2_with (first
      | (go_at_call 10; (with_reducible refine (c_NewBad cells w HBad.out).mono ?_); rintro e w' ⟨rfl, hw'⟩; rw [hw']; clear hw' w')
      | (go_at_call 11; (with_reducible refine (c_MakeBad cells w HBad.out).mono ?_); rintro e w' ⟨rfl, hw'⟩; rw [hw']; clear hw' w')
      | (go_at_call 12; (with_reducible refine (c_answers w).mono ?_); rintro e w2 ⟨rfl, hk⟩; have K2 := Lib.hid hk; clear hk))
    go_loopw [5, 9] (fun ph i wr => ph = .pointer none ∧ i = .int .i64 (0 : Int) ∧ wr = w2) (fun _ i _ => 0)
    case atStart => exact ⟨rfl, rfl, rfl⟩
    case round =>
      obtain ⟨rfl, rfl, hw⟩ := hrel
      subst hw
      by_cases hz : (0 : Int) < (l.length : Int)
      · go_wp2_with fail
        go_ret
        exact ⟨rfl, K2.out⟩
      · go_wp2_with fail
        go_ret
        exact ⟨rfl, K2.out⟩
  · have h0 : 0 ≤ cells := by omega
    have h1 : cells ≤ 65536 := by omega
    have hn : cells.toNat ≤ 65536 := by omega
    have HN := Lib.hid hn
    clear hbad hn
    go_upto_region 5 with (first
      | (go_at_call 10; (with_reducible refine (c_New cells w h0 h1).mono ?_); rintro e w1 ⟨p, N, rfl, h1, h2, h3⟩; have H1 : Hid (HP w1 N p _ []) := Lib.hid h1; have H2 := Lib.hid h2; have H3 := Lib.hid h3; clear h1 h2 h3)
      | (go_at_call 11; (with_reducible refine (c_Make cells w1 h0 h1).mono ?_); rintro e w2 ⟨q, M, rfl, h1, h2, h3⟩; have R1 : Hid (RP w2 M q _ []) := Lib.hid h1; have R2 := Lib.hid h2; have R3 := Lib.hid h3; clear h1 h2 h3)
      | (go_at_call 12; (with_reducible refine (c_answers w2).mono ?_); rintro e w3 ⟨rfl, hk⟩; have K3 := Lib.hid hk; clear hk))
    have hz1 := H3.out.sz
    have hgr : Gr w w3 p q cells.toNat [] N M := Gr.keep ⟨⟨H1.out.keep R3.out, R1.out, fun k hn hm => by have := H1.out.lt k hn; have := R2.out k hm; omega, Ok.nil HN.out⟩, H3.out.trans R3.out, H2.out, fun k hk => by have := R2.out k hk; omega⟩ K3.out
    have HG := Lib.hid hgr
    clear hgr hz1
    go_wp2_with fail
    go_loopw [5, 9] (fun ph i wr => ∃ (j p : Nat) (S : Hs) (N M : Nat → Prop), j ≤ l.length ∧ i = .int .i64 (j : Int) ∧ ph = .pointer (some ⟨p, 0, none⟩) ∧ Gr w wr p q cells.toNat S N M) (fun _ i _ => l.length - (intOf i).toNat)
    case atStart => exact ⟨0, p, [], N, M, by omega, rfl, rfl, HG.out⟩
    case round =>
      obtain ⟨j, p2, S, N2, M2, hj, rfl, rfl, hgr⟩ := hrel
      have HG2 := Lib.hid hgr
      by_cases hlt : j < l.length
      · obtain ⟨x, hx⟩ : ∃ x, l[j]? = some x := ⟨_, List.getElem?_eq_getElem hlt⟩
        obtain ⟨b, z, cs, rfl, hr, vr, vl, rfl, hok, hbo, hil⟩ := RL.el (HL.out.keep goodA hgr.kp) hx
        have HR := Lib.hid hr
        have HO := Lib.hid hok
        have HBo := Lib.hid hbo
        have HIl := Lib.hid hil
        obtain ⟨e0, e1, e2, e3, e4, e5⟩ := range6 hr
        have eb := lt_of_cell e0
        clear hr hok hbo hil hgr hx
        by_cases h6 : x.k = 6
        · have b6 : (x.k == 6) = true := by simpa using h6
          clear h6
          go_wp2_with (first
            | (go_at_call 13; (with_reducible refine (c_Copy wr HG2.out.bo.hp HG2.out.bo.ok).mono ?_); rintro e w4 ⟨p4, N4, rfl, g1, g2, g3⟩; have G4 := Lib.hid (HG2.out.copy g1 g2 g3); have K4 := Lib.hid g3; have e0 := g3.cellv e0; have e1 := g3.cellv e1; have e2 := g3.cellv e2; have e3 := g3.cellv e3; have e4 := g3.cellv e4; have e5 := g3.cellv e5; have eb := Nat.lt_of_lt_of_le eb g3.sz; clear g1 g2 g3)
            | (go_at_call 14; (with_reducible refine (c_act x vr vl _ w4 G4.out.bo HO.out (HBo.out.keep goodBo K4.out) (HIl.out.keep goodI K4.out) G4.out.apart).mono ?_); rintro e w5 ⟨rfl, g1⟩; obtain ⟨N5, M5, g2, g3, g4, g5⟩ := g1.next G4.out.kp G4.out.n0 G4.out.m0; have G5 := Lib.hid (Gr.mk g2 g3 g4 g5); clear g1 g2 g3 g4 g5)
            | (go_at_call 15; (with_reducible refine (c_alike w5 G5.out.bo).mono ?_); rintro e w6 ⟨rfl, g1⟩; have G6 := Lib.hid (G5.out.keep g1); clear g1))
          go_roundw
          case rel => exact ⟨j + 1, p4, _, N5, M5, by omega, by go_num, rfl, G6.out⟩
          case measure => simp [intOf]; omega
        · have b6 : (x.k == 6) = false := by simpa using h6
          clear h6
          go_wp2_with (first
            | (go_at_call 14; (with_reducible refine (c_act x vr vl _ wr HG2.out.bo HO.out HBo.out HIl.out HG2.out.apart).mono ?_); rintro e w5 ⟨rfl, g1⟩; obtain ⟨N5, M5, g2, g3, g4, g5⟩ := g1.next HG2.out.kp HG2.out.n0 HG2.out.m0; have G5 := Lib.hid (Gr.mk g2 g3 g4 g5); clear g1 g2 g3 g4 g5)
            | (go_at_call 15; (with_reducible refine (c_alike w5 G5.out.bo).mono ?_); rintro e w6 ⟨rfl, g1⟩; have G6 := Lib.hid (G5.out.keep g1); clear g1))
          go_roundw
          case rel => exact ⟨j + 1, p2, _, N5, M5, by omega, by go_num, rfl, G6.out⟩
          case measure => simp [intOf]; omega
      · clear hgr
        go_wp2_with fail
        go_ret
        exact ⟨rfl, HG2.out.kp⟩
end Go.Proofs.Ytkaeigklhdpifaa
