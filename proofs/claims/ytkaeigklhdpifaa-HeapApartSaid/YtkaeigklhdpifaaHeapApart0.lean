/- The walk of HeapApart. Condition: the arguments lie in memory. -/
import Derived.Test.YtkaeigklhdpifaaB3
import Derived.Test.YtkaeigklhdpifaaAD
namespace Go.Proofs.Ytkaeigklhdpifaa
open Go.RowKit Go.Maps Go.Sort
set_option linter.unusedVariables false
set_option linter.unusedSimpArgs false
/-- A heap of its own, made from world w0 on. -/
structure Cp (w0 w : World) (p bud : Nat) (S : Hs) (N : Nat → Prop) : Prop where
  hp : HP w N p bud S
  ok : Ok S bud
  kp : Kp w0 w
  n0 : ∀ k, N k → w0.heap.size ≤ k
theorem Cp.keep {w0 w w' : World} {p bud : Nat} {S : Hs} {N : Nat → Prop} (h : Cp w0 w p bud S N) (k : Kp w w') : Cp w0 w' p bud S N := ⟨h.hp.keep k, h.ok, h.kp.trans k, h.n0⟩
theorem Cp.alloc {w0 w W w' : World} {p bud : Nat} {S : Hs} {N N' : Nat → Prop} {refs : List Bool} {roots : List Int} (h : Cp w0 w p bud S N) (kw : Kp w W) (g1 : HP w' N' p bud (allocP bud S refs roots).1) (g2 : Tr N W w') (g3 : ∀ k, N' k → N k ∨ W.heap.size ≤ k) : Cp w0 w' p bud (allocP bud S refs roots).1 N' :=
  ⟨g1, h.ok.allocP _ _, g2.old (h.kp.trans kw) h.n0, fun k hk => (g3 k hk).elim (h.n0 k) (fun e => by have := h.kp.sz; have := kw.sz; omega)⟩
theorem Cp.turn {w0 w w' : World} {p bud : Nat} {S S' : Hs} {N : Nat → Prop} (h : Cp w0 w p bud S N) (g1 : HP w' N p bud S') (ok : Ok S' bud) (g2 : Tr N w w') : Cp w0 w' p bud S' N := ⟨g1, ok, g2.old h.kp h.n0, h.n0⟩
theorem apart_cut {w0 w W w' : World} {p bud : Nat} {S : Hs} {N N' : Nat → Prop} {refs : List Bool} {roots : List Int} (h : Cp w0 w p bud S N) (kw : Kp w W) (g1 : HP w' N' p bud (allocP bud S refs roots).1) (g2 : Tr N W w') (g3 : ∀ k, N' k → N k ∨ W.heap.size ≤ k) : ∃ S' N', Cp w0 w' p bud S' N' := ⟨_, _, h.alloc kw g1 g2 g3⟩
set_option maxHeartbeats 4000000 in
set_option maxRecDepth 100000 in
theorem law_HeapApart (cells : Int) (l : List Ac) (v : Value) (m : List Ac) (u : Value) (w : World) (hc : i64 cells) (hl : AL w A0 l v) (hm : AL w A0 m u) :
    Calls Try.prog 7 #[.int .i64 cells, v, u] w fun e w' => e = .returned (.bool true) ∧ Kp w w' := by
  obtain ⟨a, c, rfl, hll⟩ := hl.shape (by decide)
  obtain ⟨am, cm, rfl, hlm⟩ := hm.shape (by decide)
  obtain ⟨iB, hIB, hB0, hB1, hB2⟩ := info_parts infoBo
  have HL := Lib.hid hl
  have HM := Lib.hid (RL.below goodA hm (Nat.le_refl _))
  have HC := Lib.hid hc
  clear hl hm hc
  go_enter Try.func7, Try.ntmps7
  go_upto_region 5 with (first
    | (go_at_call 16; (with_reducible refine (c_grown cells l _ w HL.out HC.out).mono ?_); rintro e w1 ⟨p, q, bud, S, N, M, rfl, hg⟩; have G1 := Lib.hid hg; clear hg)
    | (go_at_call 12; (with_reducible refine (c_answers w1).mono ?_); rintro e w2 ⟨rfl, hk⟩; have G := Lib.hid (G1.out.keep hk); clear hk)
    | (go_at_call 13; (with_reducible refine (c_Copy w2 G.out.bo.hp G.out.bo.ok).mono ?_); rintro e w3 ⟨p3, N3, rfl, g1, g2, g3⟩; have C3 := Lib.hid (Cp.mk g1 G.out.bo.ok g3 g2); clear g1 g2 g3))
  go_wp2_with fail
  go_loopw [10] (fun i wr => ∃ (j : Nat) (S' : Hs) (N' : Nat → Prop), j ≤ m.length ∧ i = .int .i64 (j : Int) ∧ Cp w2 wr p3 bud S' N') (fun i _ => m.length - (intOf i).toNat)
  case atStart => exact ⟨0, _, _, by omega, rfl, C3.out⟩
  case round =>
    obtain ⟨j, S4, N4, hj, rfl, hcp⟩ := hrel
    have C4 := Lib.hid hcp
    by_cases hlt : j < m.length
    · obtain ⟨x, hx⟩ : ∃ x, m[j]? = some x := ⟨_, List.getElem?_eq_getElem hlt⟩
      obtain ⟨b, z, cs, rfl, hrw, vr, vl, rfl, hok, hbo, hil⟩ := RL.el HM.out hx
      obtain ⟨ar, cr, _, rfl, _⟩ := id hbo
      obtain ⟨al, cl, rfl⟩ := hil.sl
      have HRW := Lib.hid hrw
      have HO := Lib.hid hok
      have HIW := Lib.hid hil
      have hr := (G.out.kp.trans hcp.kp).range hrw
      have HR := Lib.hid hr
      have HBo := Lib.hid (hbo.keep goodBo (G.out.kp.trans hcp.kp))
      have HIl := Lib.hid (hil.keep goodI (G.out.kp.trans hcp.kp))
      obtain ⟨e0, e1, e2, e3, e4, e5⟩ := range6 hr
      have eb := lt_of_cell e0
      clear hr hrw hok hbo hil hcp hx
      go_upto_region 8 with fail
      go_cut [] (fun wx => ∃ S' N', Cp w2 wx p3 bud S' N')
      case first =>
        have CA := Lib.hid (fun (W : World) (ur ul : Value) (kw : Kp wr W) (hb : BoL W (From wr.heap.size) x.refs ur) (il : IL W A0 x.roots ul) => c_Alloc x.refs ur (From wr.heap.size) x.roots ul A0 W (HP.keep C4.out.hp kw) C4.out.ok hb (selF C4.out.hp) il)
        go_region_law? (first | (refine step_append_copy flatBo (by rfl) _ _ 32 (by rfl) 4 iB _ 1 1 Try.underlying32 hIB hB0 hB1 hB2 rfl (by decide) (by decide) _ (by rfl) wr _ x.refs _ (by rfl) HBo.out ?_ ?_ ?_ ?_; (focus (repeat first | with_reducible exact Kp.refl _ | (with_reducible refine Kp.drew ?_) | (with_reducible refine Kp.alloc ?_ _) | with_reducible exact K7.out | with_reducible exact KI.out)); (focus (first | omega | (simp; done) | (simp; omega))); (focus ((repeat first | (with_reducible refine at_drew ?_) | (refine heap_at ?_; first | rfl | (simp; done) | omega) | (with_reducible refine at_alloc ?_) | (refine row_keep KI2.out ?_)); done)); intro a7 c7 w7 hr7 hg7 hk7; have R7 := Lib.hid hr7; have G7 := Lib.hid hg7; have K7 := Lib.hid hk7; have z7 := hk7.sz; obtain ⟨d0, d1, d2, d3, d4, d5⟩ := range6 (hk7.range HR.out); have db := lt_of_cell d0; clear hr7 hg7 hk7) | (go_simp; go_at_call 19; refine (c_ints x.roots _ _ _ (RL.keep goodI HIl.out ?_)).mono ?_; (focus (repeat first | with_reducible exact Kp.refl _ | (with_reducible refine Kp.drew ?_) | (with_reducible refine Kp.alloc ?_ _) | with_reducible exact K7.out)); rintro e w2 ⟨u2, rfl, g1, g2⟩; obtain ⟨au, cu, rfl⟩ := g1.sl; have I1 := Lib.hid g1; have KI2 := Lib.hid g2; have zi := g2.sz; clear g1 g2) | (go_simp; go_at_call 18; (refine (CA.out _ _ _ ?_ ?_ ?_).mono ?_); (focus (repeat first | with_reducible exact K7.out | with_reducible exact Kp.refl _ | (with_reducible refine Kp.back KI2.out ?_) | (with_reducible refine Kp.drew ?_) | (with_reducible refine Kp.alloc ?_ _))); (focus (first | with_reducible exact R7.out | with_reducible exact RL.keep goodBo R7.out KI2.out)); (focus (first | with_reducible exact RL.weak goodI I1.out (A0_le _) | (refine RL.weak goodI (RL.turn goodI (RL.keep goodI I1.out ?_) (grown_fr G7.out) G7.out.size ?_) (A0_le _); (focus (repeat first | with_reducible exact Kp.refl _ | (with_reducible refine Kp.drew ?_) | (with_reducible refine Kp.alloc ?_ _))); intro b hb hS e; cases e; have hS2 : _ ≤ _ := hS; omega))); rintro e w3 ⟨rfl, N', g1, g2, g3⟩; have A1 := Lib.hid g1; have A2 := Lib.hid g2; have A3 := Lib.hid g3; clear g1 g2 g3))
        all_goals
          go_wp2_with fail
          go_meet
          refine apart_cut C4.out ?_ A1.out A2.out A3.out
          first
            | with_reducible exact K7.out
            | (repeat first | with_reducible exact K7.out | (with_reducible refine Kp.back KI2.out ?_) | with_reducible exact Kp.refl _ | (with_reducible refine Kp.drew ?_) | (with_reducible refine Kp.alloc ?_ _))
      case rest =>
        obtain ⟨S5, N5, hc5⟩ := hcut
        have C5 := Lib.hid hc5
        clear e0 e1 e2 e3 e4 e5 eb
        obtain ⟨e0, e1, e2, e3, e4, e5⟩ := range6 ((G.out.kp.trans hc5.kp).range HRW.out)
        have eb := lt_of_cell e0
        clear hc5
        go_upto_region 9 with fail
        go_region_held3 (fun w' : World => w'.cell? ⟨b, z + j * 6 + 1, none⟩ = some (.int .i64 x.o) ∧ w'.cell? ⟨b, z + j * 6 + 2, none⟩ = some (.int .i64 x.i) ∧ w'.cell? ⟨b, z + j * 6 + 3, none⟩ = some (.int .u64 x.n)) (first | exact ⟨e1, e2, e3⟩ | exact ⟨d1, d2, d3⟩) (first | (go_at_call 28; (with_reducible refine (c_Set x.o x.i x.n wc.drew (C5.out.hp.keep (Kp.refl wc).drew) C5.out.ok HO.out.o HO.out.i HO.out.n).mono ?_); rintro e w7 ⟨rfl, g1, g2⟩; have C7 := Lib.hid ((C5.out.keep (Kp.refl wc).drew).turn g1 (C5.out.ok.putP _ _ HO.out.n) g2); obtain ⟨d0, d1, d2, d3, d4, d5⟩ := range6 ((G.out.kp.trans C7.out.kp).range HRW.out); have db := lt_of_cell d0; clear g1 g2))
        go_wp2_with (first
          | (go_at_call 19; (with_reducible refine (c_ints x.roots _ _ w7 (HIW.out.keep goodI (G.out.kp.trans C7.out.kp))).mono ?_); rintro e w8 ⟨u2, rfl, g1, g2⟩; obtain ⟨au, cu, rfl⟩ := g1.sl; have I8 := Lib.hid g1; have C8 := Lib.hid (C7.out.keep g2); clear g1 g2)
          | (go_at_call 23; (with_reducible refine (c_Collect x.roots _ _ w8 C8.out.hp C8.out.ok I8.out).mono ?_); rintro e w9 ⟨rfl, g1, g2⟩; have C9 := Lib.hid (C8.out.turn g1 (C8.out.ok.colP _) g2); clear g1 g2))
        go_roundw
        case rel => exact ⟨j + 1, _, _, by omega, by go_num, C9.out⟩
        case measure => simp [intOf]; omega
    · clear hcp
      go_wp2_with (first | (go_at_call 15; (with_reducible refine (c_alike wr (G.out.bo.keep C4.out.kp)).mono ?_); rintro e w6 ⟨rfl, g1⟩; have K6 := Lib.hid g1; clear g1))
      go_ret
      exact ⟨rfl, (G.out.kp.trans C4.out.kp).trans K6.out⟩
end Go.Proofs.Ytkaeigklhdpifaa
