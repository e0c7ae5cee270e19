/- A heap and its list, on which calls were done. Condition: the calls lie in memory. -/
import Derived.Test.YtkaeigklhdpifaaB1
namespace Go.Proofs.Ytkaeigklhdpifaa
open Go.RowKit Go.Maps Go.Sort
set_option linter.unusedVariables false
set_option linter.unusedSimpArgs false
theorem RL.el {α : Type} {e : TypeId} {m by_ : Nat} {L : Ly α} {w : World} {B : Sel} {l : List α} {a : Option Addr} {n c : Nat} (h : RL e m by_ L w B l (.slice a n c)) {k : Nat} {x : α} (hk : l[k]? = some x) : ∃ b q cs, a = some ⟨b, q, none⟩ ∧ w.rangeAt b (q + k * m) cs ∧ L w B x cs := by
  obtain ⟨ad, c', C, hv, hlc, hby, hC, htab, hx⟩ := h
  cases hv
  have hl := (List.getElem?_eq_some_iff.1 hk).1
  obtain ⟨b, o, ha, hr⟩ := htab.at (by omega)
  exact ⟨b, o, C k, ha, hr k hl, hx k x hk⟩
theorem range6 {w : World} {b o : Nat} {x0 x1 x2 x3 x4 x5 : Value} (h : w.rangeAt b o [x0, x1, x2, x3, x4, x5]) : w.cell? ⟨b, o, none⟩ = some x0 ∧ w.cell? ⟨b, o + 1, none⟩ = some x1 ∧ w.cell? ⟨b, o + 2, none⟩ = some x2 ∧ w.cell? ⟨b, o + 3, none⟩ = some x3 ∧ w.cell? ⟨b, o + 4, none⟩ = some x4 ∧ w.cell? ⟨b, o + 5, none⟩ = some x5 := ⟨h 0 _ rfl, h 1 _ rfl, h 2 _ rfl, h 3 _ rfl, h 4 _ rfl, h 5 _ rfl⟩
theorem RL.shape {α : Type} {e : TypeId} {m by_ : Nat} {L : Ly α} {w : World} {B : Sel} {l : List α} {v : Value} (h : RL e m by_ L w B l v) (hb : 1 ≤ by_) : ∃ a c, v = .slice a l.length c ∧ l.length ≤ 140737488351232 := by
  obtain ⟨ad, c', C, hv, _, h2, _⟩ := h
  have : l.length * 1 ≤ l.length * by_ := Nat.mul_le_mul_left _ hb
  exact ⟨ad, c', hv, by omega⟩
theorem AfterB.next {w0 w w' : World} {N M : Nat → Prop} {p q bud : Nat} {S : Hs} (h : AfterB w w' N M p q bud S) (k : Kp w0 w) (hN : ∀ k, N k → w0.heap.size ≤ k) (hM : ∀ k, M k → w0.heap.size ≤ k) : ∃ N' M', Bo w' N' p M' q bud S ∧ Kp w0 w' ∧ (∀ k, N' k → w0.heap.size ≤ k) ∧ ∀ k, M' k → w0.heap.size ≤ k := by
  obtain ⟨N', M', h1, h2, h3, h4⟩ := h
  have z := k.sz
  refine ⟨N', M', h1, h2.old k (fun j hj => hj.elim (hN j) (hM j)), fun j hj => ?_, fun j hj => ?_⟩
  · rcases h3 j hj with e | e
    · exact hN j e
    · omega
  · rcases h4 j hj with e | e
    · exact hM j e
    · omega
/-- Both heaps are made here, from world w0 on. -/
structure Gr (w0 w : World) (p q bud : Nat) (S : Hs) (N M : Nat → Prop) : Prop where
  bo : Bo w N p M q bud S
  kp : Kp w0 w
  n0 : ∀ k, N k → w0.heap.size ≤ k
  m0 : ∀ k, M k → w0.heap.size ≤ k
theorem Gr.keep {w0 w w' : World} {p q bud : Nat} {S : Hs} {N M : Nat → Prop} (h : Gr w0 w p q bud S N M) (k : Kp w w') : Gr w0 w' p q bud S N M := ⟨h.bo.keep k, h.kp.trans k, h.n0, h.m0⟩
theorem Gr.apart {w0 w : World} {p q bud : Nat} {S : Hs} {N M : Nat → Prop} (h : Gr w0 w p q bud S N M) {B : Sel} : ∀ b, (⟨B.fresh, fun b => B.S b ∧ b < w0.heap.size⟩ : Sel).S b → ¬ N b ∧ ¬ M b := fun b hb => ⟨fun hn => by have := h.n0 b hn; have := hb.2; omega, fun hn => by have := h.m0 b hn; have := hb.2; omega⟩
set_option maxHeartbeats 4000000 in
set_option maxRecDepth 100000 in
theorem c_grown (cells : Int) (l : List Ac) (v : Value) (w : World) (hl : AL w A0 l v) (hc0 : i64 cells) :
    Calls Try.prog 16 #[.int .i64 cells, v] w fun e w' => ∃ p q bud S N M, e = .returned (.tuple #[.pointer (some ⟨p, 0, none⟩), .pointer (some ⟨q, 0, none⟩)]) ∧ Gr w w' p q bud S N M := by
  obtain ⟨a, c, rfl, hll⟩ := hl.shape (by decide)
  have HL := Lib.hid (RL.below goodA hl (Nat.le_refl _))
  clear hl
  go_enter Try.func16, Try.ntmps16
  by_cases h0 : cells < 0
  rotate_left
  by_cases h1 : 65536 < cells
  all_goals
    go_wp2_with (first
      | (go_at_call 10; (with_reducible refine (c_New _ _ (by first | decide | omega) (by first | decide | omega)).mono ?_); rintro e w1 ⟨p, N, rfl, h1, h2, h3⟩; have H1 : Hid (HP w1 N p _ []) := Lib.hid h1; have H2 := Lib.hid h2; have H3 := Lib.hid h3; clear h1 h2 h3)
      | (go_at_call 11; (with_reducible refine (c_Make _ _ (by first | decide | omega) (by first | decide | omega)).mono ?_); rintro e w2 ⟨q, M, rfl, h1, h2, h3⟩; have R1 : Hid (RP w2 M q _ []) := Lib.hid h1; have R2 := Lib.hid h2; have R3 := Lib.hid h3; clear h1 h2 h3))
    have hz1 := H3.out.sz
    have hgr : Gr w w2 p q _ [] N M := ⟨⟨H1.out.keep R3.out, R1.out, fun k hn hm => by have := H1.out.lt k hn; have := R2.out k hm; omega, Ok.nil (by first | decide | omega)⟩, H3.out.trans R3.out, H2.out, fun k hk => by have := R2.out k hk; omega⟩
    have HG := Lib.hid hgr
    clear hgr hz1
    go_loopw [10] (fun i wr => ∃ (j : Nat) (S : Hs) (N M : Nat → Prop), j ≤ l.length ∧ i = .int .i64 (j : Int) ∧ Gr w wr p q _ S N M) (fun i _ => l.length - (intOf i).toNat)
    case atStart => exact ⟨0, [], N, M, by omega, rfl, HG.out⟩
    case round =>
      obtain ⟨j, S, N2, M2, hj, rfl, hgr⟩ := hrel
      have HG2 := Lib.hid hgr
      by_cases hlt : j < l.length
      · obtain ⟨x, hx⟩ : ∃ x, l[j]? = some x := ⟨_, List.getElem?_eq_getElem hlt⟩
        obtain ⟨b, z, cs, rfl, hr, vr, vl, rfl, hok, hbo, hil⟩ := RL.el (HL.out.keep goodA hgr.kp) hx
        have HR := Lib.hid hr
        have HO := Lib.hid hok
        have HBo := Lib.hid hbo
        have HIl := Lib.hid hil
        clear hr hok hbo hil hgr hx
        go_wp2_with (first
          | ((with_reducible show wpList _ _ _ (⟨some 41, _, _, _, _, _⟩ :: _) _ _); refine wpList_index_tab (d := 41) _ _ _ rfl 35 Try.underlying22 6 rfl _ _ _ _ z (by rfl) rfl j (by rfl) hlt ?_)
          | ((with_reducible show wpList _ _ _ (⟨some 42, _, _, _, _, _⟩ :: _) _ _); refine wpList_load_range (d := 42) _ _ rfl _ Try.underlying35 wr _ _ _ _ (by rfl) rfl rfl _ HR.out (Kp.refl _) (by rfl) ?_)
          | (go_at_call 14; (with_reducible refine (c_act x vr vl _ wr HG2.out.bo HO.out HBo.out HIl.out HG2.out.apart).mono ?_); rintro e w4 ⟨rfl, g1⟩; obtain ⟨N4, M4, g2, g3, g4, g5⟩ := g1.next HG2.out.kp HG2.out.n0 HG2.out.m0; have G4 := Lib.hid (Gr.mk g2 g3 g4 g5); clear g1 g2 g3 g4 g5))
        go_roundw
        case rel => exact ⟨j + 1, _, N4, M4, by omega, by go_num, G4.out⟩
        case measure => simp [intOf]; omega
      · clear hgr
        go_wp2_with fail
        go_ret2
        exact ⟨p, q, _, S, N2, M2, rfl, HG2.out⟩
end Go.Proofs.Ytkaeigklhdpifaa
