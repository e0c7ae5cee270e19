/- spoil of the law: it writes over rows of the blocks that the type lies in, and over nothing else. Condition: the type lies in fresh blocks. -/
import Derived.Test.YtcaffohojaobaaaCb
import Derived.Test.YtcaffohojaobaaaFg2
import Derived.IntWalk
namespace Go.Proofs.Ytcaffohojaobaaa
open Go.RowKit
set_option linter.unusedVariables false
set_option linter.unusedSimpArgs false
set_option linter.unusedSimpArgs false
theorem Sp.row {P : Nat → Prop} {w w' : World} (h : Sp P w w') {b : Nat} {cs : Array Value} {t : TypeId} (hn : ¬ P b) (hc : w.heap[b]? = some (.cells cs t (0, 0))) : w'.heap[b]? = some (.cells cs t (0, 0)) :=
  (h.same b (Array.getElem?_eq_some_iff.1 hc).1 hn).trans hc
theorem six {w : World} {g : Nat} {x0 x1 x2 x3 x4 x5 : Value} {t : TypeId} {fr : Nat × Nat} (hg : w.heap[g]? = some (.cells #[x0, x1, x2, x3, x4, x5] t fr)) :
    w.cell? ⟨g, 0, none⟩ = some x0 ∧ w.cell? ⟨g, 1, none⟩ = some x1 ∧ w.cell? ⟨g, 2, none⟩ = some x2 ∧ w.cell? ⟨g, 3, none⟩ = some x3 ∧ w.cell? ⟨g, 4, none⟩ = some x4 ∧ w.cell? ⟨g, 5, none⟩ = some x5 :=
  ⟨row_cell hg 0, row_cell hg 1, row_cell hg 2, row_cell hg 3, row_cell hg 4, row_cell hg 5⟩
theorem cell_at {w : World} {b : Nat} {cur : Array Value} {e : TypeId} {o : Nat} {cs : List Value} (hc : w.heap[b]? = some (.cells cur e (0, 0))) (hr : rowIs cur o cs) (j : Nat) (v : Value) (hv : cs[j]? = some v) : w.cell? ⟨b, o + j, none⟩ = some v := by
  rw [cell_of_row w b (o + j) cur e (0, 0) hc]; exact hr j v hv
theorem cell_in {w : World} {b : Nat} {cur : Array Value} {e : TypeId} {k : Nat} (hc : w.heap[b]? = some (.cells cur e (0, 0))) (hk : k < cur.size) : ∃ v, w.cell? ⟨b, k, none⟩ = some v := by
  rw [cell_of_row w b k cur e (0, 0) hc]; exact ⟨_, Array.getElem?_eq_getElem hk⟩
theorem unfrozen {w : World} {b : Nat} {cur : Array Value} {e : TypeId} (hc : w.heap[b]? = some (.cells cur e (0, 0))) (k : Nat) : w.frozen? ⟨b, k, none⟩ = false := frozen_of_row _ _ _ _ e hc
def SpoilP (P : Nat → Prop) (w : World) (e : Ending) (w' : World) : Prop := e = .returned (.tuple #[]) ∧ Sp P w w'
/-- A header of nothing but a kind. -/
def hdK (k : Int) : Hd := ⟨k, ⟨#[]⟩, 0, none, 0, 0, none, 0, 0, none, 0, 0⟩
set_option maxHeartbeats 12800000 in
set_option maxRecDepth 100000 in
theorem spoil_step (r : Nat) (N : Nat) (P : Nat → Prop) (hP : ∀ b, P b → b < N) (IH : ∀ (hd : Hd) (w : World), N ≤ w.heap.size → WL w P r hd → Calls Try.prog 35 #[hd.val] w (SpoilP P w))
    (h : Hd) (w : World) (hN : N ≤ w.heap.size) (hl : WL w P (r + 1) h) : Calls Try.prog 35 #[h.val] w (SpoilP P w) := by
  have HI := Lib.hid IH
  have HL := Lib.hid hl
  have HP := Lib.hid hP
  have hnp : ¬ P w.heap.size := fun q => absurd (hP _ q) (by omega)
  have HNP := Lib.hid hnp
  have HNN := Lib.hid hN
  have BF := Lib.hid (show h.fl * 104 ≤ 140737488351232 from hl.1.1)
  have BL := Lib.hid (show h.ll * 104 ≤ 140737488351232 from hl.2.1.1)
  have BR := Lib.hid (show h.rl * 104 ≤ 140737488351232 from hl.2.2.1)
  have RB := Lib.hid (fun W (hs : Sp P (w.alloc (.cells #[.int .i64 h.k, .string h.nm, .int .i64 h.con, .slice h.fa h.fl h.fc, .slice h.la h.ll h.lc, .slice h.ra h.rl h.rc] 25)) W) => six (hs.row (b := w.heap.size) hnp (heap_alloc_new _ _)))
  have K0 := Lib.hid (show Sp P w (w.alloc (.cells #[.int .i64 h.k, .string h.nm, .int .i64 h.con, .slice h.fa h.fl h.fc, .slice h.la h.ll h.lc, .slice h.ra h.rl h.rc] 25)) from Sp.of_kp ((Kp.refl w).alloc _))
  clear IH hl hP hnp hN
  go_enter Try.func35, Try.ntmps35
  go_wp2_with fail
  go_loopw [2] (fun i wr => ∃ n : Nat, n ≤ h.fl ∧ i = .int .i64 n ∧ Sp P (w.alloc (.cells #[.int .i64 h.k, .string h.nm, .int .i64 h.con, .slice h.fa h.fl h.fc, .slice h.la h.ll h.lc, .slice h.ra h.rl h.rc] 25)) wr) (fun i _ => h.fl - (intOf i).toNat)
  case atStart => exact ⟨0, Nat.zero_le _, rfl, Sp.refl _ _⟩
  case round =>
    obtain ⟨n, hn, rfl, hs⟩ := hrel
    have HS := Lib.hid hs
    obtain ⟨z0, z1, z2, z3, z4, z5⟩ := RB.out _ hs
    by_cases hlt : n < h.fl
    · have hw := (HL.out.sp (K0.out.trans hs)).1
      obtain ⟨b, cur, ha, hp, hc, hsz, hg⟩ := hw.2 (by omega)
      obtain ⟨cs, hrow, nm, hd, hcs, hwl⟩ := hg n hlt
      subst hcs
      have hi7 : (n + 1) * 7 ≤ cur.size := Nat.le_trans (Nat.mul_le_mul_right 7 hlt) hsz
      have y0 := cell_at hc hrow 1 (.int .i64 hd.k) rfl
      have y1 := cell_at hc hrow 2 (.string hd.nm) rfl
      have y2 := cell_at hc hrow 3 (.int .i64 hd.con) rfl
      have y3 := cell_at hc hrow 4 (.slice hd.fa hd.fl hd.fc) rfl
      have y4 := cell_at hc hrow 5 (.slice hd.la hd.ll hd.lc) rfl
      have y5 := cell_at hc hrow 6 (.slice hd.ra hd.rl hd.rc) rfl
      have hi1 : ∀ W, (Instr.indexAt 22 (.slice h.fa h.fl h.fc) (.int .i64 (n : Nat))).run Try.prog W = .ok (.pointer (some ⟨b, 0 + n * 7, none⟩)) W := fun W => by rw [ha]; exact run_index_tabF (w := W) (b := b) (o := 0) Try.underlying22 (m := 7) (by kernel_rfl) hlt
      simp only [Nat.zero_add] at hi1
      have hnn : N ≤ wr.heap.size := Nat.le_trans HNN.out (Nat.le_trans (by simp) hs.sz)
      have HNR := Lib.hid hnn
      have HWL := Lib.hid hwl
      have HC := Lib.hid hc
      have HPB := Lib.hid hp
      have HI7 := Lib.hid hi7
      have hb0 := BF.out
      have hb1 : (n : Int) < 9000000000000 := by omega
      clear hs hw hg hrow hwl hnn hc hp hi7 hb0
      go_wp2_with ((go_at_call 35; (with_reducible refine (HI.out hd _ HNR.out HWL.out).mono ?_); rintro e w8 ⟨rfl, hs8⟩; obtain ⟨cur8, hc8, hsz8, _, _⟩ := hs8.rows b cur _ HPB.out HC.out; have hs9 := Lib.hid hs8; have hi8 : (n + 1) * 7 ≤ cur8.size := (by have := HI7.out; omega); obtain ⟨z0, z1, z2, z3, z4, z5⟩ := RB.out _ (HS.out.trans hs8); obtain ⟨q0, c0⟩ := cell_in (k := n * 7) hc8 (by omega); obtain ⟨q1, c1⟩ := cell_in (k := n * 7 + 1) hc8 (by omega); obtain ⟨q2, c2⟩ := cell_in (k := n * 7 + 2) hc8 (by omega); obtain ⟨q3, c3⟩ := cell_in (k := n * 7 + 3) hc8 (by omega); obtain ⟨q4, c4⟩ := cell_in (k := n * 7 + 4) hc8 (by omega); obtain ⟨q5, c5⟩ := cell_in (k := n * 7 + 5) hc8 (by omega); obtain ⟨q6, c6⟩ := cell_in (k := n * 7 + 6) hc8 (by omega); have u0 := unfrozen hc8 (n * 7); have u1 := unfrozen hc8 (n * 7 + 1); have u2 := unfrozen hc8 (n * 7 + 2); have u3 := unfrozen hc8 (n * 7 + 3); have u4 := unfrozen hc8 (n * 7 + 4); have u5 := unfrozen hc8 (n * 7 + 5); have u6 := unfrozen hc8 (n * 7 + 6); have HC8 := Lib.hid hc8; have HI8 := Lib.hid hi8; clear hc8 hi8 hs8 hsz8))
      go_roundw
      case rel => exact ⟨n + 1, by omega, by go_num, HS.out.trans (hs9.out.trans (by have h9 : Sp P w8 _ := Sp.set7 (nm := ⟨#[103, 111, 110, 101]⟩) (hd := hdK 0) HPB.out HC8.out HI8.out ⟨rfl, rfl, rfl⟩; exact h9))⟩
      case measure => simp [intOf]; omega
    · obtain rfl : n = h.fl := by omega
      clear hs
      go_wp2_with fail
      go_loopw [3] (fun i wr => ∃ n : Nat, n ≤ h.ll ∧ i = .int .i64 n ∧ Sp P (w.alloc (.cells #[.int .i64 h.k, .string h.nm, .int .i64 h.con, .slice h.fa h.fl h.fc, .slice h.la h.ll h.lc, .slice h.ra h.rl h.rc] 25)) wr) (fun i _ => h.ll - (intOf i).toNat)
      case atStart => exact ⟨0, Nat.zero_le _, rfl, HS.out⟩
      case round =>
        obtain ⟨n, hn, rfl, hs⟩ := hrel
        have HS := Lib.hid hs
        obtain ⟨z0, z1, z2, z3, z4, z5⟩ := RB.out _ hs
        by_cases hlt : n < h.ll
        · have hw := (HL.out.sp (K0.out.trans hs)).2.1
          obtain ⟨b, cur, ha, hp, hc, hsz, hg⟩ := hw.2 (by omega)
          obtain ⟨cs, hrow, hd, hcs, hwl⟩ := hg n hlt
          subst hcs
          have hi7 : (n + 1) * 6 ≤ cur.size := Nat.le_trans (Nat.mul_le_mul_right 6 hlt) hsz
          have y0 := cell_at hc hrow 0 (.int .i64 hd.k) rfl
          have y1 := cell_at hc hrow 1 (.string hd.nm) rfl
          have y2 := cell_at hc hrow 2 (.int .i64 hd.con) rfl
          have y3 := cell_at hc hrow 3 (.slice hd.fa hd.fl hd.fc) rfl
          have y4 := cell_at hc hrow 4 (.slice hd.la hd.ll hd.lc) rfl
          have y5 := cell_at hc hrow 5 (.slice hd.ra hd.rl hd.rc) rfl
          rw [Nat.add_zero] at y0
          have hi1 : ∀ W, (Instr.indexAt 23 (.slice h.la h.ll h.lc) (.int .i64 (n : Nat))).run Try.prog W = .ok (.pointer (some ⟨b, 0 + n * 6, none⟩)) W := fun W => by rw [ha]; exact run_index_tabF (w := W) (b := b) (o := 0) Try.underlying23 (m := 6) (by kernel_rfl) hlt
          simp only [Nat.zero_add] at hi1
          have hnn : N ≤ wr.heap.size := Nat.le_trans HNN.out (Nat.le_trans (by simp) hs.sz)
          have HNR := Lib.hid hnn
          have HWL := Lib.hid hwl
          have HC := Lib.hid hc
          have HPB := Lib.hid hp
          have HI7 := Lib.hid hi7
          have hb0 := BL.out
          have hb1 : (n : Int) < 9000000000000 := by omega
          clear hs hw hg hrow hwl hnn hc hp hi7 hb0
          go_wp2_with ((go_at_call 35; (with_reducible refine (HI.out hd _ HNR.out HWL.out).mono ?_); rintro e w8 ⟨rfl, hs8⟩; obtain ⟨cur8, hc8, hsz8, _, _⟩ := hs8.rows b cur _ HPB.out HC.out; have hs9 := Lib.hid hs8; have hi8 : (n + 1) * 6 ≤ cur8.size := (by have := HI7.out; omega); obtain ⟨z0, z1, z2, z3, z4, z5⟩ := RB.out _ (HS.out.trans hs8); obtain ⟨q0, c0⟩ := cell_in (k := n * 6) hc8 (by omega); obtain ⟨q1, c1⟩ := cell_in (k := n * 6 + 1) hc8 (by omega); obtain ⟨q2, c2⟩ := cell_in (k := n * 6 + 2) hc8 (by omega); obtain ⟨q3, c3⟩ := cell_in (k := n * 6 + 3) hc8 (by omega); obtain ⟨q4, c4⟩ := cell_in (k := n * 6 + 4) hc8 (by omega); obtain ⟨q5, c5⟩ := cell_in (k := n * 6 + 5) hc8 (by omega); have u0 := unfrozen hc8 (n * 6); have u1 := unfrozen hc8 (n * 6 + 1); have u2 := unfrozen hc8 (n * 6 + 2); have u3 := unfrozen hc8 (n * 6 + 3); have u4 := unfrozen hc8 (n * 6 + 4); have u5 := unfrozen hc8 (n * 6 + 5); have HC8 := Lib.hid hc8; have HI8 := Lib.hid hi8; clear hc8 hi8 hs8 hsz8))
          go_roundw
          case rel => exact ⟨n + 1, by omega, by go_num, HS.out.trans (hs9.out.trans (by have h9 : Sp P w8 _ := Sp.set6 (hd := hdK 99) HPB.out HC8.out HI8.out ⟨rfl, rfl, rfl⟩; exact h9))⟩
          case measure => simp [intOf]; omega
        · obtain rfl : n = h.ll := by omega
          clear hs
          go_wp2_with fail
          go_loopw [4] (fun i wr => ∃ n : Nat, n ≤ h.rl ∧ i = .int .i64 n ∧ Sp P (w.alloc (.cells #[.int .i64 h.k, .string h.nm, .int .i64 h.con, .slice h.fa h.fl h.fc, .slice h.la h.ll h.lc, .slice h.ra h.rl h.rc] 25)) wr) (fun i _ => h.rl - (intOf i).toNat)
          case atStart => exact ⟨0, Nat.zero_le _, rfl, HS.out⟩
          case round =>
            obtain ⟨n, hn, rfl, hs⟩ := hrel
            have HS := Lib.hid hs
            obtain ⟨z0, z1, z2, z3, z4, z5⟩ := RB.out _ hs
            by_cases hlt : n < h.rl
            · have hw := (HL.out.sp (K0.out.trans hs)).2.2
              obtain ⟨b, cur, ha, hp, hc, hsz, hg⟩ := hw.2 (by omega)
              obtain ⟨cs, hrow, hd, hcs, hwl⟩ := hg n hlt
              subst hcs
              have hi7 : (n + 1) * 6 ≤ cur.size := Nat.le_trans (Nat.mul_le_mul_right 6 hlt) hsz
              have y0 := cell_at hc hrow 0 (.int .i64 hd.k) rfl
              have y1 := cell_at hc hrow 1 (.string hd.nm) rfl
              have y2 := cell_at hc hrow 2 (.int .i64 hd.con) rfl
              have y3 := cell_at hc hrow 3 (.slice hd.fa hd.fl hd.fc) rfl
              have y4 := cell_at hc hrow 4 (.slice hd.la hd.ll hd.lc) rfl
              have y5 := cell_at hc hrow 5 (.slice hd.ra hd.rl hd.rc) rfl
              rw [Nat.add_zero] at y0
              have hi1 : ∀ W, (Instr.indexAt 23 (.slice h.ra h.rl h.rc) (.int .i64 (n : Nat))).run Try.prog W = .ok (.pointer (some ⟨b, 0 + n * 6, none⟩)) W := fun W => by rw [ha]; exact run_index_tabF (w := W) (b := b) (o := 0) Try.underlying23 (m := 6) (by kernel_rfl) hlt
              simp only [Nat.zero_add] at hi1
              have hnn : N ≤ wr.heap.size := Nat.le_trans HNN.out (Nat.le_trans (by simp) hs.sz)
              have HNR := Lib.hid hnn
              have HWL := Lib.hid hwl
              have HC := Lib.hid hc
              have HPB := Lib.hid hp
              have HI7 := Lib.hid hi7
              have hb0 := BR.out
              have hb1 : (n : Int) < 9000000000000 := by omega
              clear hs hw hg hrow hwl hnn hc hp hi7 hb0
              go_wp2_with ((go_at_call 35; (with_reducible refine (HI.out hd _ HNR.out HWL.out).mono ?_); rintro e w8 ⟨rfl, hs8⟩; obtain ⟨cur8, hc8, hsz8, _, _⟩ := hs8.rows b cur _ HPB.out HC.out; have hs9 := Lib.hid hs8; have hi8 : (n + 1) * 6 ≤ cur8.size := (by have := HI7.out; omega); obtain ⟨z0, z1, z2, z3, z4, z5⟩ := RB.out _ (HS.out.trans hs8); obtain ⟨q0, c0⟩ := cell_in (k := n * 6) hc8 (by omega); obtain ⟨q1, c1⟩ := cell_in (k := n * 6 + 1) hc8 (by omega); obtain ⟨q2, c2⟩ := cell_in (k := n * 6 + 2) hc8 (by omega); obtain ⟨q3, c3⟩ := cell_in (k := n * 6 + 3) hc8 (by omega); obtain ⟨q4, c4⟩ := cell_in (k := n * 6 + 4) hc8 (by omega); obtain ⟨q5, c5⟩ := cell_in (k := n * 6 + 5) hc8 (by omega); have u0 := unfrozen hc8 (n * 6); have u1 := unfrozen hc8 (n * 6 + 1); have u2 := unfrozen hc8 (n * 6 + 2); have u3 := unfrozen hc8 (n * 6 + 3); have u4 := unfrozen hc8 (n * 6 + 4); have u5 := unfrozen hc8 (n * 6 + 5); have HC8 := Lib.hid hc8; have HI8 := Lib.hid hi8; clear hc8 hi8 hs8 hsz8))
              go_roundw
              case rel => exact ⟨n + 1, by omega, by go_num, HS.out.trans (hs9.out.trans (by have h9 : Sp P w8 _ := Sp.set6 (hd := hdK 99) HPB.out HC8.out HI8.out ⟨rfl, rfl, rfl⟩; exact h9))⟩
              case measure => simp [intOf]; omega
            · obtain rfl : n = h.rl := by omega
              clear hs
              go_wp2_with fail
              go_returns
              exact ⟨rfl, K0.out.trans HS.out⟩
theorem c_spoil (N : Nat) (P : Nat → Prop) (hP : ∀ b, P b → b < N) : ∀ (r : Nat) (hd : Hd) (w : World), N ≤ w.heap.size → WL w P r hd → Calls Try.prog 35 #[hd.val] w (SpoilP P w)
  | 0, _, _, _, h => h.elim
  | r + 1, hd, w, hN, h => spoil_step r N P hP (c_spoil N P hP r) hd w hN h
/-- Each block of what lies there is there. -/
def Sel.cap (B : Sel) (n : Nat) : Sel := ⟨B.fresh, fun b => B.S b ∧ b < n⟩
theorem tab.cap {w : World} {B : Sel} {e : TypeId} {a : Option Addr} {n c m : Nat} {C : Nat → List Value} (h : tab w B e a n c m C) : tab w (B.cap w.heap.size) e a n c m C := ⟨h.1, fun hn => by
  obtain ⟨b, o, ha, hB, hl, hf, hr⟩ := h.2 hn
  exact ⟨b, o, ha, ⟨hB, hl⟩, hl, hf, hr⟩⟩
theorem Lies.cap {w : World} {B : Sel} : ∀ {r : Nat} {T : Ty} {h : Hd}, Lies w B r T h → Lies w (B.cap w.heap.size) r T h
  | 0, _, _, h => h
  | r + 1, _, _, ⟨K, t, hh⟩ => ⟨K, { t with tf := t.tf.cap, tl := t.tl.cap, tr := t.tr.cap }, fun i X hX => Lies.cap (hh i X hX)⟩
end Go.Proofs.Ytcaffohojaobaaa
