/- Which types are the same: sameTop of package types. Condition: the types lie in memory. -/
import Derived.Test.YtfjflfokmihcpaaT2
import Derived.Test.YtfjflfokmihcpaaT3
import Derived.Test.YtfjflfokmihcpaaT4
import Derived.Deep.QuietTactic
import Derived.BigQuiet
namespace Go.Proofs.Ytfjflfokmihcpaa
open Go.RowKit
set_option linter.unusedVariables false
set_option linter.unusedSimpArgs false

/-- The same but for the types in them. -/
def TopEq (A B : Ty) : Prop := A.k = B.k ∧ A.nm = B.nm ∧ A.con = B.con ∧ A.fn = B.fn ∧ A.nl = B.nl ∧ A.kids.length = B.kids.length
noncomputable def topB (A B : Ty) : Bool := @decide (TopEq A B) (Classical.propDecidable _)
theorem topB_yes {A B : Ty} (h : TopEq A B) : topB A B = true := by unfold topB; exact @decide_eq_true _ (Classical.propDecidable _) h
theorem topB_no {A B : Ty} (h : ¬ TopEq A B) : topB A B = false := by unfold topB; exact @decide_eq_false _ (Classical.propDecidable _) h
/-- The first n names are the same. -/
def NmEq (f g : List ByteArray) (n : Nat) : Prop := ∀ i, i < n → fnAt f i = fnAt g i
theorem fn_ext {f g : List ByteArray} (hl : f.length = g.length) (h : NmEq f g f.length) : f = g := by
  apply List.ext_getElem hl
  intro i h1 h2
  have := h i h1
  unfold fnAt at this
  rw [List.getD_eq_getElem?_getD, List.getD_eq_getElem?_getD, List.getElem?_eq_getElem h1, List.getElem?_eq_getElem h2] at this
  exact this
theorem topEq_iff {w w' : World} {S S' : Sel} {A B : Ty} {h g : Hd} {K J : Nat → Hd} (t : Top w S A h K) (u : Top w' S' B g J) : TopEq A B ↔ h.k = g.k ∧ h.nm = g.nm ∧ h.con = g.con ∧ h.fl = g.fl ∧ h.ll = g.ll ∧ h.rl = g.rl ∧ NmEq A.fn B.fn h.fl := by
  have e1 := t.es
  have e2 := u.es
  have f1 := t.ef
  have f2 := u.ef
  constructor
  · intro ⟨a, b, c, d, e, f⟩
    refine ⟨t.ek.symm.trans (a.trans u.ek), t.en.symm.trans (b.trans u.en), t.ec.symm.trans (c.trans u.ec), ?_, t.el.symm.trans (e.trans u.el), ?_, fun i _ => by rw [d]⟩
    · rw [← f1, ← f2, d]
    · have h1 : h.fl = g.fl := by rw [← f1, ← f2, d]
      have h2 : h.ll = g.ll := t.el.symm.trans (e.trans u.el)
      omega
  · intro ⟨a, b, c, d, e, f, hn⟩
    exact ⟨t.ek.trans (a.trans u.ek.symm), t.en.trans (b.trans u.en.symm), t.ec.trans (c.trans u.ec.symm), fn_ext (by omega) (by rw [f1]; exact hn), t.el.trans (e.trans u.el.symm), by omega⟩
set_option maxHeartbeats 1600000 in
theorem sameTop_no (A B : Ty) (h g : Hd) (w : World) (hv : topB A B = false) (hn : ¬ (h.k = g.k ∧ h.nm = g.nm ∧ h.con = g.con ∧ h.fl = g.fl ∧ h.ll = g.ll ∧ h.rl = g.rl)) :
    Calls Try.prog 59 #[h.val, g.val] w fun e w' => e = .returned (.bool (topB A B)) ∧ Kp w w' := by
  rw [hv]
  by_cases hk : h.k = g.k
  case neg =>
    have d_hk : (h.k != g.k) = true := bne_iff_ne.2 hk
    clear hn  hv
    clear hk
    go_enter Try.func59, Try.ntmps59
    go_wp2_with fail
    go_ret
    exact ⟨rfl, ((Kp.refl w).alloc _).alloc _⟩
  by_cases hnm : h.nm = g.nm
  case neg =>
    have b_hk : (h.k != g.k) = false := by (rw [hk]; simp)
    have d_hnm : (h.nm.toList == g.nm.toList) = false := (same_or h.nm g.nm).elim (fun q => absurd q.1 hnm) (fun q => q.2)
    have dd_hnm : (h.nm.toList != g.nm.toList) = true := by simpa [bne] using d_hnm
    clear hn hk hv
    clear hnm
    go_enter Try.func59, Try.ntmps59
    go_wp2_with fail
    go_ret
    exact ⟨rfl, ((Kp.refl w).alloc _).alloc _⟩
  by_cases hcon : h.con = g.con
  case neg =>
    have b_hk : (h.k != g.k) = false := by (rw [hk]; simp)
    have b_hnm : (h.nm.toList == g.nm.toList) = true := by (rw [hnm]; simp)
    have c_hnm : (h.nm.toList != g.nm.toList) = false := by (rw [hnm]; simp)
    have d_hcon : (h.con != g.con) = true := bne_iff_ne.2 hcon
    clear hn hk hnm hv
    clear hcon
    go_enter Try.func59, Try.ntmps59
    go_wp2_with fail
    go_ret
    exact ⟨rfl, ((Kp.refl w).alloc _).alloc _⟩
  by_cases hfl : h.fl = g.fl
  case neg =>
    have b_hk : (h.k != g.k) = false := by (rw [hk]; simp)
    have b_hnm : (h.nm.toList == g.nm.toList) = true := by (rw [hnm]; simp)
    have c_hnm : (h.nm.toList != g.nm.toList) = false := by (rw [hnm]; simp)
    have b_hcon : (h.con != g.con) = false := by (rw [hcon]; simp)
    have d_hfl : ((h.fl : Int) != (g.fl : Int)) = true := bne_iff_ne.2 (by omega)
    clear hn hk hnm hcon hv
    clear hfl
    go_enter Try.func59, Try.ntmps59
    go_wp2_with fail
    go_ret
    exact ⟨rfl, ((Kp.refl w).alloc _).alloc _⟩
  by_cases hll : h.ll = g.ll
  case neg =>
    have b_hk : (h.k != g.k) = false := by (rw [hk]; simp)
    have b_hnm : (h.nm.toList == g.nm.toList) = true := by (rw [hnm]; simp)
    have c_hnm : (h.nm.toList != g.nm.toList) = false := by (rw [hnm]; simp)
    have b_hcon : (h.con != g.con) = false := by (rw [hcon]; simp)
    have b_hfl : ((h.fl : Int) != (g.fl : Int)) = false := by (rw [hfl]; simp)
    have d_hll : ((h.ll : Int) != (g.ll : Int)) = true := bne_iff_ne.2 (by omega)
    clear hn hk hnm hcon hfl hv
    clear hll
    go_enter Try.func59, Try.ntmps59
    go_wp2_with fail
    go_ret
    exact ⟨rfl, ((Kp.refl w).alloc _).alloc _⟩
  by_cases hrl : h.rl = g.rl
  case neg =>
    have b_hk : (h.k != g.k) = false := by (rw [hk]; simp)
    have b_hnm : (h.nm.toList == g.nm.toList) = true := by (rw [hnm]; simp)
    have c_hnm : (h.nm.toList != g.nm.toList) = false := by (rw [hnm]; simp)
    have b_hcon : (h.con != g.con) = false := by (rw [hcon]; simp)
    have b_hfl : ((h.fl : Int) != (g.fl : Int)) = false := by (rw [hfl]; simp)
    have b_hll : ((h.ll : Int) != (g.ll : Int)) = false := by (rw [hll]; simp)
    have d_hrl : ((h.rl : Int) != (g.rl : Int)) = true := bne_iff_ne.2 (by omega)
    clear hn hk hnm hcon hfl hll hv
    clear hrl
    go_enter Try.func59, Try.ntmps59
    go_wp2_with fail
    go_ret
    exact ⟨rfl, ((Kp.refl w).alloc _).alloc _⟩
  exact absurd ⟨hk, hnm, hcon, hfl, hll, hrl⟩ hn
set_option maxHeartbeats 3200000 in
set_option maxRecDepth 100000 in
theorem sameTop_eq0 (A B : Ty) (h g : Hd) (K J : Nat → Hd) (w : World) (t : Top w A0 A h K) (u : Top w A0 B g J) (h0 : g.fl = 0) (hk : h.k = g.k) (hnm : h.nm = g.nm) (hcon : h.con = g.con) (hfl : h.fl = g.fl) (hll : h.ll = g.ll) (hrl : h.rl = g.rl) :
    Calls Try.prog 59 #[h.val, g.val] w fun e w' => e = .returned (.bool (topB A B)) ∧ Kp w w' := by
  have hiff := Lib.hid (topEq_iff t u)
  have HT := Lib.hid t
  have hbf := u.bf
  clear t u
  obtain ⟨gk, gnm, gcon, ga, gl, gc, gla, gll, glc, gra, grl, grc⟩ := g
  simp only at hbf h0 hk hnm hcon hfl hll hrl
  have vb1 : (h.k != gk) = false := by rw [hk]; simp
  have vb2' : (h.nm.toList != gnm.toList) = false := by rw [hnm]; simp
  have vb2'' : (h.nm.toList == gnm.toList) = true := by rw [hnm]; simp
  have vb3 : (h.con != gcon) = false := by rw [hcon]; simp
  have vb4 : ((h.fl : Int) != (gl : Int)) = false := by rw [hfl]; simp
  have vb5 : ((h.ll : Int) != (gll : Int)) = false := by rw [hll]; simp
  have vb6 : ((h.rl : Int) != (grl : Int)) = false := by rw [hrl]; simp
  have HQ := Lib.hid (And.intro hk (And.intro hnm (And.intro hcon (And.intro hfl (And.intro hll hrl)))))
  clear hk hnm hcon hll hrl
  have hle : h.fl ≤ gl := by omega
  have hge : gl ≤ h.fl := by omega
  clear hfl
  go_enter Try.func59, Try.ntmps59
  go_wp2_with fail
  have hz : ¬ ((0 : Int) < (h.fl : Int)) := by omega
  have hz' : decide ((0 : Int) < (h.fl : Int)) = false := decide_eq_false hz
  refine wp_loop_rounds 1 ?_
  rw [rounds_succ]
  go_wp2_with fail
  go_ret
  exact ⟨ret_bool (topB_yes (hiff.out.2 ⟨HQ.out.1, HQ.out.2.1, HQ.out.2.2.1, HQ.out.2.2.2.1, HQ.out.2.2.2.2.1, HQ.out.2.2.2.2.2, fun i hi => absurd hi (by omega)⟩)).symm, ((Kp.refl w).alloc _).alloc _⟩
set_option maxHeartbeats 3200000 in
set_option maxRecDepth 100000 in
theorem sameTop_eq (A B : Ty) (h g : Hd) (K J : Nat → Hd) (w : World) (t : Top w A0 A h K) (u : Top w A0 B g J) (h0 : 0 < g.fl) (hk : h.k = g.k) (hnm : h.nm = g.nm) (hcon : h.con = g.con) (hfl : h.fl = g.fl) (hll : h.ll = g.ll) (hrl : h.rl = g.rl) :
    Calls Try.prog 59 #[h.val, g.val] w fun e w' => e = .returned (.bool (topB A B)) ∧ Kp w w' := by
  have hiff := Lib.hid (topEq_iff t u)
  obtain ⟨b2, o2, hga, hgr⟩ := u.tf.at h0
  have HT := Lib.hid t
  have hbf := u.bf
  clear t u
  obtain ⟨gk, gnm, gcon, ga, gl, gc, gla, gll, glc, gra, grl, grc⟩ := g
  simp only at hbf h0 hk hnm hcon hfl hll hrl hga hgr
  subst hga
  have HGR := Lib.hid hgr
  clear hgr
  have vb1 : (h.k != gk) = false := by rw [hk]; simp
  have vb2' : (h.nm.toList != gnm.toList) = false := by rw [hnm]; simp
  have vb2'' : (h.nm.toList == gnm.toList) = true := by rw [hnm]; simp
  have vb3 : (h.con != gcon) = false := by rw [hcon]; simp
  have vb4 : ((h.fl : Int) != (gl : Int)) = false := by rw [hfl]; simp
  have vb5 : ((h.ll : Int) != (gll : Int)) = false := by rw [hll]; simp
  have vb6 : ((h.rl : Int) != (grl : Int)) = false := by rw [hrl]; simp
  have HQ := Lib.hid (And.intro hk (And.intro hnm (And.intro hcon (And.intro hfl (And.intro hll hrl)))))
  clear hk hnm hcon hll hrl
  have hle : h.fl ≤ gl := by omega
  have hge : gl ≤ h.fl := by omega
  clear hfl
  go_enter Try.func59, Try.ntmps59
  go_wp2_with fail
  go_loopw [54] (fun i wr => ∃ n : Nat, n ≤ gl ∧ i = .int .i64 n ∧ NmEq A.fn B.fn n ∧ Kp ((w.alloc (.cells #[.int .i64 h.k, .string h.nm, .int .i64 h.con, .slice h.fa h.fl h.fc, .slice h.la h.ll h.lc, .slice h.ra h.rl h.rc] 42)).alloc (.cells #[.int .i64 gk, .string gnm, .int .i64 gcon, .slice (some ⟨b2, o2, none⟩) gl gc, .slice gla gll glc, .slice gra grl grc] 42)) wr) (fun i _ => gl - (intOf i).toNat)
  case atStart => exact ⟨0, by omega, rfl, fun i hi => absurd hi (by omega), Kp.refl _⟩
  case round =>
    obtain ⟨n, hn, rfl, hN, hkr⟩ := hrel
    have HN := Lib.hid hN
    have HK := Lib.hid hkr
    have KW := Lib.hid ((((Kp.refl w).alloc _).alloc _).trans hkr)
    obtain ⟨_, _, _, p3, p4, p5, ps⟩ := boxed (h := ⟨gk, gnm, gcon, some ⟨b2, o2, none⟩, gl, gc, gla, gll, glc, gra, grl, grc⟩) (by simpa using hkr : Kp ((w.alloc (.cells #[.int .i64 h.k, .string h.nm, .int .i64 h.con, .slice h.fa h.fl h.fc, .slice h.la h.ll h.lc, .slice h.ra h.rl h.rc] 42)).alloc (.cells #[.int .i64 gk, .string gnm, .int .i64 gcon, .slice (some ⟨b2, o2, none⟩) gl gc, .slice gla gll glc, .slice gra grl grc] 42)) wr)
    simp only [World.size_alloc] at p3 p4 p5 ps
    have pl : w.heap.size + 1 < wr.heap.size := ps
    clear hN hkr
    by_cases hlt : n < gl
    · have hlt' : n < h.fl := by omega
      obtain ⟨b, o, ha, hr⟩ := HT.out.tf.at (by omega)
      have HA := Lib.hid ha
      have HR := Lib.hid (hr n hlt')
      clear ha hr
      have j1 : (0 : Int) ≤ n := by omega
      have j2 : (n : Int) < gl := by omega
      have g2 : wr.cell? ⟨b2, o2 + n * 7, none⟩ = some (.string (fnAt B.fn n)) := KW.out.cellv (rangeAt_head (HGR.out n hlt))
      have g2l : b2 < wr.heap.size := lt_of_cell g2
      rcases same_or (fnAt A.fn n) (fnAt B.fn n) with ⟨e1, e2⟩ | ⟨e1, e2⟩
      · have E := Lib.hid e1
        have e3 : ((fnAt A.fn n).toList != (fnAt B.fn n).toList) = false := by simpa [bne] using e2
        clear e1
        go_wp2_with (first | ((with_reducible show wpList _ _ _ (⟨some 57, _, _, _, _, _⟩ :: _) _ _); refine wpList_index_tab (d := 57) _ _ _ rfl 52 Try.underlying40 7 rfl _ _ _ _ o (by rfl) HA.out n (by rfl) hlt' ?_) | ((with_reducible show wpList _ _ _ (⟨some 58, _, _, _, _, _⟩ :: _) _ _); refine wpList_load_fd (d := 58) _ _ rfl _ Try.underlying52 w _ _ b (o + n * 7) (by rfl) rfl (by first | rfl | omega) (fnAt A.fn n) (K n) HR.out KW.out rfl ?_))
        go_quiet (fail)
        go_wp2_with fail
        go_roundw
        case rel => exact ⟨n + 1, by omega, by go_num, fun i hi => by
          by_cases e : i = n
          · subst e; exact E.out
          · exact HN.out i (by omega), (HK.out.alloc _).drewN _⟩
        case measure => simp [intOf]; omega
      · have E := Lib.hid e1
        have e3 : ((fnAt A.fn n).toList != (fnAt B.fn n).toList) = true := by simpa [bne] using e2
        clear e1
        go_wp2_with (first | ((with_reducible show wpList _ _ _ (⟨some 57, _, _, _, _, _⟩ :: _) _ _); refine wpList_index_tab (d := 57) _ _ _ rfl 52 Try.underlying40 7 rfl _ _ _ _ o (by rfl) HA.out n (by rfl) hlt' ?_) | ((with_reducible show wpList _ _ _ (⟨some 58, _, _, _, _, _⟩ :: _) _ _); refine wpList_load_fd (d := 58) _ _ rfl _ Try.underlying52 w _ _ b (o + n * 7) (by rfl) rfl (by first | rfl | omega) (fnAt A.fn n) (K n) HR.out KW.out rfl ?_))
        go_quiet (fail)
        go_wp2_with fail
        go_ret
        exact ⟨ret_bool (topB_no (fun q => E.out ((hiff.out.1 q).2.2.2.2.2.2 n hlt'))).symm, (KW.out.alloc _).drewN _⟩
    · obtain rfl : gl = n := by omega
      go_wp2_with fail
      go_ret
      exact ⟨ret_bool (topB_yes (hiff.out.2 ⟨HQ.out.1, HQ.out.2.1, HQ.out.2.2.1, HQ.out.2.2.2.1, HQ.out.2.2.2.2.1, HQ.out.2.2.2.2.2, fun i hi => HN.out i (by omega)⟩)).symm, KW.out⟩
theorem c_sameTop (A B : Ty) (h g : Hd) (K J : Nat → Hd) (w : World) (t : Top w A0 A h K) (u : Top w A0 B g J) :
    Calls Try.prog 59 #[h.val, g.val] w fun e w' => e = .returned (.bool (topB A B)) ∧ Kp w w' := by
  by_cases hn : h.k = g.k ∧ h.nm = g.nm ∧ h.con = g.con ∧ h.fl = g.fl ∧ h.ll = g.ll ∧ h.rl = g.rl
  · obtain ⟨a, b, c, d, e, f⟩ := hn
    by_cases h0 : g.fl = 0
    · exact sameTop_eq0 A B h g K J w t u h0 a b c d e f
    · exact sameTop_eq A B h g K J w t u (by omega) a b c d e f
  · exact sameTop_no A B h g w (topB_no (fun q => hn (by obtain ⟨a, b, c, d, e, f, _⟩ := (topEq_iff t u).1 q; exact ⟨a, b, c, d, e, f⟩))) hn
end Go.Proofs.Ytfjflfokmihcpaa
