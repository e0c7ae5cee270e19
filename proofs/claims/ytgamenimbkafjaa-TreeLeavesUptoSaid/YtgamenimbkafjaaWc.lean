/- Exact of the reference answers yes of two nodes that read alike. Condition: the nodes lie in memory. -/
import Derived.Test.YtgamenimbkafjaaS
namespace Go.Proofs.Ytgamenimbkafjaa
open Go.RowKit
set_option linter.unusedVariables false
set_option linter.unusedSimpArgs false

theorem leaf_lies (w : World) (h : Hn) (B : Sel) (rk : -9223372036854775808 ≤ h.k ∧ h.k ≤ 9223372036854775807) (rn : 0 ≤ h.n ∧ h.n ≤ 18446744073709551615) (rt : h.tx.size ≤ 140737488351232) :
    Lies w B 1 (.mk h.k h.tx h.n 0 []) ⟨h.k, h.tx, h.n, 0, none, 0, 0⟩ :=
  ⟨fun _ => ⟨0, .empty, 0, 0, none, 0, 0⟩, ⟨rfl, rfl, rfl, rfl, rfl, rk, rn, ⟨by simp, by simp⟩, rt, by simp, Nat.le_refl _, tab_nil _ _ _ _ _⟩, fun i X hX => by simp [Nd.kids] at hX⟩
theorem leaf_same (k : Int) (tx : ByteArray) (n at_ : Int) : sameB 1 (.mk k tx n at_ []) (.mk k tx n at_ []) = true := sameB_yes ⟨rfl, rfl, rfl, rfl, fun i X Y hX hY => by simp [Nd.kids] at hX⟩
set_option maxHeartbeats 6400000 in
set_option maxRecDepth 100000 in
theorem exact_loop (r : Nat) (A : Nd) (h g : Hn) (K J : Nat → Hn) (w : World) (t : Top w A0 A h K) (hh : ∀ i X, A.kids[i]? = some X → Lies w A0 r X (K i)) (u : Top w A0 A g J) (hg : ∀ i X, A.kids[i]? = some X → Lies w A0 r X (J i)) (h0 : 0 < h.ll)
    (ih : ∀ (X : Nd) (h g : Hn) (w : World), Lies w A0 r X h → Lies w A0 r X g → Calls Try.prog 24 #[h.val, g.val] w fun e w' => e = .returned (.bool true) ∧ Kp w w') :
    Calls Try.prog 24 #[h.val, g.val] w fun e w' => e = .returned (.bool true) ∧ Kp w w' := by
  have e1 : h.k = g.k := t.ek.symm.trans u.ek
  have e2 : h.tx = g.tx := t.et.symm.trans u.et
  have e3 : h.n = g.n := t.en.symm.trans u.en
  have e5 : h.at_ = g.at_ := t.ea.symm.trans u.ea
  have e4 : h.ll = g.ll := t.es.trans u.es.symm
  obtain ⟨ta, to, ha, hra⟩ := t.tl.at h0
  obtain ⟨tb, tp, hb, hrb⟩ := u.tl.at (by omega)
  have hea := t.es
  have hbl := t.bl
  have SL := Lib.hid (fun (W : World) => c_rSame 1 _ _ _ _ W (leaf_lies W h A0 t.rk t.rn t.rt) (leaf_lies W h A0 t.rk t.rn t.rt))
  have HH := Lib.hid hh
  have HG := Lib.hid hg
  have IH := Lib.hid ih
  clear t hh u hg ih
  obtain ⟨k, tx, nn, at_, la, ll, lc⟩ := h
  obtain ⟨k2, tx2, n2, at2, la2, ll2, lc2⟩ := g
  simp only at e1 e2 e3 e4 e5 h0 ha hra hb hrb hea hbl SL
  subst e1
  subst e2
  subst e3
  subst e4
  subst e5
  subst ha
  subst hb
  have HRA := Lib.hid hra
  have HRB := Lib.hid hrb
  have HEA := Lib.hid hea
  clear hra hrb hea
  go_enter Try.func24, Try.ntmps24
  go_wp2_with (first | (go_at_call 21; (with_reducible refine (SL.out _).mono ?_); rintro e w1 ⟨rfl, hk1⟩; rw [leaf_same]; have HK1 := Lib.hid hk1; obtain ⟨ga0, ga1, ga2, ga3, ga4, _⟩ := boxed (w := w) (h := ⟨k, tx, nn, at_, some ⟨ta, to, none⟩, ll, lc⟩) (Kp.trans ((Kp.refl _).alloc _) hk1); obtain ⟨gb0, gb1, gb2, gb3, gb4, _⟩ := boxed (h := ⟨k, tx, nn, at_, some ⟨tb, tp, none⟩, ll, lc2⟩) hk1; simp only [World.size_alloc] at ga0 ga1 ga2 ga3 ga4 gb0 gb1 gb2 gb3 gb4; clear hk1))
  clear ga0 ga1 ga2 ga3 ga4 gb0 gb1 gb2 gb3 gb4
  go_loopw [5] (fun i wr => ∃ n : Nat, n ≤ ll ∧ i = .int .i64 n ∧ Kp ((w.alloc (.cells #[.int .i64 k, .string tx, .int .u64 nn, .int .i64 at_, .slice (some ⟨ta, to, none⟩) ll lc] 25)).alloc (.cells #[.int .i64 k, .string tx, .int .u64 nn, .int .i64 at_, .slice (some ⟨tb, tp, none⟩) ll lc2] 25)) wr) (fun i _ => ll - (intOf i).toNat)
  case atStart => exact ⟨0, by omega, rfl, HK1.out⟩
  case round =>
    obtain ⟨n, hn, rfl, hkr⟩ := hrel
    obtain ⟨ga0, ga1, ga2, ga3, ga4, _⟩ := boxed (w := w) (h := ⟨k, tx, nn, at_, some ⟨ta, to, none⟩, ll, lc⟩) (Kp.trans ((Kp.refl _).alloc _) hkr)
    obtain ⟨gb0, gb1, gb2, gb3, gb4, _⟩ := boxed (h := ⟨k, tx, nn, at_, some ⟨tb, tp, none⟩, ll, lc2⟩) hkr
    simp only [World.size_alloc] at ga0 ga1 ga2 ga3 ga4 gb0 gb1 gb2 gb3 gb4
    have HKR := Lib.hid hkr
    have HKW := Lib.hid (((Kp.refl w).alloc _).alloc _ |>.trans hkr)
    clear hkr ga0 ga1 ga2 ga3 gb0 gb1 gb2 gb3
    by_cases hlt : n < ll
    · obtain ⟨X, hX⟩ : ∃ X, A.kids[n]? = some X := ⟨_, List.getElem?_eq_getElem (by have := HEA.out; omega)⟩
      have HX := Lib.hid hX
      clear hX
      obtain ⟨x0, x1, x2, x3, x4⟩ := node_at (HKW.out.range (HRA.out n hlt))
      obtain ⟨y0, y1, y2, y3, y4⟩ := node_at (HKW.out.range (HRB.out n hlt))
      have hla := lt_of_cell x0
      have hlb := lt_of_cell y0
      have j1 : (0 : Int) ≤ n := by omega
      have j2 : (n : Int) < ll := by omega
      have KWD : Hid (Kp w wr.drew) := Lib.hid (HKW.out.trans (Kp.refl wr).drew)
      have LX := Lib.hid ((HH.out n X HX.out).keep KWD.out)
      have LY := Lib.hid ((HG.out n X HX.out).keep KWD.out)
      have CX := Lib.hid (IH.out X (K n) (J n) wr.drew LX.out LY.out)
      go_wp2_with fail
      go_region_held3 (fun w' => w'.cell? ⟨w.heap.size, 4, none⟩ = some (.slice (some ⟨ta, to, none⟩) ll lc) ∧ w'.cell? ⟨ta, to + n * 5, none⟩ = some (.int .i64 (K n).k) ∧ w'.cell? ⟨ta, to + n * 5 + 1, none⟩ = some (.string (K n).tx) ∧ w'.cell? ⟨ta, to + n * 5 + 2, none⟩ = some (.int .u64 (K n).n) ∧ w'.cell? ⟨ta, to + n * 5 + 3, none⟩ = some (.int .i64 (K n).at_) ∧ w'.cell? ⟨ta, to + n * 5 + 4, none⟩ = some (.slice (K n).la (K n).ll (K n).lc) ∧ w'.cell? ⟨w.heap.size + 1, 4, none⟩ = some (.slice (some ⟨tb, tp, none⟩) ll lc2) ∧ w'.cell? ⟨tb, tp + n * 5, none⟩ = some (.int .i64 (J n).k) ∧ w'.cell? ⟨tb, tp + n * 5 + 1, none⟩ = some (.string (J n).tx) ∧ w'.cell? ⟨tb, tp + n * 5 + 2, none⟩ = some (.int .u64 (J n).n) ∧ w'.cell? ⟨tb, tp + n * 5 + 3, none⟩ = some (.int .i64 (J n).at_) ∧ w'.cell? ⟨tb, tp + n * 5 + 4, none⟩ = some (.slice (J n).la (J n).ll (J n).lc))
        (first | exact ⟨ga4, x0, x1, x2, x3, x4, gb4, y0, y1, y2, y3, y4⟩ | exact ⟨hk6.cellv ga4, hk6.cellv x0, hk6.cellv x1, hk6.cellv x2, hk6.cellv x3, hk6.cellv x4, hk6.cellv gb4, hk6.cellv y0, hk6.cellv y1, hk6.cellv y2, hk6.cellv y3, hk6.cellv y4⟩)
        ((first | (go_at_call 24; (with_reducible refine CX.out.mono ?_); rintro e w6 ⟨rfl, hk6⟩)))
      go_wp2_with fail
      go_roundw
      case rel => exact ⟨n + 1, by omega, by go_num, (HKR.out.trans (Kp.refl wr).drew).trans hk6⟩
      case measure => simp [intOf]; omega
    · have hz : ¬ ((n : Int) < (ll : Int)) := by omega
      obtain rfl : n = ll := by omega
      go_wp2_with fail
      go_ret
      exact ⟨rfl, HKW.out⟩
set_option maxHeartbeats 3200000 in
set_option maxRecDepth 100000 in
theorem exact_none (A : Nd) (h g : Hn) (K J : Nat → Hn) (w : World) (t : Top w A0 A h K) (u : Top w A0 A g J) (h0 : h.ll = 0) :
    Calls Try.prog 24 #[h.val, g.val] w fun e w' => e = .returned (.bool true) ∧ Kp w w' := by
  have e1 : h.k = g.k := t.ek.symm.trans u.ek
  have e2 : h.tx = g.tx := t.et.symm.trans u.et
  have e3 : h.n = g.n := t.en.symm.trans u.en
  have e5 : h.at_ = g.at_ := t.ea.symm.trans u.ea
  have e4 : h.ll = g.ll := t.es.trans u.es.symm
  have SL := Lib.hid (fun (W : World) => c_rSame 1 _ _ _ _ W (leaf_lies W h A0 t.rk t.rn t.rt) (leaf_lies W h A0 t.rk t.rn t.rt))
  clear t u
  obtain ⟨k, tx, nn, at_, la, ll, lc⟩ := h
  obtain ⟨k2, tx2, n2, at2, la2, ll2, lc2⟩ := g
  simp only at e1 e2 e3 e4 e5 h0 SL
  subst e1
  subst e2
  subst e3
  subst e4
  subst e5
  subst h0
  go_enter Try.func24, Try.ntmps24
  go_wp2_with (first | (go_at_call 21; (with_reducible refine (SL.out _).mono ?_); rintro e w1 ⟨rfl, hk1⟩; rw [leaf_same]; have HK1 := Lib.hid hk1; obtain ⟨ga0, ga1, ga2, ga3, ga4, _⟩ := boxed (w := w) (h := ⟨k, tx, nn, at_, la, 0, lc⟩) (Kp.trans ((Kp.refl _).alloc _) hk1); obtain ⟨gb0, gb1, gb2, gb3, gb4, _⟩ := boxed (h := ⟨k, tx, nn, at_, la2, 0, lc2⟩) hk1; simp only [World.size_alloc] at ga0 ga1 ga2 ga3 ga4 gb0 gb1 gb2 gb3 gb4; clear hk1))
  clear ga0 ga1 ga2 ga3 ga4 gb0 gb1 gb2 gb3 gb4
  go_loopw [5] (fun i wr => i = .int .i64 0 ∧ Kp ((w.alloc (.cells #[.int .i64 k, .string tx, .int .u64 nn, .int .i64 at_, .slice la 0 lc] 25)).alloc (.cells #[.int .i64 k, .string tx, .int .u64 nn, .int .i64 at_, .slice la2 0 lc2] 25)) wr) (fun i _ => 0)
  case atStart => exact ⟨rfl, HK1.out⟩
  case round =>
    obtain ⟨rfl, hkr⟩ := hrel
    obtain ⟨_, _, _, _, ga4, _⟩ := boxed (w := w) (h := ⟨k, tx, nn, at_, la, 0, lc⟩) (Kp.trans ((Kp.refl _).alloc _) hkr)
    simp only at ga4
    go_wp2_with fail
    go_ret
    exact ⟨rfl, (((Kp.refl w).alloc _).alloc _).trans hkr⟩
theorem c_rExact0 : ∀ (r : Nat) (A : Nd) (h g : Hn) (w : World), Lies w A0 r A h → Lies w A0 r A g → Calls Try.prog 24 #[h.val, g.val] w fun e w' => e = .returned (.bool true) ∧ Kp w w'
  | 0, _, _, _, _, hl, _ => hl.elim
  | r + 1, A, h, g, w, hl, hm => by
    obtain ⟨K, t, hh⟩ := hl
    obtain ⟨J, u, hg⟩ := hm
    by_cases h0 : 0 < h.ll
    · exact exact_loop r A h g K J w t hh u hg h0 (fun X h g w a b => c_rExact0 r X h g w a b)
    · exact exact_none A h g K J w t u (by omega)
/-- Exact of two headers that read as one node. -/
theorem c_rExact {r r' : Nat} {A : Nd} {h g : Hn} {w : World} {B B' : Sel} (hl : Lies w B r A h) (hm : Lies w B' r' A g) : Calls Try.prog 24 #[h.val, g.val] w fun e w' => e = .returned (.bool true) ∧ Kp w w' :=
  c_rExact0 (max r r') A h g w ((hl.weak (A0_le _)).mono (by omega)) ((hm.weak (A0_le _)).mono (by omega))
end Go.Proofs.Ytgamenimbkafjaa
