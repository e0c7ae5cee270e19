/- Which nodes are the same but for their places: Same of package tree, and of the reference. Condition: the nodes lie in memory. -/
import Derived.Test.YtgamenimbkafjaaO
namespace Go.Proofs.Ytgamenimbkafjaa
open Go.RowKit
set_option linter.unusedVariables false
set_option linter.unusedSimpArgs false

/-- The same in all but their places, r nodes deep. -/
def SameN : Nat → Nd → Nd → Prop
  | 0, _, _ => True
  | r + 1, A, B => A.k = B.k ∧ A.tx = B.tx ∧ A.n = B.n ∧ A.kids.length = B.kids.length ∧ ∀ (i : Nat) (X Y : Nd), A.kids[i]? = some X → B.kids[i]? = some Y → SameN r X Y
noncomputable def sameB (r : Nat) (A B : Nd) : Bool := @decide (SameN r A B) (Classical.propDecidable _)
theorem sameB_yes {r : Nat} {A B : Nd} (h : SameN r A B) : sameB r A B = true := by unfold sameB; exact @decide_eq_true _ (Classical.propDecidable _) h
theorem sameB_no {r : Nat} {A B : Nd} (h : ¬ SameN r A B) : sameB r A B = false := by unfold sameB; exact @decide_eq_false _ (Classical.propDecidable _) h
theorem sameB_true {r : Nat} {A B : Nd} (h : sameB r A B = true) : SameN r A B := by unfold sameB at h; exact @of_decide_eq_true _ (Classical.propDecidable _) h
theorem sameB_false {r : Nat} {A B : Nd} (h : sameB r A B = false) : ¬ SameN r A B := by unfold sameB at h; exact @of_decide_eq_false _ (Classical.propDecidable _) h
theorem sameN_symm : ∀ (r : Nat) {A B : Nd}, SameN r A B → SameN r B A
  | 0, _, _, _ => trivial
  | r + 1, A, B, ⟨h1, h2, h3, h4, h5⟩ => ⟨h1.symm, h2.symm, h3.symm, h4.symm, fun i X Y hX hY => sameN_symm r (h5 i Y X hY hX)⟩
theorem sameB_symm (r : Nat) (A B : Nd) : sameB r A B = sameB r B A := by
  apply Bool.eq_iff_iff.2
  exact ⟨fun h => sameB_yes (sameN_symm r (sameB_true h)), fun h => sameB_yes (sameN_symm r (sameB_true h))⟩
theorem str_ne {a b : ByteArray} (h : a ≠ b) : (a.toList == b.toList) = false ∧ (a.toList != b.toList) = true := by
  have h1 : a.toList ≠ b.toList := fun e => h (by
    rw [ByteArray.toList_eq, ByteArray.toList_eq] at e
    exact ByteArray.ext (Array.toList_inj.1 e))
  exact ⟨beq_eq_false_iff_ne.2 h1, bne_iff_ne.2 h1⟩
theorem ret_bool {a b : Bool} (h : a = b) : Ending.returned (.bool a) = .returned (.bool b) := by rw [h]
set_option maxHeartbeats 1600000 in
set_option maxRecDepth 100000 in
theorem rSame_k (r : Nat) (A B : Nd) (h g : Hn) (w : World) (e1 : h.k ≠ g.k) (hv : sameB (r + 1) A B = false) : Calls Try.prog 21 #[h.val, g.val] w fun e w' => e = .returned (.bool (sameB (r + 1) A B)) ∧ Kp w w' := by
  have HV := Lib.hid hv
  rw [hv]
  obtain ⟨k, tx, n, at_, la, ll, lc⟩ := h
  obtain ⟨k2, tx2, n2, at2, la2, ll2, lc2⟩ := g
  simp only at e1
  have q1 : (k == k2) = false := beq_eq_false_iff_ne.2 e1
  have q2 : (k != k2) = true := bne_iff_ne.2 e1
  clear e1
  clear hv
  go_enter Try.func21, Try.ntmps21
  go_wp2_with fail
  go_ret
  exact ⟨rfl, ((Kp.refl w).alloc _).alloc _⟩
set_option maxHeartbeats 1600000 in
set_option maxRecDepth 100000 in
theorem rSame_t (r : Nat) (A B : Nd) (h g : Hn) (w : World) (e1 : h.k = g.k) (e2 : h.tx ≠ g.tx) (hv : sameB (r + 1) A B = false) : Calls Try.prog 21 #[h.val, g.val] w fun e w' => e = .returned (.bool (sameB (r + 1) A B)) ∧ Kp w w' := by
  have HV := Lib.hid hv
  rw [hv]
  obtain ⟨k, tx, n, at_, la, ll, lc⟩ := h
  obtain ⟨k2, tx2, n2, at2, la2, ll2, lc2⟩ := g
  simp only at e1 e2
  subst e1
  obtain ⟨q1, q2⟩ := str_ne e2
  clear e2
  clear hv
  go_enter Try.func21, Try.ntmps21
  go_wp2_with fail
  go_ret
  exact ⟨rfl, ((Kp.refl w).alloc _).alloc _⟩
set_option maxHeartbeats 1600000 in
set_option maxRecDepth 100000 in
theorem rSame_n (r : Nat) (A B : Nd) (h g : Hn) (w : World) (e1 : h.k = g.k) (e2 : h.tx = g.tx) (e3 : h.n ≠ g.n) (hv : sameB (r + 1) A B = false) : Calls Try.prog 21 #[h.val, g.val] w fun e w' => e = .returned (.bool (sameB (r + 1) A B)) ∧ Kp w w' := by
  have HV := Lib.hid hv
  rw [hv]
  obtain ⟨k, tx, n, at_, la, ll, lc⟩ := h
  obtain ⟨k2, tx2, n2, at2, la2, ll2, lc2⟩ := g
  simp only at e1 e2 e3
  subst e1
  subst e2
  have q1 : (n == n2) = false := beq_eq_false_iff_ne.2 e3
  have q2 : (n != n2) = true := bne_iff_ne.2 e3
  clear e3
  clear hv
  go_enter Try.func21, Try.ntmps21
  go_wp2_with fail
  go_ret
  exact ⟨rfl, ((Kp.refl w).alloc _).alloc _⟩
set_option maxHeartbeats 1600000 in
set_option maxRecDepth 100000 in
theorem rSame_l (r : Nat) (A B : Nd) (h g : Hn) (w : World) (e1 : h.k = g.k) (e2 : h.tx = g.tx) (e3 : h.n = g.n) (e4 : h.ll ≠ g.ll) (hv : sameB (r + 1) A B = false) : Calls Try.prog 21 #[h.val, g.val] w fun e w' => e = .returned (.bool (sameB (r + 1) A B)) ∧ Kp w w' := by
  have HV := Lib.hid hv
  rw [hv]
  obtain ⟨k, tx, n, at_, la, ll, lc⟩ := h
  obtain ⟨k2, tx2, n2, at2, la2, ll2, lc2⟩ := g
  simp only at e1 e2 e3 e4
  subst e1
  subst e2
  subst e3
  have e5 : (ll : Int) ≠ (ll2 : Int) := by omega
  have q1 : ((ll : Int) == (ll2 : Int)) = false := beq_eq_false_iff_ne.2 e5
  have q2 : ((ll : Int) != (ll2 : Int)) = true := bne_iff_ne.2 e5
  clear e4
  clear hv
  go_enter Try.func21, Try.ntmps21
  go_wp2_with fail
  go_ret
  exact ⟨rfl, ((Kp.refl w).alloc _).alloc _⟩
set_option maxHeartbeats 6400000 in
set_option maxRecDepth 100000 in
theorem rSame_loop (r : Nat) (A B : Nd) (h g : Hn) (K J : Nat → Hn) (w : World) (t : Top w A0 A h K) (hh : ∀ i X, A.kids[i]? = some X → Lies w A0 r X (K i)) (u : Top w A0 B g J) (hg : ∀ i X, B.kids[i]? = some X → Lies w A0 r X (J i))
    (e1 : h.k = g.k) (e2 : h.tx = g.tx) (e3 : h.n = g.n) (e4 : h.ll = g.ll) (h0 : 0 < h.ll)
    (ih : ∀ (X Y : Nd) (h g : Hn) (w : World), Lies w A0 r X h → Lies w A0 r Y g → Calls Try.prog 21 #[h.val, g.val] w fun e w' => e = .returned (.bool (sameB r X Y)) ∧ Kp w w') :
    Calls Try.prog 21 #[h.val, g.val] w fun e w' => e = .returned (.bool (sameB (r + 1) A B)) ∧ Kp w w' := by
  obtain ⟨ta, to, ha, hra⟩ := t.tl.at h0
  obtain ⟨tb, tp, hb, hrb⟩ := u.tl.at (by omega)
  have hea := t.es
  have heb := u.es
  have hbl := t.bl
  have HTOP := Lib.hid (show A.k = B.k ∧ A.tx = B.tx ∧ A.n = B.n ∧ A.kids.length = B.kids.length from ⟨by rw [t.ek, u.ek, e1], by rw [t.et, u.et, e2], by rw [t.en, u.en, e3], by omega⟩)
  have HH := Lib.hid hh
  have HG := Lib.hid hg
  have IH := Lib.hid ih
  clear t hh u hg ih
  obtain ⟨k, tx, nn, at_, la, ll, lc⟩ := h
  obtain ⟨k2, tx2, n2, at2, la2, ll2, lc2⟩ := g
  simp only at e1 e2 e3 e4 h0 ha hra hb hrb hea heb hbl
  subst e1
  subst e2
  subst e3
  subst e4
  subst ha
  subst hb
  have HRA := Lib.hid hra
  have HRB := Lib.hid hrb
  have HEA := Lib.hid hea
  have HEB := Lib.hid heb
  clear hra hrb hea heb
  go_enter Try.func21, Try.ntmps21
  go_wp2_with fail
  go_loopw [5] (fun i wr => ∃ n : Nat, n ≤ ll ∧ i = .int .i64 n ∧ Hid (∀ (i : Nat) (X Y : Nd), i < n → A.kids[i]? = some X → B.kids[i]? = some Y → SameN r X Y) ∧ Kp ((w.alloc (.cells #[.int .i64 k, .string tx, .int .u64 nn, .int .i64 at_, .slice (some ⟨ta, to, none⟩) ll lc] 25)).alloc (.cells #[.int .i64 k, .string tx, .int .u64 nn, .int .i64 at2, .slice (some ⟨tb, tp, none⟩) ll lc2] 25)) wr) (fun i _ => ll - (intOf i).toNat)
  case atStart => exact ⟨0, by omega, rfl, Lib.hid (fun i X Y hi => absurd hi (by omega)), Kp.refl _⟩
  case round =>
    obtain ⟨n, hn, rfl, HN, hkr⟩ := hrel
    obtain ⟨ga0, ga1, ga2, ga3, ga4, _⟩ := boxed (h := ⟨k, tx, nn, at_, some ⟨ta, to, none⟩, ll, lc⟩) (Kp.trans ((Kp.refl _).alloc _) hkr)
    obtain ⟨gb0, gb1, gb2, gb3, gb4, _⟩ := boxed (h := ⟨k, tx, nn, at2, some ⟨tb, tp, none⟩, ll, lc2⟩) hkr
    simp only [World.size_alloc] at ga0 ga1 ga2 ga3 ga4 gb0 gb1 gb2 gb3 gb4
    have HKR := Lib.hid hkr
    have HKW := Lib.hid (((Kp.refl w).alloc _).alloc _ |>.trans hkr)
    clear hkr ga0 ga1 ga2 ga3 gb0 gb1 gb2 gb3
    by_cases hlt : n < ll
    · obtain ⟨X, hX⟩ : ∃ X, A.kids[n]? = some X := ⟨_, List.getElem?_eq_getElem (by have := HEA.out; omega)⟩
      obtain ⟨Y, hY⟩ : ∃ Y, B.kids[n]? = some Y := ⟨_, List.getElem?_eq_getElem (by have := HEB.out; omega)⟩
      have HX := Lib.hid hX
      have HY := Lib.hid hY
      clear hX hY
      obtain ⟨x0, x1, x2, x3, x4⟩ := node_at (HKW.out.range (HRA.out n hlt))
      obtain ⟨y0, y1, y2, y3, y4⟩ := node_at (HKW.out.range (HRB.out n hlt))
      have hla := lt_of_cell x0
      have hlb := lt_of_cell y0
      have j1 : (0 : Int) ≤ n := by omega
      have j2 : (n : Int) < ll := by omega
      have KWD : Hid (Kp w wr.drew) := Lib.hid (HKW.out.trans (Kp.refl wr).drew)
      have LX := Lib.hid ((HH.out n X HX.out).keep KWD.out)
      have LY := Lib.hid ((HG.out n Y HY.out).keep KWD.out)
      have CX := Lib.hid (IH.out X Y (K n) (J n) wr.drew LX.out LY.out)
      cases c2 : sameB r X Y with
      | false =>
        have hv2 := Lib.hid (sameB_no (r := r + 1) (A := A) (B := B) (fun e => sameB_false c2 (e.2.2.2.2 n X Y HX.out HY.out)))
        go_wp2_with fail
        go_region_held3 (fun w' => w'.cell? ⟨w.heap.size, 4, none⟩ = some (.slice (some ⟨ta, to, none⟩) ll lc) ∧ w'.cell? ⟨ta, to + n * 5, none⟩ = some (.int .i64 (K n).k) ∧ w'.cell? ⟨ta, to + n * 5 + 1, none⟩ = some (.string (K n).tx) ∧ w'.cell? ⟨ta, to + n * 5 + 2, none⟩ = some (.int .u64 (K n).n) ∧ w'.cell? ⟨ta, to + n * 5 + 3, none⟩ = some (.int .i64 (K n).at_) ∧ w'.cell? ⟨ta, to + n * 5 + 4, none⟩ = some (.slice (K n).la (K n).ll (K n).lc) ∧ w'.cell? ⟨w.heap.size + 1, 4, none⟩ = some (.slice (some ⟨tb, tp, none⟩) ll lc2) ∧ w'.cell? ⟨tb, tp + n * 5, none⟩ = some (.int .i64 (J n).k) ∧ w'.cell? ⟨tb, tp + n * 5 + 1, none⟩ = some (.string (J n).tx) ∧ w'.cell? ⟨tb, tp + n * 5 + 2, none⟩ = some (.int .u64 (J n).n) ∧ w'.cell? ⟨tb, tp + n * 5 + 3, none⟩ = some (.int .i64 (J n).at_) ∧ w'.cell? ⟨tb, tp + n * 5 + 4, none⟩ = some (.slice (J n).la (J n).ll (J n).lc))
          (first | exact ⟨ga4, x0, x1, x2, x3, x4, gb4, y0, y1, y2, y3, y4⟩ | exact ⟨hk6.cellv ga4, hk6.cellv x0, hk6.cellv x1, hk6.cellv x2, hk6.cellv x3, hk6.cellv x4, hk6.cellv gb4, hk6.cellv y0, hk6.cellv y1, hk6.cellv y2, hk6.cellv y3, hk6.cellv y4⟩)
          ((first | (go_at_call 21; (with_reducible refine CX.out.mono ?_); rintro e w6 ⟨rfl, hk6⟩; rw [c2])))
        go_wp2_with fail
        go_ret
        exact ⟨ret_bool hv2.out.symm, KWD.out.trans hk6⟩
      | true =>
        have hxy := Lib.hid (sameB_true c2)
        go_wp2_with fail
        go_region_held3 (fun w' => w'.cell? ⟨w.heap.size, 4, none⟩ = some (.slice (some ⟨ta, to, none⟩) ll lc) ∧ w'.cell? ⟨ta, to + n * 5, none⟩ = some (.int .i64 (K n).k) ∧ w'.cell? ⟨ta, to + n * 5 + 1, none⟩ = some (.string (K n).tx) ∧ w'.cell? ⟨ta, to + n * 5 + 2, none⟩ = some (.int .u64 (K n).n) ∧ w'.cell? ⟨ta, to + n * 5 + 3, none⟩ = some (.int .i64 (K n).at_) ∧ w'.cell? ⟨ta, to + n * 5 + 4, none⟩ = some (.slice (K n).la (K n).ll (K n).lc) ∧ w'.cell? ⟨w.heap.size + 1, 4, none⟩ = some (.slice (some ⟨tb, tp, none⟩) ll lc2) ∧ w'.cell? ⟨tb, tp + n * 5, none⟩ = some (.int .i64 (J n).k) ∧ w'.cell? ⟨tb, tp + n * 5 + 1, none⟩ = some (.string (J n).tx) ∧ w'.cell? ⟨tb, tp + n * 5 + 2, none⟩ = some (.int .u64 (J n).n) ∧ w'.cell? ⟨tb, tp + n * 5 + 3, none⟩ = some (.int .i64 (J n).at_) ∧ w'.cell? ⟨tb, tp + n * 5 + 4, none⟩ = some (.slice (J n).la (J n).ll (J n).lc))
          (first | exact ⟨ga4, x0, x1, x2, x3, x4, gb4, y0, y1, y2, y3, y4⟩ | exact ⟨hk6.cellv ga4, hk6.cellv x0, hk6.cellv x1, hk6.cellv x2, hk6.cellv x3, hk6.cellv x4, hk6.cellv gb4, hk6.cellv y0, hk6.cellv y1, hk6.cellv y2, hk6.cellv y3, hk6.cellv y4⟩)
          ((first | (go_at_call 21; (with_reducible refine CX.out.mono ?_); rintro e w6 ⟨rfl, hk6⟩; rw [c2])))
        go_wp2_with fail
        go_roundw
        case rel => exact ⟨n + 1, by omega, by go_num, Lib.hid (fun i X' Y' hi hX' hY' => by
          by_cases e : i = n
          · subst e
            obtain rfl := Option.some.inj (hX'.symm.trans HX.out)
            obtain rfl := Option.some.inj (hY'.symm.trans HY.out)
            exact hxy.out
          · exact HN.out i X' Y' (by omega) hX' hY'), (HKR.out.trans (Kp.refl wr).drew).trans hk6⟩
        case measure => simp [intOf]; omega
    · have hv2 := Lib.hid (sameB_yes (r := r + 1) (A := A) (B := B) ⟨HTOP.out.1, HTOP.out.2.1, HTOP.out.2.2.1, HTOP.out.2.2.2, fun i X Y hX hY => HN.out i X Y (by have := (List.getElem?_eq_some_iff.1 hX).1; have := HEA.out; omega) hX hY⟩)
      have hz : ¬ ((n : Int) < (ll : Int)) := by omega
      obtain rfl : n = ll := by omega
      go_wp2_with fail
      go_ret
      exact ⟨ret_bool hv2.out.symm, HKW.out⟩
set_option maxHeartbeats 1600000 in
set_option maxRecDepth 100000 in
theorem rSame_none (r : Nat) (A B : Nd) (h g : Hn) (w : World) (e1 : h.k = g.k) (e2 : h.tx = g.tx) (e3 : h.n = g.n) (e4 : h.ll = g.ll) (h0 : h.ll = 0) (hv : sameB (r + 1) A B = true) :
    Calls Try.prog 21 #[h.val, g.val] w fun e w' => e = .returned (.bool (sameB (r + 1) A B)) ∧ Kp w w' := by
  rw [hv]
  obtain ⟨k, tx, n, at_, la, ll, lc⟩ := h
  obtain ⟨k2, tx2, n2, at2, la2, ll2, lc2⟩ := g
  simp only at e1 e2 e3 e4 h0
  subst e1
  subst e2
  subst e3
  subst e4
  subst h0
  clear hv
  go_enter Try.func21, Try.ntmps21
  go_wp2_with fail
  go_loopw [5] (fun i wr => i = .int .i64 0 ∧ Kp ((w.alloc (.cells #[.int .i64 k, .string tx, .int .u64 n, .int .i64 at_, .slice la 0 lc] 25)).alloc (.cells #[.int .i64 k, .string tx, .int .u64 n, .int .i64 at2, .slice la2 0 lc2] 25)) wr) (fun i _ => 0)
  case atStart => exact ⟨rfl, Kp.refl _⟩
  case round =>
    obtain ⟨rfl, hkr⟩ := hrel
    obtain ⟨_, _, _, _, ga4, _⟩ := boxed (h := ⟨k, tx, n, at_, la, 0, lc⟩) (Kp.trans ((Kp.refl _).alloc _) hkr)
    simp only at ga4
    go_wp2_with fail
    go_ret
    exact ⟨rfl, (((Kp.refl w).alloc _).alloc _).trans hkr⟩
theorem c_rSame : ∀ (r : Nat) (A B : Nd) (h g : Hn) (w : World), Lies w A0 r A h → Lies w A0 r B g → Calls Try.prog 21 #[h.val, g.val] w fun e w' => e = .returned (.bool (sameB r A B)) ∧ Kp w w'
  | 0, _, _, _, _, _, hl, _ => hl.elim
  | r + 1, A, B, h, g, w, hl, hm => by
    obtain ⟨K, t, hh⟩ := hl
    obtain ⟨J, u, hg⟩ := hm
    by_cases e1 : h.k = g.k
    · by_cases e2 : h.tx = g.tx
      · by_cases e3 : h.n = g.n
        · by_cases e4 : h.ll = g.ll
          · by_cases h0 : 0 < h.ll
            · exact rSame_loop r A B h g K J w t hh u hg e1 e2 e3 e4 h0 (fun X Y h g w a b => c_rSame r X Y h g w a b)
            · have hlen := t.es
              refine rSame_none r A B h g w e1 e2 e3 e4 (by omega) (sameB_yes ⟨by rw [t.ek, u.ek, e1], by rw [t.et, u.et, e2], by rw [t.en, u.en, e3], by have := u.es; omega, fun i X Y hX _ => ?_⟩)
              have := (List.getElem?_eq_some_iff.1 hX).1
              omega
          · exact rSame_l r A B h g w e1 e2 e3 e4 (sameB_no (fun e => e4 (by rw [t.es, u.es]; exact e.2.2.2.1)))
        · exact rSame_n r A B h g w e1 e2 e3 (sameB_no (fun e => e3 (by rw [← t.en, ← u.en]; exact e.2.2.1)))
      · exact rSame_t r A B h g w e1 e2 (sameB_no (fun e => e2 (by rw [← t.et, ← u.et]; exact e.2.1)))
    · exact rSame_k r A B h g w e1 (sameB_no (fun e => e1 (by rw [← t.ek, ← u.ek]; exact e.1)))
end Go.Proofs.Ytgamenimbkafjaa
