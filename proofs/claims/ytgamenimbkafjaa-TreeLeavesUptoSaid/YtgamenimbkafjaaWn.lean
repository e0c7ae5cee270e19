/- Exact of the reference ends on any two nodes, and says yes of two that read alike. Condition: the nodes lie in memory. -/
import Derived.Test.YtgamenimbkafjaaWc
namespace Go.Proofs.Ytgamenimbkafjaa
open Go.RowKit
set_option linter.unusedVariables false
set_option linter.unusedSimpArgs false

def SayB (w : World) (e : Ending) (w' : World) : Prop := ∃ b, e = .returned (.bool b) ∧ Kp w w'
theorem sayB {w w' : World} {b : Bool} (h : Kp w w') : SayB w (.returned (.bool b)) w' := ⟨b, rfl, h⟩
set_option maxHeartbeats 6400000 in
set_option maxRecDepth 100000 in
theorem exact_any (r : Nat) (A B : Nd) (hx hy : Hn) (K J : Nat → Hn) (w : World) (t : Top w A0 A hx K) (hh : ∀ (i : Nat) (X : Nd), A.kids[i]? = some X → Lies w A0 r X (K i)) (u : Top w A0 B hy J) (hg : ∀ (i : Nat) (X : Nd), B.kids[i]? = some X → Lies w A0 r X (J i))
    (ih : ∀ (X Y : Nd) (h g : Hn) (w : World), Lies w A0 r X h → Lies w A0 r Y g → Calls Try.prog 24 #[h.val, g.val] w (SayB w)) :
    Calls Try.prog 24 #[hx.val, hy.val] w (SayB w) := by
  have hea1 : hx.ll ≤ A.kids.length := Nat.le_of_eq t.es
  have hea2 : A.kids.length ≤ hx.ll := Nat.le_of_eq t.es.symm
  have heb1 : hy.ll ≤ B.kids.length := Nat.le_of_eq u.es
  have heb2 : B.kids.length ≤ hy.ll := Nat.le_of_eq u.es.symm
  have hbl := t.bl
  have HT := Lib.hid t
  have HU := Lib.hid u
  have SL := Lib.hid (fun (W : World) => c_rSame 1 _ _ _ _ W (leaf_lies W hx A0 t.rk t.rn t.rt) (leaf_lies W hy A0 u.rk u.rn u.rt))
  obtain ⟨q, hq⟩ : ∃ q, sameB 1 (.mk hx.k hx.tx hx.n 0 []) (.mk hy.k hy.tx hy.n 0 []) = q := ⟨_, rfl⟩
  have HH := Lib.hid hh
  have HG := Lib.hid hg
  have IH := Lib.hid ih
  clear t hh u hg ih
  by_cases hat : hx.at_ = hy.at_
  case neg =>
    have b1 : (hx.at_ != hy.at_) = true := bne_iff_ne.2 hat
    clear hat
    go_enter Try.func24, Try.ntmps24
    go_wp2_with fail
    go_ret
    exact sayB (((Kp.refl w).alloc _).alloc _)
  have b1 : (hx.at_ != hy.at_) = false := by rw [hat]; simp
  clear hat
  cases q with
  | false =>
    go_enter Try.func24, Try.ntmps24
    go_wp2_with (first | (go_at_call 21; (with_reducible refine (SL.out _).mono ?_); rintro e w1 ⟨rfl, hk1⟩; rw [hq]))
    go_ret
    exact sayB ((((Kp.refl w).alloc _).alloc _).trans hk1)
  | true =>
    by_cases hll : hx.ll = hy.ll
    case neg =>
      have b2 : ((hx.ll : Int) != (hy.ll : Int)) = true := bne_iff_ne.2 (by omega)
      clear hll
      go_enter Try.func24, Try.ntmps24
      go_wp2_with (first | (go_at_call 21; (with_reducible refine (SL.out _).mono ?_); rintro e w1 ⟨rfl, hk1⟩; rw [hq]; obtain ⟨ga0, ga1, ga2, ga3, ga4, _⟩ := boxed (w := w) (h := hx) (Kp.trans ((Kp.refl _).alloc _) hk1); obtain ⟨gb0, gb1, gb2, gb3, gb4, _⟩ := boxed (h := hy) hk1; simp only [World.size_alloc] at ga0 ga1 ga2 ga3 ga4 gb0 gb1 gb2 gb3 gb4))
      go_ret
      exact sayB ((((Kp.refl w).alloc _).alloc _).trans hk1)
    have b2 : ((hx.ll : Int) != (hy.ll : Int)) = false := by rw [hll]; simp
    have hl1 : hx.ll ≤ hy.ll := by omega
    clear hll
    go_enter Try.func24, Try.ntmps24
    go_wp2_with (first | (go_at_call 21; (with_reducible refine (SL.out _).mono ?_); rintro e w1 ⟨rfl, hk1⟩; rw [hq]; have HK1 := Lib.hid hk1; obtain ⟨ga0, ga1, ga2, ga3, ga4, _⟩ := boxed (w := w) (h := hx) (Kp.trans ((Kp.refl _).alloc _) hk1); obtain ⟨gb0, gb1, gb2, gb3, gb4, _⟩ := boxed (h := hy) hk1; simp only [World.size_alloc] at ga0 ga1 ga2 ga3 ga4 gb0 gb1 gb2 gb3 gb4; clear hk1))
    clear ga0 ga1 ga2 ga3 ga4 gb0 gb1 gb2 gb3 gb4
    go_loopw [5] (fun i wr => ∃ n : Nat, n ≤ hx.ll ∧ i = .int .i64 n ∧ Kp ((w.alloc (.cells #[.int .i64 hx.k, .string hx.tx, .int .u64 hx.n, .int .i64 hx.at_, .slice hx.la hx.ll hx.lc] 25)).alloc (.cells #[.int .i64 hy.k, .string hy.tx, .int .u64 hy.n, .int .i64 hy.at_, .slice hy.la hy.ll hy.lc] 25)) wr) (fun i _ => hx.ll - (intOf i).toNat)
    case atStart => exact ⟨0, by omega, rfl, HK1.out⟩
    case round =>
      obtain ⟨n, hn, rfl, hkr⟩ := hrel
      obtain ⟨ga0, ga1, ga2, ga3, ga4, _⟩ := boxed (w := w) (h := hx) (Kp.trans ((Kp.refl _).alloc _) hkr)
      obtain ⟨gb0, gb1, gb2, gb3, gb4, _⟩ := boxed (h := hy) hkr
      simp only [World.size_alloc] at ga0 ga1 ga2 ga3 ga4 gb0 gb1 gb2 gb3 gb4
      have HKR := Lib.hid hkr
      have HKW := Lib.hid (((Kp.refl w).alloc _).alloc _ |>.trans hkr)
      clear hkr ga0 ga1 ga2 ga3 gb0 gb1 gb2 gb3
      by_cases hlt : n < hx.ll
      · obtain ⟨X, hX⟩ : ∃ X, A.kids[n]? = some X := ⟨_, List.getElem?_eq_getElem (by omega)⟩
        obtain ⟨Y, hY⟩ : ∃ Y, B.kids[n]? = some Y := ⟨_, List.getElem?_eq_getElem (by omega)⟩
        obtain ⟨ta, to, ha, hra⟩ := HT.out.tl.at (by omega)
        obtain ⟨tb, tp, hb, hrb⟩ := HU.out.tl.at (by omega)
        obtain ⟨x0, x1, x2, x3, x4⟩ := node_at (HKW.out.range (hra n hlt))
        obtain ⟨y0, y1, y2, y3, y4⟩ := node_at (HKW.out.range (hrb n (by omega)))
        rw [ha] at ga4
        rw [hb] at gb4
        have hla := lt_of_cell x0
        have hlb := lt_of_cell y0
        have j1 : (0 : Int) ≤ n := by omega
        have j2 : (n : Int) < hx.ll := by omega
        have j3 : (n : Int) < hy.ll := by omega
        have KWD : Hid (Kp w wr.drew) := Lib.hid (HKW.out.trans (Kp.refl wr).drew)
        have CX := Lib.hid (IH.out X Y (K n) (J n) wr.drew ((HH.out n X hX).keep KWD.out) ((HG.out n Y hY).keep KWD.out))
        clear hra hrb ha hb hX hY
        go_wp2_with fail
        go_region_held3 (fun w' => w'.cell? ⟨w.heap.size, 4, none⟩ = some (.slice (some ⟨ta, to, none⟩) hx.ll hx.lc) ∧ w'.cell? ⟨ta, to + n * 5, none⟩ = some (.int .i64 (K n).k) ∧ w'.cell? ⟨ta, to + n * 5 + 1, none⟩ = some (.string (K n).tx) ∧ w'.cell? ⟨ta, to + n * 5 + 2, none⟩ = some (.int .u64 (K n).n) ∧ w'.cell? ⟨ta, to + n * 5 + 3, none⟩ = some (.int .i64 (K n).at_) ∧ w'.cell? ⟨ta, to + n * 5 + 4, none⟩ = some (.slice (K n).la (K n).ll (K n).lc) ∧ w'.cell? ⟨w.heap.size + 1, 4, none⟩ = some (.slice (some ⟨tb, tp, none⟩) hy.ll hy.lc) ∧ w'.cell? ⟨tb, tp + n * 5, none⟩ = some (.int .i64 (J n).k) ∧ w'.cell? ⟨tb, tp + n * 5 + 1, none⟩ = some (.string (J n).tx) ∧ w'.cell? ⟨tb, tp + n * 5 + 2, none⟩ = some (.int .u64 (J n).n) ∧ w'.cell? ⟨tb, tp + n * 5 + 3, none⟩ = some (.int .i64 (J n).at_) ∧ w'.cell? ⟨tb, tp + n * 5 + 4, none⟩ = some (.slice (J n).la (J n).ll (J n).lc))
          (first | exact ⟨ga4, x0, x1, x2, x3, x4, gb4, y0, y1, y2, y3, y4⟩ | exact ⟨hk6.cellv ga4, hk6.cellv x0, hk6.cellv x1, hk6.cellv x2, hk6.cellv x3, hk6.cellv x4, hk6.cellv gb4, hk6.cellv y0, hk6.cellv y1, hk6.cellv y2, hk6.cellv y3, hk6.cellv y4⟩)
          ((first | (go_at_call 24; (with_reducible refine CX.out.mono ?_); rintro e w6 ⟨bq, rfl, hk6⟩)))
        cases bq with
        | true =>
          go_wp2_with fail
          go_roundw
          case rel => exact ⟨n + 1, by omega, by go_num, (HKR.out.trans (Kp.refl wr).drew).trans hk6⟩
          case measure => simp [intOf]; omega
        | false =>
          go_wp2_with fail
          go_ret
          exact sayB ((HKW.out.trans (Kp.refl wr).drew).trans hk6)
      · have hz : ¬ ((n : Int) < (hx.ll : Int)) := by omega
        go_wp2_with fail
        go_ret
        exact sayB (HKW.out)
theorem c_rExactAny0 : ∀ (r : Nat) (A B : Nd) (h g : Hn) (w : World), Lies w A0 r A h → Lies w A0 r B g → Calls Try.prog 24 #[h.val, g.val] w (SayB w)
  | 0, _, _, _, _, _, hl, _ => hl.elim
  | r + 1, A, B, h, g, w, hl, hm => by
    obtain ⟨K, t, hh⟩ := hl
    obtain ⟨J, u, hg⟩ := hm
    exact exact_any r A B h g K J w t hh u hg (fun X Y h g w a b => c_rExactAny0 r X Y h g w a b)
/-- Exact of any two nodes: it ends, and says yes where they read alike. -/
theorem c_rExactOr {r r' : Nat} {A B : Nd} {h g : Hn} {w : World} {S S' : Sel} (hl : Lies w S r A h) (hm : Lies w S' r' B g) : Calls Try.prog 24 #[h.val, g.val] w fun e w' => ∃ b, e = .returned (.bool b) ∧ (A = B → b = true) ∧ Kp w w' := by
  by_cases e : A = B
  · subst e
    exact (c_rExact hl hm).mono (fun e w' ⟨h1, h2⟩ => ⟨true, h1, fun _ => rfl, h2⟩)
  · exact (c_rExactAny0 (max r r') A B h g w ((hl.weak (A0_le _)).mono (by omega)) ((hm.weak (A0_le _)).mono (by omega))).mono (fun e' w' ⟨b, h1, h2⟩ => ⟨b, h1, fun q => absurd q e, h2⟩)
end Go.Proofs.Ytgamenimbkafjaa
