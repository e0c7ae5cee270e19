/- How deep and how large a type is, in package types: gaugeWith and what stands on it. Condition: the type lies in memory. -/
import Derived.Test.YtfjflfokmihcpaaT8
import Derived.RegionTactic
namespace Go.Proofs.Ytfjflfokmihcpaa
open Go.RowKit
set_option linter.unusedVariables false
set_option linter.unusedSimpArgs false

theorem zeroZ (w : World) : (zeroValue 63).run Try.prog w = .ok (.agg #[.int .i64 0, .int .i64 0]) w := by kernel_rfl
def szm (s : Nat × Nat) : Value := .agg #[.int .i64 s.1, .int .i64 s.2]
def gmap (g : ByteArray → Option (Nat × Nat)) (s : ByteArray) : Option Value := (g s).map szm
def szw (s : Nat × Nat × Bool) : Value := .tuple #[.agg #[.int .i64 s.1, .int .i64 s.2.1], .bool s.2.2]
/-- What the closure has captured: the sizes that some names stand for, and itself. -/
structure Env (w : World) (bg bl : Nat) (gm : Option Nat) (g : ByteArray → Option (Nat × Nat)) : Prop where
  eg : w.cell? ⟨bg, 0, none⟩ = some (.map gm)
  el : w.cell? ⟨bl, 0, none⟩ = some (.func (.func 43) #[] #[.pointer (some ⟨bg, 0, none⟩), .pointer (some ⟨bl, 0, none⟩)])
  em : MapOpt w Try.prog 9 gm (gmap g)
theorem Env.keep {w w' : World} {bg bl : Nat} {gm : Option Nat} {g : ByteArray → Option (Nat × Nat)} (h : Env w bg bl gm g) (hk : Kp w w') : Env w' bg bl gm g := ⟨hk.cellv h.eg, hk.cellv h.el, h.em.keep hk⟩

theorem l_param (bg bl : Nat) (gm : Option Nat) (g : ByteArray → Option (Nat × Nat)) (hg : ∀ s x, g s = some x → x.1 ≤ 8 ∧ x.2 ≤ 64) (h : Hd) (w : World) (l : Int) (d c : Nat) (hE : Env w bg bl gm g) (hk : h.k = 12) (hgs : g h.nm = some (d, c)) (hn : h.nm.size ≤ 140737488351232) :
    Calls Try.prog 43 #[h.val, .int .i64 l, .pointer (some ⟨bg, 0, none⟩), .pointer (some ⟨bl, 0, none⟩)] w fun e w' => e = .returned (.tuple #[.agg #[.int .i64 d, .int .i64 c], .bool (decide ((d : Int) ≤ l))]) ∧ Kp w w' := by
  have hE1 := hE.eg
  have HE := Lib.hid hE
  have HN := Lib.hid hn
  have hu := Lib.hid (show (gmap g h.nm).getD (.agg #[.int .i64 0, .int .i64 0]) = .agg #[.int .i64 d, .int .i64 c] by unfold gmap; rw [hgs]; rfl)
  have hok := Lib.hid (show (gmap g h.nm).isSome = true by unfold gmap; rw [hgs]; rfl)
  have hb := lt_of_cell hE1
  clear hE hn hgs hg
  simp only at hb
  go_enter Try.func43, Try.ntmps43
  go_wp2_with (first | ((with_reducible show wpList _ _ _ (⟨some 19, _, _, _, _, _⟩ :: _) _ _); refine wpList_map_opt (d := 19) _ _ 67 9 63 rfl Try.underlying9 Try.underlying67 _ zeroZ gm (gmap g) (by rfl) (HE.out.em.keep (((Kp.refl w).alloc _).alloc _)) h.nm (by rfl) (by have := HN.out; unfold maxLen; omega) _ hu.out _ hok.out ?_))
  go_region
  all_goals go_wp2_with fail
  all_goals exact bodyPost_ret (v := .tuple #[.agg #[.int .i64 d, .int .i64 c], .bool (decide ((d : Int) ≤ l))]) (by simp [results, Try.results43, go_sem]) rfl ⟨rfl, (by repeat (first | exact Kp.refl _ | refine Kp.alloc ?_ _ | refine Kp.setCell ?_ (by simp) _ | refine Kp.drew ?_))⟩
theorem szw3 {d c : Nat} {x y : Bool} (h2 : x = y) : szw (d, c, x) = .tuple #[.agg #[.int .i64 d, .int .i64 c], .bool y] := by subst h2; rfl
/-- What the first question of the closure finds: no size that stands for a parameter. -/
structure Sel0 (g : ByteArray → Option (Nat × Nat)) (h : Hd) (u1 u2 : Int) (ok : Bool) : Prop where
  hu : (gmap g h.nm).getD (.agg #[.int .i64 0, .int .i64 0]) = .agg #[.int .i64 u1, .int .i64 u2]
  hok : (gmap g h.nm).isSome = ok
  no : ok = false ∨ (ok = true ∧ (h.k == 12) = false)
theorem Kp.frz {a w : World} (h : Kp a w) {p : Addr} (hb : p.block < a.heap.size) : w.frozen? p = a.frozen? p := World.frozen?_of_block (h.blk hb)
theorem l_neg (bg bl : Nat) (gm : Option Nat) (g : ByteArray → Option (Nat × Nat)) (h : Hd) (w : World) (l u1 u2 : Int) (ok : Bool) (hE : Env w bg bl gm g) (hS : Sel0 g h u1 u2 ok) (hn : h.nm.size ≤ 140737488351232) (hl : l < 0) :
    Calls Try.prog 43 #[h.val, .int .i64 l, .pointer (some ⟨bg, 0, none⟩), .pointer (some ⟨bl, 0, none⟩)] w fun e w' => e = .returned (szw (0, 0, false)) ∧ Kp w w' := by
  have hE1 := hE.eg
  have HE := Lib.hid hE
  have HN := Lib.hid hn
  have hu := Lib.hid hS.hu
  have hok := Lib.hid hS.hok
  have hb := lt_of_cell hE1
  have hno := hS.no
  clear hE hn hS
  simp only at hb
  rcases hno with rfl | ⟨rfl, b12⟩
  all_goals
    go_enter Try.func43, Try.ntmps43
    go_wp2_with (first | ((with_reducible show wpList _ _ _ (⟨some 19, _, _, _, _, _⟩ :: _) _ _); refine wpList_map_opt (d := 19) _ _ 67 9 63 rfl Try.underlying9 Try.underlying67 _ zeroZ gm (gmap g) (by rfl) (HE.out.em.keep (((Kp.refl w).alloc _).alloc _)) h.nm (by rfl) (by have := HN.out; unfold maxLen; omega) _ hu.out _ hok.out ?_))
    exact bodyPost_ret (v := .tuple #[.agg #[.int .i64 0, .int .i64 0], .bool false]) (by simp [results, Try.results43, go_sem]) rfl ⟨rfl, (by repeat (first | exact Kp.refl _ | refine Kp.alloc ?_ _ | refine Kp.setCell ?_ (by simp) _ | refine Kp.drew ?_))⟩
theorem l_bad (bg bl : Nat) (gm : Option Nat) (g : ByteArray → Option (Nat × Nat)) (T : Ty) (K : Nat → Hd) (h : Hd) (w : World) (l u1 u2 : Int) (ok : Bool) (hE : Env w bg bl gm g) (hS : Sel0 g h u1 u2 ok) (t : Top w A0 T h K) (hl : 0 ≤ l) (hf : fm h T.fn = false) :
    Calls Try.prog 43 #[h.val, .int .i64 l, .pointer (some ⟨bg, 0, none⟩), .pointer (some ⟨bl, 0, none⟩)] w fun e w' => e = .returned (szw (0, 0, false)) ∧ Kp w w' := by
  have hE1 := hE.eg
  have HE := Lib.hid hE
  have HN := Lib.hid t.rn
  have ht := Lib.hid t
  have hu := Lib.hid hS.hu
  have hok := Lib.hid hS.hok
  have hb := lt_of_cell hE1
  have hno := hS.no
  clear hE t hS
  simp only at hb
  rcases hno with rfl | ⟨rfl, b12⟩
  all_goals
    go_enter Try.func43, Try.ntmps43
    go_wp2_with (first | ((with_reducible show wpList _ _ _ (⟨some 19, _, _, _, _, _⟩ :: _) _ _); refine wpList_map_opt (d := 19) _ _ 67 9 63 rfl Try.underlying9 Try.underlying67 _ zeroZ gm (gmap g) (by rfl) (HE.out.em.keep (((Kp.refl w).alloc _).alloc _)) h.nm (by rfl) (by have := HN.out; unfold maxLen; omega) _ hu.out _ hok.out ?_) | (go_at_call 44; (with_reducible refine (c_isFormed T h K _ (ht.out.keep ((((Kp.refl w).alloc _).alloc _).alloc _))).mono ?_); rintro e w3 ⟨rfl, hk1⟩; rw [hf]; obtain ⟨x0, x1, xf, xs⟩ := box2 (Kp.trans ((Kp.refl _).alloc _) hk1); simp only [World.size_alloc] at x0 x1 xf xs))
    exact bodyPost_ret (v := .tuple #[.agg #[.int .i64 0, .int .i64 0], .bool false]) (by simp [results, Try.results43, go_sem, x0, x1]) rfl ⟨rfl, (((((Kp.refl w).alloc _).alloc _).alloc _).trans hk1).setCell (by simp) _ |>.setCell (by simp) _⟩
set_option maxHeartbeats 3200000 in
set_option maxRecDepth 100000 in
theorem l_main (bg bl : Nat) (gm : Option Nat) (g : ByteArray → Option (Nat × Nat)) (hg : ∀ s x, g s = some x → x.1 ≤ 8 ∧ x.2 ≤ 64) (r R : Nat) (T : Ty) (K : Nat → Hd) (h : Hd) (w : World) (l u1 u2 : Int) (ok : Bool) (hE : Env w bg bl gm g) (hS : Sel0 g h u1 u2 ok) (t : Top w A0 T h K)
    (hh : ∀ i X, T.kids[i]? = some X → Lies w A0 R X (K i)) (hl : l = r) (hr8 : r ≤ 8) (hf : fm h T.fn = true)
    (ih : ∀ (X : Ty) (hx : Hd) (W : World) (l' : Int), Env W bg bl gm g → Lies W A0 R X hx → l' = (r : Int) - 1 →
      Calls Try.prog 43 #[hx.val, .int .i64 l', .pointer (some ⟨bg, 0, none⟩), .pointer (some ⟨bl, 0, none⟩)] W fun e w' => e = .returned (szw (lookG g r X)) ∧ Kp W w') :
    Calls Try.prog 43 #[h.val, .int .i64 l, .pointer (some ⟨bg, 0, none⟩), .pointer (some ⟨bl, 0, none⟩)] w fun e w' => e = .returned (szw (sizeOfT T (lookAll (lookG g r) T.kids 0 0))) ∧ Kp w w' := by
  have hE1 := hE.eg
  have HE := Lib.hid hE
  have HN := Lib.hid t.rn
  have ht := Lib.hid t
  have hL := Lib.hid hh
  have IH := Lib.hid ih
  have HL := Lib.hid hl
  have hu := Lib.hid hS.hu
  have hok := Lib.hid hS.hok
  have hb := lt_of_cell hE1
  have hbl := lt_of_cell hE.el
  have hno := hS.no
  have hfew := fm_few hf
  have hlen : T.kids.length ≤ 17 := by rw [← t.es]; exact hfew
  have hl0 : 0 ≤ l := by omega
  have hl8 : l ≤ 8 := by omega
  clear hE t hS hh ih hl
  simp only at hb hbl
  rcases hno with rfl | ⟨rfl, b12⟩
  all_goals
    go_enter Try.func43, Try.ntmps43
    go_wp2_with (first | ((with_reducible show wpList _ _ _ (⟨some 19, _, _, _, _, _⟩ :: _) _ _); refine wpList_map_opt (d := 19) _ _ 67 9 63 rfl Try.underlying9 Try.underlying67 _ zeroZ gm (gmap g) (by rfl) (HE.out.em.keep (((Kp.refl w).alloc _).alloc _)) h.nm (by rfl) (by have := HN.out; unfold maxLen; omega) _ hu.out _ hok.out ?_) | (go_at_call 44; (with_reducible refine (c_isFormed T h K _ (ht.out.keep ((((Kp.refl w).alloc _).alloc _).alloc _))).mono ?_); rintro e w3 ⟨rfl, hk1⟩; rw [hf]; obtain ⟨p0, p1, p2, p3, p4, p5, ps⟩ := boxed (h := h) (Kp.trans (((Kp.refl _).alloc _).alloc _) hk1); have pl : w.heap.size < w3.heap.size := ps; have KW3 := Lib.hid ((((Kp.refl w).alloc _).alloc _).alloc _ |>.trans hk1)) | (go_at_call 45; refine (c_parts T h K _ (ht.out.keep (KW3.out.alloc _)) (by omega)).mono ?_; rintro e w5 ⟨ad, c, rfl, htab, hk2⟩; have HT := Lib.hid htab; clear htab))
    have hw5 : w3.heap.size + 1 ≤ w5.heap.size := by have := hk2.sz; simp at this; omega
    have hbb := (hk2.blk (b := w3.heap.size) (by simp)).trans (heap_alloc_new _ _)
    have hz0 : w5.cell? ⟨w3.heap.size, 0, none⟩ = some (.int .i64 0) := by rw [cell_of_row _ _ _ _ _ _ hbb]; rfl
    have hz1 : w5.cell? ⟨w3.heap.size, 1, none⟩ = some (.int .i64 0) := by rw [cell_of_row _ _ _ _ _ _ hbb]; rfl
    have hzf : ∀ j, w5.frozen? ⟨w3.heap.size, j, none⟩ = false := fun j => frozen_of_row _ _ _ _ _ hbb
    have HK2 := Lib.hid (((Kp.refl w3).alloc _).trans hk2)
    clear hbb hk2
    go_loopw [44] (fun i wr => ∃ n d' c' : Nat, n ≤ T.kids.length ∧ i = .int .i64 n ∧ wr.cell? ⟨w3.heap.size, 0, none⟩ = some (.int .i64 d') ∧ wr.cell? ⟨w3.heap.size, 1, none⟩ = some (.int .i64 c') ∧ (∀ j, wr.frozen? ⟨w3.heap.size, j, none⟩ = false) ∧ d' ≤ r ∧ c' ≤ 64 * n ∧ Hid (lookAll (lookG g r) T.kids 0 0 = lookAll (lookG g r) (T.kids.drop n) d' c') ∧ Ke w3.heap.size w5 wr) (fun i _ => T.kids.length - (intOf i).toNat)
    case atStart => exact ⟨0, 0, 0, by omega, rfl, hz0, hz1, hzf, by omega, by omega, Lib.hid rfl, Ke.refl _ _⟩
    case round =>
      obtain ⟨n, d', c', hn, rfl, hd, hc, hzf, hbd, hbc, HA, hke⟩ := hrel
      clear hz0 hz1
      have HKE := Lib.hid hke
      have hws : w5.heap.size ≤ wr.heap.size := hke.2.2.2.1
      have K3 := Lib.hid (hke.old HK2.out (Nat.le_refl _))
      clear hke
      have KW := Lib.hid (KW3.out.trans K3.out)
      obtain ⟨q0, q1, q2, q3, q4, q5, qs⟩ := boxed (h := h) (Kp.trans (((Kp.refl _).alloc _).alloc _) (hk1.trans K3.out))
      have ql : w.heap.size < wr.heap.size := qs
      by_cases hlt : n < T.kids.length
      · obtain ⟨b, o, ha, hr⟩ := (HT.out.ke (fun b' hb' => by (have : (w3.alloc (.cells #[.int .i64 0, .int .i64 0] 63)).heap.size + 1 ≤ b' := hb'); simp at this; omega) HKE.out).at (by omega)
        have HAD := Lib.hid ha
        have HR := Lib.hid (hr n hlt)
        clear ha hr
        obtain ⟨X, hX⟩ : ∃ X, T.kids[n]? = some X := ⟨_, List.getElem?_eq_getElem hlt⟩
        have HX := Lib.hid hX
        clear hX
        obtain ⟨s1, s2, s3, hss⟩ : ∃ s1 s2 s3, lookG g r X = (s1, s2, s3) := ⟨_, _, _, rfl⟩
        have HS := Lib.hid hss
        clear hss
        have hEr := KW.out
        have ce := (HE.out.keep hEr).el
        have cl : bl < wr.heap.size := lt_of_cell ce
        clear hEr
        have CX : Hid (∀ (W : World) (l' : Int), Env W bg bl gm g → Lies W A0 R X (K n) → l' = (r : Int) - 1 → Calls Try.prog 43 #[(K n).val, .int .i64 l', .pointer (some ⟨bg, 0, none⟩), .pointer (some ⟨bl, 0, none⟩)] W fun e w' => e = .returned (.tuple #[.agg #[.int .i64 s1, .int .i64 s2], .bool s3]) ∧ Kp W w') :=
          Lib.hid (fun W l' a b c => (IH.out X (K n) W l' a b c).mono fun e w' q => ⟨q.1.trans (by rw [HS.out]; rfl), q.2⟩)
        have hLX := Lib.hid (hL.out n X HX.out)
        cases s3 with
        | false =>
          have hfin := Lib.hid (show szw (sizeOfT T (lookAll (lookG g r) T.kids 0 0)) = .tuple #[.agg #[.int .i64 0, .int .i64 0], .bool false] by rw [HA.out, lookAll_stop HX.out (by rw [HS.out])]; rfl)
          go_wp2_with (first | ((with_reducible show wpList _ _ _ (⟨some 46, _, _, _, _, _⟩ :: _) _ _); refine wpList_index_tab (d := 46) _ _ _ rfl 42 Try.underlying23 6 rfl _ _ _ _ o (by rfl) HAD.out n (by rfl) hlt ?_) | ((with_reducible show wpList _ _ _ (⟨some 47, _, _, _, _, _⟩ :: _) _ _); refine wpList_load_ty (d := 47) _ _ rfl _ Try.underlying42 wr _ _ b (o + n * 6) (by rfl) rfl (by first | rfl | omega) (K n) HR.out (Kp.refl _) rfl ?_) | (go_at_call 43; refine (CX.out _ _ (HE.out.keep (KW.out.alloc _)) (hLX.out.keep (KW.out.alloc _)) (by have := HL.out; omega)).mono ?_; rintro e w6 ⟨rfl, hk6⟩; have K6 := Lib.hid (((Kp.refl wr).alloc _).trans hk6); have z0 := K6.out.cellv hd; have z1 := K6.out.cellv hc; have zf : ∀ j, w6.frozen? ⟨w3.heap.size, j, none⟩ = false := fun j => (K6.out.frz (by show w3.heap.size < wr.heap.size; omega)).trans (hzf j); have zs : w3.heap.size < w6.heap.size := (by have := K6.out.sz; omega); obtain ⟨x0, x1, xf, xs⟩ := box2 (Kp.trans ((Kp.refl _).alloc _) (hk1.trans (K3.out.trans K6.out))); simp only [World.size_alloc] at x0 x1 xf xs; have xl : w.heap.size + 1 < w6.heap.size := xs))
          exact bodyPost_ret (v := .tuple #[.agg #[.int .i64 0, .int .i64 0], .bool false]) (by simp [results, Try.results43, go_sem, x0, x1, xl]) rfl ⟨congrArg Ending.returned hfin.out.symm, (by repeat (first | exact KW.out.trans K6.out | refine Kp.alloc ?_ _ | refine Kp.setCell ?_ (by simp) _))⟩
        | true =>
          have hbd1 := lookG_bd (r := r) (T := X) hg (by rw [HS.out])
          have hb1 : s1 < r := by have := hbd1.1; rwa [HS.out] at this
          have hb2 : s2 ≤ 64 := by have := hbd1.2; rwa [HS.out] at this
          have hnx := Lib.hid (show lookAll (lookG g r) T.kids 0 0 = lookAll (lookG g r) (T.kids.drop (n + 1)) (max d' (s1 + 1)) (c' + s2) by rw [HA.out, lookAll_next HX.out (by rw [HS.out]), HS.out])
          clear hbd1
          by_cases hmx : d' < s1 + 1
          · go_wp2_with (first | ((with_reducible show wpList _ _ _ (⟨some 46, _, _, _, _, _⟩ :: _) _ _); refine wpList_index_tab (d := 46) _ _ _ rfl 42 Try.underlying23 6 rfl _ _ _ _ o (by rfl) HAD.out n (by rfl) hlt ?_) | ((with_reducible show wpList _ _ _ (⟨some 47, _, _, _, _, _⟩ :: _) _ _); refine wpList_load_ty (d := 47) _ _ rfl _ Try.underlying42 wr _ _ b (o + n * 6) (by rfl) rfl (by first | rfl | omega) (K n) HR.out (Kp.refl _) rfl ?_) | (go_at_call 43; refine (CX.out _ _ (HE.out.keep (KW.out.alloc _)) (hLX.out.keep (KW.out.alloc _)) (by have := HL.out; omega)).mono ?_; rintro e w6 ⟨rfl, hk6⟩; have K6 := Lib.hid (((Kp.refl wr).alloc _).trans hk6); have z0 := K6.out.cellv hd; have z1 := K6.out.cellv hc; have zf : ∀ j, w6.frozen? ⟨w3.heap.size, j, none⟩ = false := fun j => (K6.out.frz (by show w3.heap.size < wr.heap.size; omega)).trans (hzf j); have zs : w3.heap.size < w6.heap.size := (by have := K6.out.sz; omega)))
            go_roundw
            case rel => exact ⟨n + 1, s1 + 1, c' + s2, by omega, by go_num, by simp [go_sem, z0, z1, zs], by simp [go_sem, z0, z1, zs], fun j => by simp [go_sem, zf, zs], by omega, by omega, Lib.hid (by rw [hnx.out, Nat.max_eq_right (by omega)]), (by repeat (first | exact HKE.out.kp K6.out | refine Ke.alloc ?_ _ | refine Ke.setCell ?_ rfl _))⟩
            case measure => simp [intOf]; omega
          · go_wp2_with (first | ((with_reducible show wpList _ _ _ (⟨some 46, _, _, _, _, _⟩ :: _) _ _); refine wpList_index_tab (d := 46) _ _ _ rfl 42 Try.underlying23 6 rfl _ _ _ _ o (by rfl) HAD.out n (by rfl) hlt ?_) | ((with_reducible show wpList _ _ _ (⟨some 47, _, _, _, _, _⟩ :: _) _ _); refine wpList_load_ty (d := 47) _ _ rfl _ Try.underlying42 wr _ _ b (o + n * 6) (by rfl) rfl (by first | rfl | omega) (K n) HR.out (Kp.refl _) rfl ?_) | (go_at_call 43; refine (CX.out _ _ (HE.out.keep (KW.out.alloc _)) (hLX.out.keep (KW.out.alloc _)) (by have := HL.out; omega)).mono ?_; rintro e w6 ⟨rfl, hk6⟩; have K6 := Lib.hid (((Kp.refl wr).alloc _).trans hk6); have z0 := K6.out.cellv hd; have z1 := K6.out.cellv hc; have zf : ∀ j, w6.frozen? ⟨w3.heap.size, j, none⟩ = false := fun j => (K6.out.frz (by show w3.heap.size < wr.heap.size; omega)).trans (hzf j); have zs : w3.heap.size < w6.heap.size := (by have := K6.out.sz; omega)))
            go_roundw
            case rel => exact ⟨n + 1, d', c' + s2, by omega, by go_num, by simp [go_sem, z0, z1, zs], by simp [go_sem, z0, z1, zs], fun j => by simp [go_sem, zf, zs], by omega, by omega, Lib.hid (by rw [hnx.out, Nat.max_eq_left (by omega)]), (by repeat (first | exact HKE.out.kp K6.out | refine Ke.alloc ?_ _ | refine Ke.setCell ?_ rfl _))⟩
            case measure => simp [intOf]; omega
      · have hfin := Lib.hid (show lookAll (lookG g r) T.kids 0 0 = some (d', c') by rw [HA.out, show n = T.kids.length from by omega]; exact lookAll_end)
        have hnn : (T.kids.length : Int) ≤ n := by omega
        have hc2 : c' ≤ 1088 := by omega
        have zs : w3.heap.size < wr.heap.size := by omega
        obtain ⟨x0, x1, xf, xs⟩ := box2 (Kp.trans ((Kp.refl _).alloc _) (hk1.trans K3.out))
        simp only [World.size_alloc] at x0 x1 xf xs
        have xl : w.heap.size + 1 < wr.heap.size := xs
        have n1 : ¬ (w3.heap.size = w.heap.size + 1) := by have := hk1.sz; simp at this; omega
        have n2 : ¬ (w.heap.size + 1 = w3.heap.size) := fun e => n1 e.symm
        by_cases hk8 : h.k = 8
        · have b8 : (h.k != 8) = false := by simp [hk8]
          have hend := Lib.hid (show szw (sizeOfT T (lookAll (lookG g r) T.kids 0 0)) = .tuple #[.agg #[.int .i64 d', .int .i64 c'], .bool (decide ((c' : Int) ≤ 64))] by
            rw [hfin.out, sizeOfT, if_pos (ht.out.ek.trans hk8)]; exact szw3 (decide_eq_decide.2 (by omega)))
          go_wp2_with fail
          go_region
          all_goals go_wp2_with fail
          all_goals exact bodyPost_ret (v := .tuple #[.agg #[.int .i64 d', .int .i64 c'], .bool (decide ((c' : Int) ≤ 64))]) (by simp [results, Try.results43, go_sem, x0, x1, xl]) rfl ⟨congrArg Ending.returned hend.out.symm, (by repeat (first | exact KW.out | refine Kp.drew ?_ | refine Kp.setCell ?_ (by simp) _))⟩
        · have b8 : (h.k != 8) = true := by simp [hk8]
          have hend := Lib.hid (show szw (sizeOfT T (lookAll (lookG g r) T.kids 0 0)) = .tuple #[.agg #[.int .i64 d', .int .i64 1], .bool true] by
            rw [hfin.out, sizeOfT, if_neg (fun e => hk8 (ht.out.ek.symm.trans e))]; rfl)
          go_wp2_with fail
          go_region
          all_goals go_wp2_with fail
          all_goals exact bodyPost_ret (v := .tuple #[.agg #[.int .i64 d', .int .i64 1], .bool true]) (by simp [results, Try.results43, go_sem, x0, x1, xl]) rfl ⟨congrArg Ending.returned hend.out.symm, (by repeat (first | exact KW.out | refine Kp.drew ?_ | refine Kp.setCell ?_ (by (first | (simp; done) | (simp; omega))) _))⟩
end Go.Proofs.Ytfjflfokmihcpaa
