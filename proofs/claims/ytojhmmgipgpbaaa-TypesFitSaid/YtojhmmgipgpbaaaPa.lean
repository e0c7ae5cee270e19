/- The parameters in a type: Params of package types. Condition: the type is sound. -/
import Derived.Test.YtojhmmgipgpbaaaY
import Derived.Test.YtojhmmgipgpbaaaT6
import Derived.Lib.BufferMore
namespace Go.Proofs.Ytojhmmgipgpbaaa
open Go.RowKit
set_option linter.unusedVariables false
set_option linter.unusedSimpArgs false

/-- The names that were seen. -/
noncomputable def seenL (L : List ByteArray) (s : ByteArray) : Option Value := if hasB L s = true then some (.int .i64 1) else none
theorem seenL_yes {L : List ByteArray} {s : ByteArray} (h : hasB L s = true) : (seenL L s).getD (.int .i64 0) = .int .i64 1 := by unfold seenL; rw [if_pos h]; rfl
theorem seenL_no {L : List ByteArray} {s : ByteArray} (h : hasB L s = false) : (seenL L s).getD (.int .i64 0) = .int .i64 0 := by unfold seenL; rw [if_neg (by rw [h]; decide)]; rfl
theorem seenL_push (L : List ByteArray) (s : ByteArray) : fput (seenL L) s (.int .i64 1) = seenL (L ++ [s]) := by
  funext y
  by_cases hy : y = s
  · rw [hy, fput_same]; unfold seenL; rw [if_pos (hasB_yes (by simp))]
  · rw [fput_other _ _ hy]
    unfold seenL
    by_cases h : y ∈ L
    · rw [if_pos (hasB_yes h), if_pos (hasB_yes (by simp [h]))]
    · rw [if_neg (by rw [hasB_no h]; decide), if_neg (by rw [hasB_no (by simp [h, hy])]; decide)]
theorem seenL_nil : seenL [] = fun _ => none := by
  funext y
  unfold seenL
  rw [if_neg (by rw [hasB_no (by simp)]; decide)]
theorem MapIs.blk {w w' : World} {P : Program} {k : TypeId} {b n : Nat} {f : ByteArray → Option Value} (h : MapIs w P k b n f) (hk : w'.heap[b]? = w.heap[b]?) : MapIs w' P k b n f := by
  obtain ⟨D, h1, h2⟩ := h
  refine ⟨D, ?_, h2⟩
  obtain ⟨es, clock, hb, r⟩ := h1
  exact ⟨es, clock, hk.trans hb, r⟩
theorem MapIs.notS {w : World} {P : Program} {k : TypeId} {b n : Nat} {f : ByteArray → Option Value} (h : MapIs w P k b n f) : ¬ isS w b := fun ⟨cs, fr, e⟩ => by
  obtain ⟨D, ⟨es, clock, hb, _⟩, _⟩ := h
  rw [hb] at e; cases e
theorem rowS.isS {w : World} {base : Nat} {v : Value} {L : List ByteArray} (h : rowS w base v L) {k : Nat} (hk : v.ownBlock = some k) : isS w k ∧ base ≤ k := by
  rcases h.2 with ⟨hv, _⟩ | ⟨g, cap, cur, hv, hg0, hg, _⟩
  · rw [hv] at hk; cases hk
  · rw [hv] at hk
    obtain rfl : g = k := Option.some.inj hk
    exact ⟨⟨_, _, hg⟩, hg0⟩
theorem rowS.fr {w w' : World} {base : Nat} {v : Value} {L : List ByteArray} {N : Nat → Prop} (h : rowS w base v L) (hk : Fr N w w') (hN : ∀ k, Go.Proofs.Ytojhmmgipgpbaaa.isS w k → ¬ N k) : rowS w' base v L := by
  refine ⟨h.1, ?_⟩
  rcases h.2 with hv | ⟨g, cap, cur, hv, hg0, hg, rest⟩
  · exact .inl hv
  · exact .inr ⟨g, cap, cur, hv, hg0, (hk g (Array.getElem?_eq_some_iff.1 hg).1 (hN g ⟨_, _, hg⟩)).trans hg, rest⟩
theorem Gs.grownX {b k : Nat} {X : Nat → Prop} {w w' : World} (hg : w.grownBy w' (some k)) (hX : X k) (hk : b ≤ k) : Gs b X w w' :=
  ⟨hg.os, hg.tape, hg.output, hg.size, fun i hi hc => hg.block i hi (fun e => by
    obtain rfl : i = k := Option.some.inj e
    rcases hc with hc | hc
    · omega
    · exact hc.1 hX)⟩
theorem Gs.setX {b : Nat} {X : Nat → Prop} (w : World) {p : Addr} (hX : X p.block) (hk : b ≤ p.block) (v : Value) : Gs b X w (w.setCell p v) :=
  ⟨rfl, rfl, rfl, by rw [World.size_setCell]; exact Nat.le_refl _, fun i hi hc => Below.heap_setCell _ _ _ _ (fun e => by
    rcases hc with hc | hc
    · omega
    · exact hc.1 (e ▸ hX))⟩
theorem Gs.isS {b : Nat} {X : Nat → Prop} {w w' : World} (h : Gs b X w w') {k : Nat} (hk : k < w.heap.size) (hX : ¬ X k) (hn : ¬ Go.Proofs.Ytojhmmgipgpbaaa.isS w k) : ¬ Go.Proofs.Ytojhmmgipgpbaaa.isS w' k := fun ⟨cs, fr, e⟩ => hn ⟨cs, fr, (h.blk k hk (.inr ⟨hX, hn⟩)).symm.trans e⟩
/-- A box that holds no texts, and a map, stay where the row grows. -/
theorem rowS.box {w w' : World} {o : Obj} {base nb : Nat} {v : Value} {L : List ByteArray} {cs : Array Value} {t : TypeId} (h : rowS w base v L) (hg : (w.alloc o).grownBy w' v.ownBlock) (hb : w.heap[nb]? = some (.cells cs t (0, 0))) (ht : t ≠ 9) : w'.heap[nb]? = some (.cells cs t (0, 0)) := by
  have hlt : nb < w.heap.size := (Array.getElem?_eq_some_iff.1 hb).1
  have e : (w.alloc o).heap[nb]? = some (.cells cs t (0, 0)) := (((Kp.refl w).alloc o).blk hlt).trans hb
  refine (hg.block nb (by simp; omega) (fun x => ?_)).trans e
  exact notS_of e ht ((h.keep ((Kp.refl w).alloc o)).isS x.symm).1
theorem rowS.mapK {w w' : World} {o : Obj} {base b n : Nat} {v : Value} {L : List ByteArray} {P : Program} {k : TypeId} {f : ByteArray → Option Value} (h : rowS w base v L) (hg : (w.alloc o).grownBy w' v.ownBlock) (hm : MapIs w P k b n f) : MapIs w' P k b n f :=
  (hm.alloc o).grown hg (fun x => (hm.alloc o).notS ((h.keep ((Kp.refl w).alloc o)).isS x.symm).1)
/-- The blocks that the walk writes to. -/
def XB2 (nb mb : Nat) (k : Nat) : Prop := k = nb ∨ k = mb
/-- What the walk has found: the names in a row, and in a map; and what it has captured. -/
structure PS (w : World) (nb mb sb lp : Nat) (v : Value) (L : List ByteArray) : Prop where
  row : rowS w nb v L
  nbx : w.heap[nb]? = some (.cells #[v] 41 (0, 0))
  map : MapIs w Try.prog 9 mb L.length (seenL L)
  sbx : w.cell? ⟨sb, 0, none⟩ = some (.map (some mb))
  lpx : w.cell? ⟨lp, 0, none⟩ = some (.func (.func 45) #[] #[.pointer (some ⟨sb, 0, none⟩), .pointer (some ⟨nb, 0, none⟩), .pointer (some ⟨lp, 0, none⟩)])
  h1 : nb < mb
  h2 : mb < sb
  h3 : sb < lp
  h4 : ¬ isS w sb
  h5 : ¬ isS w lp
theorem PS.keep {w w' : World} {nb mb sb lp : Nat} {v : Value} {L : List ByteArray} (p : PS w nb mb sb lp v L) (hk : Kp w w') : PS w' nb mb sb lp v L :=
  ⟨p.row.keep hk, (hk.blk (Array.getElem?_eq_some_iff.1 p.nbx).1).trans p.nbx, p.map.keep hk, hk.cellv p.sbx, hk.cellv p.lpx, p.h1, p.h2, p.h3,
    fun ⟨cs, fr, e⟩ => p.h4 ⟨cs, fr, (hk.blk (lt_of_cell p.sbx)).symm.trans e⟩, fun ⟨cs, fr, e⟩ => p.h5 ⟨cs, fr, (hk.blk (lt_of_cell p.lpx)).symm.trans e⟩⟩
theorem PS.lt {w : World} {nb mb sb lp : Nat} {v : Value} {L : List ByteArray} (p : PS w nb mb sb lp v L) : lp < w.heap.size := lt_of_cell p.lpx
theorem PS.nX {w : World} {nb mb sb lp : Nat} {v : Value} {L : List ByteArray} (p : PS w nb mb sb lp v L) : ¬ XB2 nb mb w.heap.size := by
  have := p.lt; have := p.h1; have := p.h2; have := p.h3
  rintro (h | h) <;> omega
theorem PS.nbc {w : World} {nb mb sb lp : Nat} {v : Value} {L : List ByteArray} (p : PS w nb mb sb lp v L) : w.cell? ⟨nb, 0, none⟩ = some v ∧ w.frozen? ⟨nb, 0, none⟩ = false :=
  ⟨by rw [cell_of_row _ nb 0 _ 41 (0, 0) p.nbx]; rfl, frozen_of_row _ _ _ _ _ p.nbx⟩
/-- What comes of the walk. -/
def Done (nb mb sb lp : Nat) (L' : List ByteArray) (w : World) (e : Ending) (w' : World) : Prop :=
  e = .returned (.tuple #[]) ∧ ∃ v', PS w' nb mb sb lp v' L' ∧ Gs nb (XB2 nb mb) w w'
set_option maxHeartbeats 3200000 in
set_option maxRecDepth 100000 in
theorem par_other (r R nb mb sb lp : Nat) (T : Ty) (h : Hd) (K : Nat → Hd) (w : World) (v : Value) (L : List ByteArray) (hp : PS w nb mb sb lp v L) (t : Top w (LowS nb) T h K) (hh : ∀ i X, T.kids[i]? = some X → Lies w (LowS nb) R X (K i)) (hs : (look (r + 1) T).2.2 = true) (hk : h.k ≠ 12) (hL : L.length + HB (r + 1) ≤ 8796093022208)
    (ih : ∀ (X : Ty) (hx : Hd) (W : World) (v : Value) (L : List ByteArray), PS W nb mb sb lp v L → Lies W (LowS nb) R X hx → (look r X).2.2 = true → L.length + HB r ≤ 8796093022208 → Calls Try.prog 45 #[hx.val, .pointer (some ⟨sb, 0, none⟩), .pointer (some ⟨nb, 0, none⟩), .pointer (some ⟨lp, 0, none⟩)] W (Done nb mb sb lp (holes r X L) W)) :
    Calls Try.prog 45 #[h.val, .pointer (some ⟨sb, 0, none⟩), .pointer (some ⟨nb, 0, none⟩), .pointer (some ⟨lp, 0, none⟩)] w (Done nb mb sb lp (holes (r + 1) T L) w) := by
  have hfew := few_of hs
  have hq : (h.k == 12) = false := beq_eq_false_iff_ne.2 hk
  have ha := addN_other (L := L) (T := T) (by rw [t.ek]; exact hk)
  have HE : Hid (holes (r + 1) T L = T.kids.foldl (fun L X => holes r X L) L) := Lib.hid (by rw [holes_succ, ha])
  have HT := Lib.hid (t.weak (LowS_le nb))
  have HH := Lib.hid hh
  have HS := Lib.hid hs
  have HP := Lib.hid hp
  have IH := Lib.hid ih
  have hL' : L.length + (1 + 17 * HB r) ≤ 8796093022208 := hL
  have hlt0 := hp.lt
  clear t hh hs hp ih hk ha hL
  have hbB : Hid (∀ n, n ≤ T.kids.length → ((T.kids.take n).foldl (fun L X => holes r X L) L).length ≤ L.length + n * HB r) := Lib.hid (fun n hn => fold_len_take HS.out L n hn)
  generalize HB r = q at hL' hbB IH
  go_enter Try.func45, Try.ntmps45
  go_wp2_with (first | (go_at_call 46; refine (c_parts T h K _ (HT.out.keep ((Kp.refl w).alloc _)) (by omega)).mono ?_; rintro e w1 ⟨ad, c, rfl, htab, hk1⟩))
  have HTB := Lib.hid htab
  have K1 := Lib.hid (((Kp.refl w).alloc _).trans hk1)
  have hs1 := K1.out.sz
  clear htab hk1
  go_loopw [30] (fun i wr => ∃ (n : Nat) (vk : Value), n ≤ T.kids.length ∧ i = .int .i64 n ∧ Hid (PS wr nb mb sb lp vk ((T.kids.take n).foldl (fun L X => holes r X L) L)) ∧ Gs nb (XB2 nb mb) w1 wr) (fun i _ => T.kids.length - (intOf i).toNat)
  case atStart => exact ⟨0, v, by omega, rfl, Lib.hid (HP.out.keep K1.out), Gs.refl _ _ _⟩
  case round =>
    obtain ⟨n, vk, hn, rfl, HW, hg⟩ := hrel
    have HG := Lib.hid hg
    have hsw := hg.sz
    clear hg
    by_cases hlt : n < T.kids.length
    · have hX1 : ∀ k, XB2 nb mb k → k < (w.alloc (.cells #[.int .i64 h.k, .string h.nm, .int .i64 h.con, .slice h.fa h.fl h.fc, .slice h.la h.ll h.lc, .slice h.ra h.rl h.rc] 25)).heap.size + 1 := fun k hk => by
        have h1 := HP.out.h1; have h2 := HP.out.h2; have h3 := HP.out.h3
        simp only [World.size_alloc]
        rcases hk with hk | hk <;> omega
      obtain ⟨b, o, hab, hrg⟩ := (HTB.out.gs (by decide) hX1 HG.out).at (by omega)
      have HA := Lib.hid hab
      have HRG := Lib.hid (hrg n hlt)
      obtain ⟨X, hX⟩ : ∃ X, T.kids[n]? = some X := ⟨_, List.getElem?_eq_getElem hlt⟩
      have HX := Lib.hid hX
      have hln := hbB.out n hn
      have hnq : n * q ≤ 16 * q := Nat.mul_le_mul_right q (by omega)
      have z1 := HW.out.lpx
      have z2 : lp < wr.heap.size := HW.out.lt
      clear hab hrg hX hX1
      go_wp2_with (first | ((with_reducible show wpList _ _ _ (⟨some 32, _, _, _, _, _⟩ :: _) _ _); refine wpList_index_tab (d := 32) _ _ _ rfl 25 Try.underlying23 6 rfl _ _ _ _ o (by rfl) HA.out n (by rfl) hlt ?_) | ((with_reducible show wpList _ _ _ (⟨some 33, _, _, _, _, _⟩ :: _) _ _); refine wpList_load_ty (d := 33) _ _ rfl _ Try.underlying25 wr _ _ b (o + n * 6) (by rfl) rfl (by first | rfl | omega) (K n) HRG.out (Kp.refl wr) rfl ?_) | (go_at_call 45; (with_reducible refine (IH.out X (K n) _ _ _ (HW.out.keep ((Kp.refl wr).alloc _)) (((HH.out n X HX.out).keep K1.out |>.gs HG.out).keep ((Kp.refl wr).alloc _)) (kid_mem HS.out X (List.mem_of_getElem? HX.out)) (by omega)).mono ?_); rintro e w4 ⟨rfl, v4, hp4, hg4⟩))
      go_roundw
      case rel => exact ⟨n + 1, v4, by omega, by go_num, Lib.hid (by rw [fold_next HX.out]; exact hp4), (HG.out.trans (Kp.gs ((Kp.refl wr).alloc _))).trans hg4⟩
      case measure => simp [intOf]; omega
    · obtain rfl : n = T.kids.length := by omega
      go_wp2_with fail
      go_end0
      exact ⟨rfl, vk, by rw [HE.out]; have := HW.out; rwa [List.take_length] at this, (Kp.gs K1.out).trans HG.out⟩
set_option maxHeartbeats 3200000 in
set_option maxRecDepth 100000 in
theorem par_has (r nb mb sb lp : Nat) (T : Ty) (h : Hd) (K : Nat → Hd) (w : World) (v : Value) (L : List ByteArray) (hp : PS w nb mb sb lp v L) (t : Top w (LowS nb) T h K) (hk : h.k = 12) (hf : h.fl = 0 ∧ h.ll = 0 ∧ h.rl = 0) (hh : hasB L h.nm = true) (hL : L.length + HB (r + 1) ≤ 8796093022208) :
    Calls Try.prog 45 #[h.val, .pointer (some ⟨sb, 0, none⟩), .pointer (some ⟨nb, 0, none⟩), .pointer (some ⟨lp, 0, none⟩)] w (Done nb mb sb lp (holes (r + 1) T L) w) := by
  have hkl : T.kids.length = 0 := by have := t.es; omega
  have HE : Hid (holes (r + 1) T L = L) := Lib.hid (by rw [holes_succ, List.eq_nil_of_length_eq_zero hkl, addN_has (by rw [t.en]; exact hh)]; rfl)
  have HT := Lib.hid (t.weak (LowS_le nb))
  have HP := Lib.hid hp
  have HF := Lib.hid (seenL_yes hh)
  have HKL := Lib.hid hkl
  have hrn : h.nm.size ≤ 140737488351232 := t.en ▸ t.rn
  have z1 := hp.sbx
  have z2 : sb < w.heap.size := lt_of_cell z1
  clear hp t hf hkl hh hL
  obtain ⟨k, nm, con, fa, fl, fc, la, ll, lc, ra, rl, rc⟩ := h
  simp only at hk HF hrn
  subst hk
  go_enter Try.func45, Try.ntmps45
  go_wp2_with (first | ((with_reducible show wpList _ _ _ (⟨some 14, _, _, _, _, _⟩ :: _) _ _); refine wpList_map_get (d := 14) _ _ 77 9 3 (by rfl) rfl Try.underlying9 Try.underlying77 _ (zeroI) mb L.length (seenL L) (by rfl) (HP.out.map.keep ((Kp.refl w).alloc _)) nm (by rfl) (by unfold maxLen; omega) (.int .i64 1) HF.out ?_) | (go_at_call 46; refine (c_parts T ⟨12, nm, con, fa, fl, fc, la, ll, lc, ra, rl, rc⟩ K _ (HT.out.keep ((Kp.refl w).alloc _)) (by have := HKL.out; omega)).mono ?_; rintro e w6 ⟨ad2, c2, rfl, htab, hk2⟩; rw [HKL.out]; clear htab))
  refine wp_loop_rounds 1 ?_
  rw [rounds_succ]
  go_wp2_with fail
  go_end0
  exact ⟨rfl, v, by rw [HE.out]; exact HP.out.keep (((Kp.refl w).alloc _).trans hk2), (((Kp.refl w).alloc _).trans hk2).gs⟩
set_option maxHeartbeats 3200000 in
set_option maxRecDepth 100000 in
theorem par_new (r nb mb sb lp : Nat) (T : Ty) (h : Hd) (K : Nat → Hd) (w : World) (v : Value) (L : List ByteArray) (hp : PS w nb mb sb lp v L) (t : Top w (LowS nb) T h K) (hk : h.k = 12) (hf : h.fl = 0 ∧ h.ll = 0 ∧ h.rl = 0) (hh : hasB L h.nm = false) (hL : L.length + HB (r + 1) ≤ 8796093022208) :
    Calls Try.prog 45 #[h.val, .pointer (some ⟨sb, 0, none⟩), .pointer (some ⟨nb, 0, none⟩), .pointer (some ⟨lp, 0, none⟩)] w (Done nb mb sb lp (holes (r + 1) T L) w) := by
  have hkl : T.kids.length = 0 := by have := t.es; omega
  have HE : Hid (holes (r + 1) T L = L ++ [h.nm]) := Lib.hid (by rw [holes_succ, List.eq_nil_of_length_eq_zero hkl, addN_new (by rw [t.ek]; exact hk) (by rw [t.en]; exact hh), t.en]; rfl)
  have HT := Lib.hid t
  have HP := Lib.hid hp
  have HF := Lib.hid (seenL_no hh)
  have HKL := Lib.hid hkl
  have HKB := Lib.hid (show T.kids.length ≤ 1000000000 by omega)
  have hrn : h.nm.size ≤ 140737488351232 := t.en ▸ t.rn
  have hlq : L.length + 1 ≤ 8796093022208 := by have : HB (r + 1) = 1 + 17 * HB r := rfl; omega
  obtain ⟨i2, hs, hx0, hx1, hx2⟩ := info_parts infoS
  have z1 := hp.sbx
  have z2 : sb < w.heap.size := lt_of_cell z1
  obtain ⟨n1, n2⟩ := hp.nbc
  have h1 := hp.h1
  have h2 := hp.h2
  have hNX := Lib.hid hp.nX
  have hne : ¬ w.heap.size = nb := by omega
  have hne2 : ¬ nb = w.heap.size := by omega
  clear hp t hf hkl hh hL
  obtain ⟨k, nm, con, fa, fl, fc, la, ll, lc, ra, rl, rc⟩ := h
  simp only at hk HF HE hrn
  subst hk
  obtain ⟨ad, c, rfl, _, _⟩ := HP.out.row.tab
  go_enter Try.func45, Try.ntmps45
  go_wp2_with (first | ((with_reducible show wpList _ _ _ (⟨some 14, _, _, _, _, _⟩ :: _) _ _); refine wpList_map_get (d := 14) _ _ 77 9 3 (by rfl) rfl Try.underlying9 Try.underlying77 _ (zeroI) mb L.length (seenL L) (by rfl) (HP.out.map.keep ((Kp.refl w).alloc _)) nm (by rfl) (by unfold maxLen; omega) (.int .i64 0) HF.out ?_) | ((with_reducible show wpList _ _ _ (⟨some 20, _, _, _, _, _⟩ :: _) _ _); refine wpList_map_get (d := 20) _ _ 77 9 3 (by rfl) rfl Try.underlying9 Try.underlying77 _ (zeroI) mb L.length (seenL L) (by rfl) (HP.out.map.keep ((Kp.refl w).alloc _)) nm (by rfl) (by unfold maxLen; omega) (.int .i64 0) HF.out ?_) | (at_mapUpdate; refine wpList_map_set _ _ _ 77 9 3 rfl Try.underlying9 Try.underlying77 mb L.length (seenL L) (by rfl) (HP.out.map.keep ((Kp.refl w).alloc _)) (by unfold maxLen; omega) nm (by rfl) (by unfold maxLen; omega) (.int .i64 1) (by rfl) ?_; intro w3 hM3 hg3; have b3 := (hg3.block nb (by simp; omega) (by simp; omega)).trans (HP.out.keep ((Kp.refl w).alloc _)).nbx; have c3 : w3.cell? ⟨nb, 0, none⟩ = some (.slice ad L.length c) := (by rw [cell_of_row _ nb 0 _ 41 (0, 0) b3]; rfl); have G3 := Lib.hid (Gs.grownX (X := XB2 nb mb) hg3 (.inr rfl) (Nat.le_of_lt h1)); have R3 := Lib.hid ((HP.out.keep ((Kp.refl w).alloc _)).row.fr (grown_fr hg3) (fun k hk e => by obtain rfl := Option.some.inj e; exact (HP.out.map.keep ((Kp.refl w).alloc _)).notS hk)); have HM3 := Lib.hid hM3; have HB3 := Lib.hid b3; obtain ⟨p0, p1, p2, p3, p4, p5, ps⟩ := boxS (h := ⟨12, nm, con, fa, fl, fc, la, ll, lc, ra, rl, rc⟩) hNX.out G3.out; have hs3 := G3.out.sz; simp only [World.size_alloc] at hs3; clear hM3 b3 hg3) | ((with_reducible show wpList _ _ _ (⟨some 26, _, _, _, _, _⟩ :: _) _ _); refine wpList_append_one (d := 26) _ _ 41 rfl nb 9 i2 _ 1 16 Try.underlying41 hs hx0 hx1 hx2 rfl (by decide) _ L.length _ (by rfl) _ (show World.ownsRow w3 nb 9 1 (.slice ad L.length c) L.length (L.map Value.string) from R3.out) [.string nm] _ _ _ (by rfl) (by first | rfl | simp) (by rfl) (by rfl) (by intro u hu; simp at hu; rcases hu with rfl | rfl | rfl | rfl | rfl | rfl | rfl <;> rfl) (by unfold maxLen; omega) (by omega) (by first | omega | (simp; omega)) ?_; intro v1 w1 ho1 hg1; have R1 := Lib.hid (rowS_push ho1); have GA := Lib.hid ((R3.out.keep ((Kp.refl w3).alloc _)).grown (X := XB2 nb mb) hg1); have B1 := Lib.hid (R3.out.box hg1 HB3.out (by decide)); have M1 := Lib.hid (R3.out.mapK hg1 HM3.out); have d1 : w1.cell? ⟨nb, 0, none⟩ = some (.slice ad L.length c) := (by rw [cell_of_row _ nb 0 _ 41 (0, 0) B1.out]; rfl); have d2 : w1.frozen? ⟨nb, 0, none⟩ = false := frozen_of_row _ _ _ _ _ B1.out; obtain ⟨ad1, c1, hv, _, _⟩ := R1.out.tab; have hv1 : v1 = .slice ad1 (L.length + 1) c1 := (by simpa using hv); have HV := Lib.hid hv1; rw [hv1]; have GB := Lib.hid ((G3.out.trans (Kp.gs ((Kp.refl w3).alloc _))).trans GA.out); obtain ⟨r0, r1, r2, r3, r4, r5, rs⟩ := boxS (h := ⟨12, nm, con, fa, fl, fc, la, ll, lc, ra, rl, rc⟩) hNX.out GB.out; clear hv hv1 ho1 hg1) | (go_at_call 46; have GZ := Lib.hid (((Kp.gs ((Kp.refl w).alloc _)).trans GB.out).trans (Gs.setX (X := XB2 nb mb) w1 (p := ⟨nb, 0, none⟩) (.inl rfl) (Nat.le_refl _) (.slice ad1 (L.length + 1) c1))); (with_reducible refine (c_parts T ⟨12, nm, con, fa, fl, fc, la, ll, lc, ra, rl, rc⟩ K _ ((HT.out.gs GZ.out).weak (LowS_le nb)) HKB.out).mono ?_); rintro e w6 ⟨ad2, c2, rfl, htab, hk2⟩; rw [HKL.out]; clear htab))
  refine wp_loop_rounds 1 ?_
  rw [rounds_succ]
  go_wp2_with fail
  go_end0
  have GW := ((Kp.gs ((Kp.refl w).alloc _)).trans GB.out).trans (Gs.setX (X := XB2 nb mb) w1 (p := ⟨nb, 0, none⟩) (.inl rfl) (Nat.le_refl _) (.slice ad1 (L.length + 1) c1))
  have hp := HP.out
  have hR1 := R1.out
  rw [HV.out] at hR1
  have n4 : ¬ XB2 nb mb sb := by rintro (x | x) <;> omega
  have h3 := hp.h3
  have n5 : ¬ XB2 nb mb lp := by rintro (x | x) <;> omega
  refine ⟨rfl, .slice ad1 (L.length + 1) c1, ?_, GW.trans hk2.gs⟩
  rw [HE.out]
  refine PS.keep ⟨hR1.fr (Fr.one w1 ⟨nb, 0, none⟩ _) (fun k hk e => ?_), ?_, by have := M1.out.blk (Below.heap_setCell w1 ⟨nb, 0, none⟩ (.slice ad1 (L.length + 1) c1) mb (show ¬ mb = nb by omega)); rw [seenL_push] at this; simpa using this, GW.cellv hp.sbx (.inr ⟨n4, hp.h4⟩), GW.cellv hp.lpx (.inr ⟨n5, hp.h5⟩), h1, h2, h3, GW.isS z2 n4 hp.h4, GW.isS hp.lt n5 hp.h5⟩ hk2
  · have e' : k = nb := e
    exact notS_of B1.out (by decide) (e' ▸ hk)
  · exact Lib.heap_setCell_same (i := 0) B1.out _
theorem c_walkP (nb mb sb lp : Nat) : ∀ (r R : Nat) (T : Ty) (h : Hd) (w : World) (v : Value) (L : List ByteArray), PS w nb mb sb lp v L → Lies w (LowS nb) R T h → (look r T).2.2 = true → L.length + HB r ≤ 8796093022208 →
    Calls Try.prog 45 #[h.val, .pointer (some ⟨sb, 0, none⟩), .pointer (some ⟨nb, 0, none⟩), .pointer (some ⟨lp, 0, none⟩)] w (Done nb mb sb lp (holes r T L) w) := by
  intro r
  induction r with
  | zero => intro R T h w v L _ _ hs; rw [look_zero] at hs; cases hs
  | succ r ih =>
    intro R T h w v L hp hl hs hL
    cases R with
    | zero => exact hl.elim
    | succ R =>
      obtain ⟨K, t, hh⟩ := hl
      by_cases hk : h.k = 12
      · have hf := t.fmT.trans (look_parts hs).1
        cases h2 : hasB L h.nm with
        | true => exact par_has r nb mb sb lp T h K w v L hp t hk (fm_12 hf hk) h2 hL
        | false => exact par_new r nb mb sb lp T h K w v L hp t hk (fm_12 hf hk) h2 hL
      · exact par_other r R nb mb sb lp T h K w v L hp t hh hs hk hL (fun X hx W v L a b c d => ih R X hx W v L a b c d)
end Go.Proofs.Ytojhmmgipgpbaaa
