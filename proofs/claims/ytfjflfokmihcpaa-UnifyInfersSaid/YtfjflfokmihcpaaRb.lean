/- replace$2 of package types: a type made anew, with what stands for its names. Condition: the types lie in memory. -/
import Derived.Test.YtfjflfokmihcpaaRa
import Derived.Deep.RegionHeld3
import Derived.Outline
import Derived.RegionTactic
namespace Go.Proofs.Ytfjflfokmihcpaa
open Go.RowKit
set_option linter.unusedVariables false
set_option linter.unusedSimpArgs false
/-- The type of no kind. -/
def hd0 : Hd := ⟨0, ⟨#[]⟩, 0, none, 0, 0, none, 0, 0, none, 0, 0⟩
theorem zeroY (w : World) : (zeroValue 42).run Try.prog w = .ok hd0.val w := by kernel_rfl
theorem sizeT : (Try.prog.info? 42).map (·.size) = some 6 := by kernel_rfl
/-- A store of all cells of a block, at a step of a region that draws its order. -/
theorem step_store_row {P : Program} {ops : Array Oper} {o : Oper} {a : Act} {w : World} {K : Act → World → Prop} {Q : Exit → Act → World → Prop} {E : Prop} (hgd : o.guard = none) (ty : TypeId) (x y : Operand) (ho : o.op = .store ty x y)
    (g : Nat) (cells : Array Value) (hx : a.eval x = .pointer (some ⟨g, 0, none⟩)) (hy : a.eval y = .agg cells)
    (t : TypeId) (old : Array Value) (hg : w.heap[g]? = some (.cells old t (0, 0))) (hi : (P.info? ty).map (·.size) = some cells.size)
    (hold : old.size = cells.size) (h1 : cells.all (·.oneCell') = true)
    (h : ∀ w', w'.heap[g]? = some (.cells cells t (0, 0)) → Ke g w w' → K (a.put o.dst undef) w') :
    if Region.wanted o (yielded ops a.tmps) = true then Oper.wp P o a w K Q else E := by
  have hw : Region.wanted o (yielded ops a.tmps) = true := by simp [Region.wanted, hgd]
  rw [if_pos hw]
  exact wp_store_row ty x y ho g cells hx hy t old hg hi hold h1 (h _ (setRow_heap w g old cells t (0, 0) hg) ⟨rfl, rfl, rfl, by simp, fun k hk hb => setRow_other w g k cells hb⟩)
theorem LiesAll.weak {w : World} {B B' : Sel} {r : Nat} {l : List Ty} {a : Option Addr} {c : Nat} {K : Nat → Hd} (h : LiesAll w B r l a c K) (hB : B'.le B) : LiesAll w B' r l a c K :=
  ⟨h.1.weak hB, fun i X hX => (h.2 i X hX).weak hB⟩
theorem LiesAll.turn {N : Nat → Prop} {w w' : World} {B : Sel} {r : Nat} {l : List Ty} {a : Option Addr} {c : Nat} {K : Nat → Hd} (h : LiesAll w B r l a c K) (hk : Fr N w w') (hs : w.heap.size ≤ w'.heap.size) (hN : ∀ b, b < w.heap.size → B.S b → ¬ N b) : LiesAll w' B r l a c K :=
  ⟨h.1.turn hk hs hN, fun i X hX => (h.2 i X hX).turn hk hs hN⟩
/-- What has been made reads as the type with what stands for its names. -/
theorem renew_lies {w W1 wr WF WE : World} {rr : Nat} {T : Ty} {φ : Ty → Ty} {h : Hd} {K : Nat → Hd} {fa' la' ra' : Option Addr} {fc' lc' rc' : Nat} {x : Option Nat} {K' KL KR : Nat → Hd} (t : Top w A0 T h K) (hz : w.heap.size + 2 < W1.heap.size) (hK : Kp W1 wr)
    (htf : tab wr (From W1.heap.size) 52 fa' h.fl fc' 7 (fun i => [.string (T.fn.getD i ByteArray.empty)] ++ (K' i).cells)) (hkf : ∀ i X, i < h.fl → (T.kids.map φ)[i]? = some X → Lies wr ⟨True, fun b => W1.heap.size ≤ b ∧ some b ≠ x⟩ rr X (K' i))
    (el : (((T.kids.drop h.fl).take h.ll).map φ).length = h.ll) (er : (((T.kids.drop (h.fl + h.ll)).take h.rl).map φ).length = h.rl)
    (hll : LiesAll WF (From wr.heap.size) rr (((T.kids.drop h.fl).take h.ll).map φ) la' lc' KL) (hlr : LiesAll WF (From wr.heap.size) rr (((T.kids.drop (h.fl + h.ll)).take h.rl).map φ) ra' rc' KR)
    (hkF : Kp wr WF) (hke : Ke (w.heap.size + 1) WF WE) :
    Lies WE (From w.heap.size) (rr + 1) (.mk T.k T.nm T.con T.fn T.nl (T.kids.map φ)) ⟨h.k, h.nm, h.con, fa', h.fl, fc', la', h.ll, lc', ra', h.rl, rc'⟩ := by
  have hs := hke.2.2.2.1
  have hw := hK.sz
  have N1 : ∀ b, b < WF.heap.size → (From W1.heap.size).S b → ¬ b = w.heap.size + 1 := fun b _ (hb : W1.heap.size ≤ b) => by omega
  have N2 : ∀ b, b < WF.heap.size → (From wr.heap.size).S b → ¬ b = w.heap.size + 1 := fun b _ (hb : wr.heap.size ≤ b) => by omega
  have L1 : (From w.heap.size).le (From W1.heap.size) := From_le (by omega)
  have L2 : (From w.heap.size).le (From wr.heap.size) := From_le (by omega)
  have hl := (hll.turn hke.fr hs N2).weak L2
  have hr := (hlr.turn hke.fr hs N2).weak L2
  refine built (T' := .mk T.k T.nm T.con T.fn T.nl (T.kids.map φ)) (KF := K') (KL := KL) (KR := KR) t ⟨rfl, rfl, rfl, rfl, rfl, List.length_map _⟩ ((htf.keep hkF).turn hke.fr hs N1 |>.weak L1) ?_ ?_ ?_ ?_ ?_
  · intro i X hi hX
    exact (((hkf i X hi hX).keep hkF).turn hke.fr hs (fun b _ (hb : W1.heap.size ≤ b ∧ some b ≠ x) => by have := hb.1; omega)).weak (show Sel.le (From w.heap.size) ⟨True, fun b => W1.heap.size ≤ b ∧ some b ≠ x⟩ from ⟨fun h => h, fun b hb => (show w.heap.size ≤ b by have := hb.1; omega)⟩)
  · have h1 := hl.1
    rwa [el] at h1
  · intro i X hi hX
    refine hl.2 i X ?_
    have hX' : (T.kids.map φ)[h.fl + i]? = some X := hX
    rw [List.getElem?_map] at hX' ⊢
    rw [List.getElem?_take, if_pos hi, List.getElem?_drop]
    exact hX'
  · have h1 := hr.1
    rwa [er] at h1
  · intro i X hi hX
    refine hr.2 i X ?_
    have hX' : (T.kids.map φ)[h.fl + h.ll + i]? = some X := hX
    rw [List.getElem?_map] at hX' ⊢
    rw [List.getElem?_take, if_pos hi, List.getElem?_drop]
    exact hX'
set_option maxHeartbeats 3200000 in
set_option maxRecDepth 100000 in
theorem renew_miss (bs br bl : Nat) (sm : Option Nat) (fS : ByteArray → Option Value) (σ : ByteArray → Option Ty) (Ra r : Nat)
    (cf : ∀ (X : Ty) (hx : Hd) (W : World), EnvR W bs br bl sm fS → StOK W fS σ Ra → Lies W A0 r X hx → Calls Try.prog 47 #[hx.val, .pointer (some ⟨bs, 0, none⟩), .pointer (some ⟨br, 0, none⟩), .pointer (some ⟨bl, 0, none⟩)] W (MadeP (r + Ra) (fill σ r X) W))
    (T : Ty) (h : Hd) (K : Nat → Hd) (w : World) (hE : EnvR w bs br bl sm fS) (hS : StOK w fS σ Ra) (t : Top w A0 T h K) (hh : ∀ i X, T.kids[i]? = some X → Lies w A0 r X (K i)) (u : Hd) (ok : Bool)
    (hu : (fS h.nm).getD hd0.val = u.val) (hok : (fS h.nm).isSome = ok) (hno : ok = false ∨ (ok = true ∧ (h.k == 12) = false)) :
    Calls Try.prog 47 #[h.val, .pointer (some ⟨bs, 0, none⟩), .pointer (some ⟨br, 0, none⟩), .pointer (some ⟨bl, 0, none⟩)] w (MadeP (r + Ra + 1) (.mk T.k T.nm T.con T.fn T.nl (T.kids.map (fill σ r))) w) := by
  have hE1 := hE.es
  have HE := Lib.hid hE
  have HN := Lib.hid t.rn
  have HT := Lib.hid t
  have HH := Lib.hid hh
  have CF := Lib.hid cf
  have HS := Lib.hid hS
  have HU := Lib.hid hu
  have HOK := Lib.hid hok
  have hb := lt_of_cell hE1
  simp only at hb
  clear hE hS t hh cf hu hok
  obtain ⟨k, nm, con, fa, fl, fc, la, ll, lc, ra, rl, rc⟩ := h
  obtain ⟨uk, unm, ucon, ufa, ufl, ufc, ula, ull, ulc, ura, url, urc⟩ := u
  simp only at hno
  rcases hno with rfl | ⟨rfl, b12⟩
  all_goals
    go_enter Try.func47, Try.ntmps47
    go_wp2_with (first | ((with_reducible show wpList _ _ _ (⟨some 15, _, _, _, _, _⟩ :: _) _ _); refine wpList_map_opt (d := 15) _ _ 66 9 42 rfl Try.underlying9 Try.underlying66 _ zeroY sm fS (by rfl) (HE.out.em.keep (((Kp.refl w).alloc _).alloc _)) nm (by rfl) (by have := HN.out; unfold maxLen; simp only at this; omega) _ HU.out _ HOK.out ?_))
    obtain ⟨i1, hj, hy0, hy1, hy2⟩ := info_parts infoF
    obtain ⟨W1, hW1⟩ : ∃ W1, (((w.alloc (.cells #[.int .i64 k, .string nm, .int .i64 con, .slice fa fl fc, .slice la ll lc, .slice ra rl rc] 42)).alloc (.cells #[.int .i64 0, .string ⟨#[]⟩, .int .i64 0, .slice none 0 0, .slice none 0 0, .slice none 0 0] 42)).alloc (.cells #[.int .i64 uk, .string unm, .int .i64 ucon, .slice ufa ufl ufc, .slice ula ull ulc, .slice ura url urc] 42)) = W1 := ⟨_, rfl⟩
    have hK1 : Kp w W1 := by rw [← hW1]; exact (((Kp.refl w).alloc _).alloc _).alloc _
    have hz1 : W1.heap.size = w.heap.size + 1 + 1 + 1 := by rw [← hW1]; simp
    have hres : W1.heap[w.heap.size + 1]? = some (.cells #[.int .i64 0, .string ⟨#[]⟩, .int .i64 0, .slice none 0 0, .slice none 0 0, .slice none 0 0] 42 (0, 0)) := by
      rw [← hW1]
      exact (((Kp.refl _).alloc _).blk (b := w.heap.size + 1) (by simp)).trans (heap_at (by simp))
    have hbox : W1.heap[w.heap.size]? = some (.cells #[.int .i64 k, .string nm, .int .i64 con, .slice fa fl fc, .slice la ll lc, .slice ra rl rc] 42 (0, 0)) := by
      rw [← hW1]
      exact ((((Kp.refl _).alloc _).alloc _).blk (b := w.heap.size) (by simp)).trans (heap_alloc_new _ _)
    rw [hW1]
    have HZ := Lib.hid hz1
    have HRES := Lib.hid hres
    have HBOX := Lib.hid hbox
    have HK1 := Lib.hid hK1
    have hes := HT.out.es
    have hbf := HT.out.bf
    simp only at hes hbf
    have hfl : fl ≤ T.kids.length := by omega
    have HES := Lib.hid hes
    clear hW1 hz1 hres hbox hK1 hes
    go_loopw [8, 29] (fun x i wr => ∃ n K' v, n ≤ fl ∧ v = x ∧ i = .int .i64 (n : Nat) ∧ KidsIn wr W1.heap.size 52 7 (r + Ra) (T.kids.map (fill σ r)) n v (fun i => [.string (T.fn.getD i ByteArray.empty)]) K' ∧ Kp W1 wr) (fun _ i _ => fl - (intOf i).toNat)
    case atStart => exact ⟨0, K, _, by omega, rfl, rfl, kidsIn_nil _ _ _ _ _ _ _ _, Kp.refl _⟩
    case round =>
      obtain ⟨n, K', v, hn, rfl, rfl, hI, hkr⟩ := hrel
      have HI := Lib.hid hI
      have HK := Lib.hid hkr
      clear hI hkr
      have hw1 : W1.heap.size ≤ wr.heap.size := HK.out.sz
      by_cases hlt : n < fl
      · obtain ⟨b, o, ha, hr⟩ := HT.out.tf.at (by simp only; omega)
        have HA := Lib.hid ha
        have hrn := hr n hlt
        clear ha hr
        obtain ⟨sn, hsn⟩ : ∃ sn, T.fn.getD n ByteArray.empty = sn := ⟨_, rfl⟩
        rw [hsn] at hrn
        have HSN := Lib.hid hsn
        have HR := Lib.hid hrn
        clear hsn hrn
        obtain ⟨X, hX⟩ : ∃ X, T.kids[n]? = some X := ⟨_, List.getElem?_eq_getElem (by omega)⟩
        have HX := Lib.hid hX
        have HX' := Lib.hid (show (T.kids.map (fill σ r))[n]? = some (fill σ r X) by rw [List.getElem?_map, hX]; rfl)
        clear hX
        have HKW := Lib.hid (HK1.out.trans HK.out)
        go_wp2_with (first | ((with_reducible show wpList _ _ _ (⟨some 31, _, _, _, _, _⟩ :: _) _ _); refine wpList_index_tab (d := 31) _ _ _ rfl 52 Try.underlying40 7 rfl _ _ _ _ o (by rfl) HA.out n (by rfl) hlt ?_) | ((with_reducible show wpList _ _ _ (⟨some 32, _, _, _, _, _⟩ :: _) _ _); refine wpList_load_fd (d := 32) _ _ rfl _ Try.underlying52 w _ _ b (o + n * 7) (by rfl) rfl (by first | rfl | omega) sn (K n) HR.out HKW.out rfl ?_))
        obtain ⟨WB, hWB⟩ : ∃ WB, wr.alloc (.cells #[.string sn, .int .i64 (K n).k, .string (K n).nm, .int .i64 (K n).con, .slice (K n).fa (K n).fl (K n).fc, .slice (K n).la (K n).ll (K n).lc, .slice (K n).ra (K n).rl (K n).rc] 52) = WB := ⟨_, rfl⟩
        have hbx : WB.heap[wr.heap.size]? = some (.cells #[.string sn, .int .i64 (K n).k, .string (K n).nm, .int .i64 (K n).con, .slice (K n).fa (K n).fl (K n).fc, .slice (K n).la (K n).ll (K n).lc, .slice (K n).ra (K n).rl (K n).rc] 52 (0, 0)) := by rw [← hWB]; exact heap_alloc_new _ _
        have hkb : Kp wr WB := by rw [← hWB]; exact (Kp.refl _).alloc _
        have hbz : WB.heap.size = wr.heap.size + 1 := by rw [← hWB]; simp
        have hsb : WB.cell? ⟨br, 0, none⟩ = some (.func (.func 47) #[] #[.pointer (some ⟨bs, 0, none⟩), .pointer (some ⟨br, 0, none⟩), .pointer (some ⟨bl, 0, none⟩)]) ∧ WB.cell? ⟨wr.heap.size, 0, none⟩ = some (.string sn) ∧ WB.cell? ⟨wr.heap.size, 1, none⟩ = some (.int .i64 (K n).k) ∧ WB.cell? ⟨wr.heap.size, 2, none⟩ = some (.string (K n).nm) ∧ WB.cell? ⟨wr.heap.size, 3, none⟩ = some (.int .i64 (K n).con) ∧ WB.cell? ⟨wr.heap.size, 4, none⟩ = some (.slice (K n).fa (K n).fl (K n).fc) ∧ WB.cell? ⟨wr.heap.size, 5, none⟩ = some (.slice (K n).la (K n).ll (K n).lc) ∧ WB.cell? ⟨wr.heap.size, 6, none⟩ = some (.slice (K n).ra (K n).rl (K n).rc) := by
          refine ⟨(HE.out.keep (HKW.out.trans hkb)).er, ?_, ?_, ?_, ?_, ?_, ?_, ?_⟩ <;> (rw [row_cell hbx]; rfl)
        rw [hWB]
        have HKB := Lib.hid hkb
        have HSB := Lib.hid hsb
        have HBZ := Lib.hid hbz
        have hcl : br < wr.heap.size := lt_of_cell (HE.out.keep HKW.out).er
        have hcw : br < w.heap.size := lt_of_cell HE.out.er
        have HNO : Hid (∀ q, (q < W1.heap.size ∨ wr.heap.size ≤ q) → some q ≠ v.ownBlock) := Lib.hid (fun q hq e => by have := HI.out.1.lt q e.symm; omega)
        have hc1 : br < W1.heap.size := by have := HZ.out; omega
        have CSH : Hid (∀ w' : World, (∀ (p : Addr) (v : Value), (p.block < W1.heap.size ∨ wr.heap.size ≤ p.block) → WB.cell? p = some v → w'.cell? p = some v) → w'.cell? ⟨br, 0, none⟩ = some (.func (.func 47) #[] #[.pointer (some ⟨bs, 0, none⟩), .pointer (some ⟨br, 0, none⟩), .pointer (some ⟨bl, 0, none⟩)]) ∧ w'.cell? ⟨wr.heap.size, 0, none⟩ = some (.string sn) ∧ w'.cell? ⟨wr.heap.size, 1, none⟩ = some (.int .i64 (K n).k) ∧ w'.cell? ⟨wr.heap.size, 2, none⟩ = some (.string (K n).nm) ∧ w'.cell? ⟨wr.heap.size, 3, none⟩ = some (.int .i64 (K n).con) ∧ w'.cell? ⟨wr.heap.size, 4, none⟩ = some (.slice (K n).fa (K n).fl (K n).fc) ∧ w'.cell? ⟨wr.heap.size, 5, none⟩ = some (.slice (K n).la (K n).ll (K n).lc) ∧ w'.cell? ⟨wr.heap.size, 6, none⟩ = some (.slice (K n).ra (K n).rl (K n).rc)) :=
          Lib.hid (fun w' f => ⟨f _ _ (.inl hc1) HSB.out.1, f _ _ (.inr (Nat.le_refl _)) HSB.out.2.1, f _ _ (.inr (Nat.le_refl _)) HSB.out.2.2.1, f _ _ (.inr (Nat.le_refl _)) HSB.out.2.2.2.1, f _ _ (.inr (Nat.le_refl _)) HSB.out.2.2.2.2.1, f _ _ (.inr (Nat.le_refl _)) HSB.out.2.2.2.2.2.1, f _ _ (.inr (Nat.le_refl _)) HSB.out.2.2.2.2.2.2.1, f _ _ (.inr (Nat.le_refl _)) HSB.out.2.2.2.2.2.2.2⟩)
        clear hWB hbx hkb hbz hsb hcl hcw hc1
        go_region_held3 (fun w' => w'.cell? ⟨br, 0, none⟩ = some (.func (.func 47) #[] #[.pointer (some ⟨bs, 0, none⟩), .pointer (some ⟨br, 0, none⟩), .pointer (some ⟨bl, 0, none⟩)]) ∧ w'.cell? ⟨wr.heap.size, 0, none⟩ = some (.string sn) ∧ w'.cell? ⟨wr.heap.size, 1, none⟩ = some (.int .i64 (K n).k) ∧ w'.cell? ⟨wr.heap.size, 2, none⟩ = some (.string (K n).nm) ∧ w'.cell? ⟨wr.heap.size, 3, none⟩ = some (.int .i64 (K n).con) ∧ w'.cell? ⟨wr.heap.size, 4, none⟩ = some (.slice (K n).fa (K n).fl (K n).fc) ∧ w'.cell? ⟨wr.heap.size, 5, none⟩ = some (.slice (K n).la (K n).ll (K n).lc) ∧ w'.cell? ⟨wr.heap.size, 6, none⟩ = some (.slice (K n).ra (K n).rl (K n).rc))
          (first | (refine CSH.out _ (fun p v hp hc => Kp.cellv (a := WB) ?_ hc); (repeat (first | with_reducible exact Kp.refl _ | with_reducible refine Kp.alloc ?_ _ | with_reducible refine Kp.drew ?_ | with_reducible refine Kp.back hk1 ?_)); done) | (refine CSH.out _ (fun p v hp hc => hg1.cell (Kp.cellv (a := WB) ?_ hc) (HNO.out _ hp)); (repeat (first | with_reducible exact Kp.refl _ | with_reducible refine Kp.alloc ?_ _ | with_reducible refine Kp.drew ?_ | with_reducible refine Kp.back hk1 ?_)); done))
          ((first | (go_at_call 47; refine (CF.out X (K n) _ (HE.out.keep (by refine Kp.trans (Kp.trans HKW.out HKB.out) ?_; (repeat (first | with_reducible exact Kp.refl _ | with_reducible refine Kp.alloc ?_ _ | with_reducible refine Kp.drew ?_ | with_reducible refine Kp.back hk1 ?_)))) (HS.out.keep (by refine Kp.trans (Kp.trans HKW.out HKB.out) ?_; (repeat (first | with_reducible exact Kp.refl _ | with_reducible refine Kp.alloc ?_ _ | with_reducible refine Kp.drew ?_ | with_reducible refine Kp.back hk1 ?_)))) ((HH.out n X HX.out).keep (by refine Kp.trans (Kp.trans HKW.out HKB.out) ?_; (repeat (first | with_reducible exact Kp.refl _ | with_reducible refine Kp.alloc ?_ _ | with_reducible refine Kp.drew ?_ | with_reducible refine Kp.back hk1 ?_))))).mono ?_; rintro e w1 ⟨h', rfl, hli, hk1⟩) | (refine step_append_lies _ (by rfl) _ _ _ (by rfl) W1.heap.size 52 i1 _ 7 120 Try.underlying40 hj hy0 hy1 hy2 rfl (by omega) v n _ (by rfl) ((HI.out.keep (by refine Kp.trans HKB.out ?_; (repeat (first | with_reducible exact Kp.refl _ | with_reducible refine Kp.alloc ?_ _ | with_reducible refine Kp.drew ?_ | with_reducible refine Kp.back hk1 ?_)))).1) ⟨w1.heap.size, 0, none⟩ 1 1 (.string sn :: h'.cells) (by rfl) (by rfl) (World.news_of_block (cs := (.string sn :: h'.cells).toArray) (t := 52) (fr := (0, 0)) (heap_alloc_new w1 _)) (by intro u hu; simp at hu; rcases hu with rfl | rfl | rfl | rfl | rfl | rfl | rfl <;> rfl) (by omega) (by unfold maxLen; omega) (by omega) (by have := hk1.sz; have := HBZ.out; simp at *; omega) (w1.heap.size + 1) (by simp) ?_; intro gg cap w3 hown3 hg1 hat hlt3)))
        go_wp2_with fail
        have hkw : Kp wr w1 := HKB.out.trans (Kp.trans (Kp.drew (Kp.refl _)) hk1)
        go_roundw
        case rel => exact ⟨n + 1, put K' n h', _, by omega, rfl, by go_num, KidsIn.next hw1 HI.out HX'.out hkw (hli.weak (From_le (by have := HBZ.out; simp; omega))) ((Kp.refl w1).alloc _) (by rw [HSN.out]; exact hown3) hg1 (hat.elim (fun e => .inl e.symm) (fun e => .inr (by rw [e]; simp [Value.ownBlock]))), (HK.out.trans (hkw.alloc _)).grown hg1 (fun k hk => (HI.out.1.lt k hk).1)⟩
        case measure => simp [intOf]; omega
      · obtain rfl : fl = n := by omega
        have hI0 := HI.out
        obtain ⟨fa', fc', rfl, _, htf, hob⟩ := tab_of_owns hI0.1 (fun _ => rfl)
        have HTF := Lib.hid htf
        have HKF := Lib.hid hI0.2
        clear htf hI0 hob HI
        have hT := HT.out
        have kl := Lib.hid (kids_part HH.out hT.tl (by rw [← hT.es]; exact Nat.le_add_right _ _))
        have kr := Lib.hid (kids_part HH.out hT.tr (by rw [← hT.es]; exact Nat.le_refl _))
        have hbl := hT.bl
        have hbr := hT.br
        simp only at hbl hbr
        clear hT
        have HBL := Lib.hid hbl
        have HBR := Lib.hid hbr
        clear hbl hbr
        have HKW := Lib.hid (HK1.out.trans HK.out)
        have hcw : bl < w.heap.size := lt_of_cell HE.out.el
        have hwz : w.heap.size < W1.heap.size := by have := HZ.out; omega
        have hbx := (HK.out.blk hwz).trans HBOX.out
        have hs10 : wr.cell? ⟨bl, 0, none⟩ = some (.func (.func 46) #[] #[.pointer (some ⟨br, 0, none⟩)]) ∧ wr.cell? ⟨w.heap.size, 0, none⟩ = some (.int .i64 k) ∧ wr.cell? ⟨w.heap.size, 1, none⟩ = some (.string nm) ∧ wr.cell? ⟨w.heap.size, 2, none⟩ = some (.int .i64 con) ∧ wr.cell? ⟨w.heap.size, 4, none⟩ = some (.slice la ll lc) ∧ wr.cell? ⟨w.heap.size, 5, none⟩ = some (.slice ra rl rc) := by
          refine ⟨(HE.out.keep HKW.out).el, ?_, ?_, ?_, ?_, ?_⟩ <;> (rw [row_cell hbx]; rfl)
        have HS10 := Lib.hid hs10
        have CSK : Hid (∀ w' : World, Kp wr w' → w'.cell? ⟨bl, 0, none⟩ = some (.func (.func 46) #[] #[.pointer (some ⟨br, 0, none⟩)]) ∧ w'.cell? ⟨w.heap.size, 0, none⟩ = some (.int .i64 k) ∧ w'.cell? ⟨w.heap.size, 1, none⟩ = some (.string nm) ∧ w'.cell? ⟨w.heap.size, 2, none⟩ = some (.int .i64 con) ∧ w'.cell? ⟨w.heap.size, 4, none⟩ = some (.slice la ll lc) ∧ w'.cell? ⟨w.heap.size, 5, none⟩ = some (.slice ra rl rc)) :=
          Lib.hid (fun w' f => ⟨f.cellv HS10.out.1, f.cellv HS10.out.2.1, f.cellv HS10.out.2.2.1, f.cellv HS10.out.2.2.2.1, f.cellv HS10.out.2.2.2.2.1, f.cellv HS10.out.2.2.2.2.2⟩)
        have HB8 := Lib.hid hbx
        have CSE : Hid (∀ (W' W6 : World), Kp wr W' → Ke (w.heap.size + 1) W' W6 → (fun w' : World => w'.cell? ⟨bl, 0, none⟩ = some (.func (.func 46) #[] #[.pointer (some ⟨br, 0, none⟩)]) ∧ w'.cell? ⟨w.heap.size, 0, none⟩ = some (.int .i64 k) ∧ w'.cell? ⟨w.heap.size, 1, none⟩ = some (.string nm) ∧ w'.cell? ⟨w.heap.size, 2, none⟩ = some (.int .i64 con) ∧ w'.cell? ⟨w.heap.size, 4, none⟩ = some (.slice la ll lc) ∧ w'.cell? ⟨w.heap.size, 5, none⟩ = some (.slice ra rl rc)) W6) :=
          Lib.hid (fun W' W6 f g => by
            have hq : ∀ (p : Addr) (v : Value), p.block ≠ w.heap.size + 1 → W'.cell? p = some v → W6.cell? p = some v := fun p v hp hc => by
              rw [← hc]; exact World.cell?_of_block (g.2.2.2.2 _ (lt_of_cell hc) hp)
            obtain ⟨c0, c1, c2, c3, c4, c5⟩ := CSK.out W' f
            exact ⟨hq _ _ (by simp; omega) c0, hq _ _ (by simp) c1, hq _ _ (by simp) c2, hq _ _ (by simp) c3, hq _ _ (by simp) c4, hq _ _ (by simp) c5⟩)
        obtain ⟨q0, q1, q2, q3, q4, q5⟩ := hs10
        clear hcw hwz hbx q0 q1 q2 q3 q4 q5
        have q0 := row_cell HB8.out 3
        simp at q0
        have CL := Lib.hid (fun (W' : World) (hk : Kp wr W') => (show Calls Try.prog 46 #[.slice la ll lc, .pointer (some ⟨br, 0, none⟩)] W' fun e w' => ∃ ad c K', e = .returned (.slice ad ll c) ∧ LiesAll w' (From W'.heap.size) (r + Ra) (((T.kids.drop fl).take ll).map (fill σ r)) ad c K' ∧ Kp W' w' from
          c_list bs br bl sm fS σ Ra r (r + Ra) (fill σ r) CF.out _ ll kl.out.1 la lc (fun i => K (fl + i)) W' (HE.out.keep (HKW.out.trans hk)) (HS.out.keep (HKW.out.trans hk)) (kl.out.2.keep (HKW.out.trans hk)) HBL.out))
        have CR := Lib.hid (fun (W' : World) (hk : Kp wr W') => (show Calls Try.prog 46 #[.slice ra rl rc, .pointer (some ⟨br, 0, none⟩)] W' fun e w' => ∃ ad c K', e = .returned (.slice ad rl c) ∧ LiesAll w' (From W'.heap.size) (r + Ra) (((T.kids.drop (fl + ll)).take rl).map (fill σ r)) ad c K' ∧ Kp W' w' from
          c_list bs br bl sm fS σ Ra r (r + Ra) (fill σ r) CF.out _ rl kr.out.1 ra rc (fun i => K (fl + ll + i)) W' (HE.out.keep (HKW.out.trans hk)) (HS.out.keep (HKW.out.trans hk)) (kr.out.2.keep (HKW.out.trans hk)) HBR.out))
        have RES : Hid (∀ W', Kp wr W' → W'.heap[w.heap.size + 1]? = some (.cells #[.int .i64 0, .string ⟨#[]⟩, .int .i64 0, .slice none 0 0, .slice none 0 0, .slice none 0 0] 42 (0, 0))) :=
          Lib.hid (fun W' hk => (Kp.blk (HK.out.trans hk) (b := w.heap.size + 1) (by have := HZ.out; omega)).trans HRES.out)
        go_wp2_with fail
        refine wp_region_held_drew (S := (fun w' : World => w'.cell? ⟨bl, 0, none⟩ = some (.func (.func 46) #[] #[.pointer (some ⟨br, 0, none⟩)]) ∧ w'.cell? ⟨w.heap.size, 0, none⟩ = some (.int .i64 k) ∧ w'.cell? ⟨w.heap.size, 1, none⟩ = some (.string nm) ∧ w'.cell? ⟨w.heap.size, 2, none⟩ = some (.int .i64 con) ∧ w'.cell? ⟨w.heap.size, 4, none⟩ = some (.slice la ll lc) ∧ w'.cell? ⟨w.heap.size, 5, none⟩ = some (.slice ra rl rc))) (by kernel_rfl) (CSK.out _ (Kp.drew (Kp.refl _))) (fun hHeld0 => ?_)
        refine wpAnyH_take (i := 0) (oi := { dst := some 44, op := Op.fieldAddr 42 (Operand.tmp 4) 0, type := 0, pos := "subst.go:61", after := #[], guard := none }) (v := ?_) rfl (by kernel_rfl) (by kernel_rfl) (by kernel_rfl) (fun _ _ _ h => h) (Or.inl ⟨by rfl, ?_⟩) (by assumption) ?_
        rotate_left
        · (intro wz hSw; (try dsimp only at hSw); go_simp; first | done | with_reducible rfl)
        try simp only [Act.put, List.setIfInBounds_toArray, List.set_cons_zero, List.set_cons_succ]
        refine wpAnyH_take (i := 1) (oi := { dst := some 45, op := Op.load 3 (Operand.tmp 44), type := 3, pos := "subst.go:61", after := #[{ on := 0, ground := Ground.data }], guard := none }) (v := ?_) rfl (by kernel_rfl) (by kernel_rfl) (by kernel_rfl) (fun _ _ _ h => h) (Or.inl ⟨by rfl, ?_⟩) (by assumption) ?_
        rotate_left
        · (intro wz hSw; (try dsimp only at hSw); go_simp; first | done | with_reducible rfl)
        try simp only [Act.put, List.setIfInBounds_toArray, List.set_cons_zero, List.set_cons_succ]
        refine wpAnyH_take (i := 2) (oi := { dst := some 46, op := Op.fieldAddr 42 (Operand.tmp 4) 1, type := 0, pos := "subst.go:61", after := #[], guard := none }) (v := ?_) rfl (by kernel_rfl) (by kernel_rfl) (by kernel_rfl) (fun _ _ _ h => h) (Or.inl ⟨by rfl, ?_⟩) (by assumption) ?_
        rotate_left
        · (intro wz hSw; (try dsimp only at hSw); go_simp; first | done | with_reducible rfl)
        try simp only [Act.put, List.setIfInBounds_toArray, List.set_cons_zero, List.set_cons_succ]
        refine wpAnyH_take (i := 3) (oi := { dst := some 47, op := Op.load 9 (Operand.tmp 46), type := 9, pos := "subst.go:61", after := #[{ on := 2, ground := Ground.data }], guard := none }) (v := ?_) rfl (by kernel_rfl) (by kernel_rfl) (by kernel_rfl) (fun _ _ _ h => h) (Or.inl ⟨by rfl, ?_⟩) (by assumption) ?_
        rotate_left
        · (intro wz hSw; (try dsimp only at hSw); go_simp; first | done | with_reducible rfl)
        try simp only [Act.put, List.setIfInBounds_toArray, List.set_cons_zero, List.set_cons_succ]
        refine wpAnyH_take (i := 4) (oi := { dst := some 48, op := Op.fieldAddr 42 (Operand.tmp 4) 2, type := 0, pos := "subst.go:61", after := #[], guard := none }) (v := ?_) rfl (by kernel_rfl) (by kernel_rfl) (by kernel_rfl) (fun _ _ _ h => h) (Or.inl ⟨by rfl, ?_⟩) (by assumption) ?_
        rotate_left
        · (intro wz hSw; (try dsimp only at hSw); go_simp; first | done | with_reducible rfl)
        try simp only [Act.put, List.setIfInBounds_toArray, List.set_cons_zero, List.set_cons_succ]
        refine wpAnyH_take (i := 5) (oi := { dst := some 49, op := Op.load 3 (Operand.tmp 48), type := 3, pos := "subst.go:61", after := #[{ on := 4, ground := Ground.data }], guard := none }) (v := ?_) rfl (by kernel_rfl) (by kernel_rfl) (by kernel_rfl) (fun _ _ _ h => h) (Or.inl ⟨by rfl, ?_⟩) (by assumption) ?_
        rotate_left
        · (intro wz hSw; (try dsimp only at hSw); go_simp; first | done | with_reducible rfl)
        try simp only [Act.put, List.setIfInBounds_toArray, List.set_cons_zero, List.set_cons_succ]
        refine wpAnyH_take (i := 6) (oi := { dst := some 50, op := Op.move (Operand.tmp 8), type := 40, pos := "subst.go:61", after := #[], guard := none }) (v := ?_) rfl (by kernel_rfl) (by kernel_rfl) (by kernel_rfl) (fun _ _ _ h => h) (Or.inl ⟨by rfl, ?_⟩) (by assumption) ?_
        rotate_left
        · (intro wz hSw; (try dsimp only at hSw); go_simp; first | done | with_reducible rfl)
        try simp only [Act.put, List.setIfInBounds_toArray, List.set_cons_zero, List.set_cons_succ]
        refine wpAnyH_take (i := 7) (oi := { dst := some 51, op := Op.load 28 (Operand.tmp 3), type := 28, pos := "subst.go:61", after := #[], guard := none }) (v := ?_) rfl (by kernel_rfl) (by kernel_rfl) (by kernel_rfl) (fun _ _ _ h => h) (Or.inl ⟨by rfl, ?_⟩) (by assumption) ?_
        rotate_left
        · (intro wz hSw; (try dsimp only at hSw); go_simp; first | done | with_reducible rfl)
        try simp only [Act.put, List.setIfInBounds_toArray, List.set_cons_zero, List.set_cons_succ]
        refine wpAnyH_take (i := 8) (oi := { dst := some 52, op := Op.fieldAddr 42 (Operand.tmp 4) 4, type := 0, pos := "subst.go:61", after := #[], guard := none }) (v := ?_) rfl (by kernel_rfl) (by kernel_rfl) (by kernel_rfl) (fun _ _ _ h => h) (Or.inl ⟨by rfl, ?_⟩) (by assumption) ?_
        rotate_left
        · (intro wz hSw; (try dsimp only at hSw); go_simp; first | done | with_reducible rfl)
        try simp only [Act.put, List.setIfInBounds_toArray, List.set_cons_zero, List.set_cons_succ]
        refine wpAnyH_take (i := 9) (oi := { dst := some 53, op := Op.load 23 (Operand.tmp 52), type := 23, pos := "subst.go:61", after := #[{ on := 8, ground := Ground.data }], guard := none }) (v := ?_) rfl (by kernel_rfl) (by kernel_rfl) (by kernel_rfl) (fun _ _ _ h => h) (Or.inl ⟨by rfl, ?_⟩) (by assumption) ?_
        rotate_left
        · (intro wz hSw; (try dsimp only at hSw); go_simp; first | done | with_reducible rfl)
        try simp only [Act.put, List.setIfInBounds_toArray, List.set_cons_zero, List.set_cons_succ]
        refine wpAnyH_take (i := 11) (oi := { dst := some 55, op := Op.load 28 (Operand.tmp 3), type := 28, pos := "subst.go:61", after := #[], guard := none }) (v := ?_) rfl (by kernel_rfl) (by kernel_rfl) (by kernel_rfl) (fun _ _ _ h => h) (Or.inl ⟨by rfl, ?_⟩) (by assumption) ?_
        rotate_left
        · (intro wz hSw; (try dsimp only at hSw); go_simp; first | done | with_reducible rfl)
        try simp only [Act.put, List.setIfInBounds_toArray, List.set_cons_zero, List.set_cons_succ]
        refine wpAnyH_take (i := 12) (oi := { dst := some 56, op := Op.fieldAddr 42 (Operand.tmp 4) 5, type := 0, pos := "subst.go:61", after := #[], guard := none }) (v := ?_) rfl (by kernel_rfl) (by kernel_rfl) (by kernel_rfl) (fun _ _ _ h => h) (Or.inl ⟨by rfl, ?_⟩) (by assumption) ?_
        rotate_left
        · (intro wz hSw; (try dsimp only at hSw); go_simp; first | done | with_reducible rfl)
        try simp only [Act.put, List.setIfInBounds_toArray, List.set_cons_zero, List.set_cons_succ]
        refine wpAnyH_take (i := 13) (oi := { dst := some 57, op := Op.load 23 (Operand.tmp 56), type := 23, pos := "subst.go:61", after := #[{ on := 12, ground := Ground.data }], guard := none }) (v := ?_) rfl (by kernel_rfl) (by kernel_rfl) (by kernel_rfl) (fun _ _ _ h => h) (Or.inl ⟨by rfl, ?_⟩) (by assumption) ?_
        rotate_left
        · (intro wz hSw; (try dsimp only at hSw); go_simp; first | done | with_reducible rfl)
        try simp only [Act.put, List.setIfInBounds_toArray, List.set_cons_zero, List.set_cons_succ]
        refine wpAnyH_ready (rs := [10]) (by kernel_rfl) (by simp) ?_
        refine AllReadyH.cons (o := { dst := some 54, op := Op.call { callee := Callee.value (Operand.tmp 51), args := #[Operand.tmp 53], argTypes := #[23] }, type := 23, pos := "subst.go:61", after := #[{ on := 7, ground := Ground.data }, { on := 9, ground := Ground.data }], guard := none }) rfl (fun Kw hKw => ?_) AllReadyH.nil
        go_simp
        go_at_call 46
        refine (CL.out _ (Kp.drew (Kp.refl _))).mono ?_
        rintro e w4 ⟨la', lc', KL, rfl, hll, hk4⟩
        have KW4 := Lib.hid (((Kp.refl wr).drew).trans hk4)
        go_wp2_with fail
        refine hKw.out _ _ (CSK.out _ KW4.out) (fun hHeld1 => ?_)
        clear hKw Kw hHeld0
        try simp only [Act.put, List.setIfInBounds_toArray, List.set_cons_zero, List.set_cons_succ]
        refine wpAnyH_ready (rs := [14]) (by kernel_rfl) (by simp) ?_
        refine AllReadyH.cons (o := { dst := some 58, op := Op.call { callee := Callee.value (Operand.tmp 55), args := #[Operand.tmp 57], argTypes := #[23] }, type := 23, pos := "subst.go:61", after := #[{ on := 11, ground := Ground.data }, { on := 13, ground := Ground.data }, { on := 10, ground := Ground.chain }], guard := none }) rfl (fun Kw hKw => ?_) AllReadyH.nil
        go_simp
        go_at_call 46
        refine (CR.out _ KW4.out).mono ?_
        rintro e w5 ⟨ra', rc', KR, rfl, hlr, hk5⟩
        have KF := Lib.hid (KW4.out.trans hk5)
        go_wp2_with fail
        refine hKw.out _ _ (CSK.out _ KF.out) (fun hHeld2 => ?_)
        clear hKw Kw hHeld1
        try simp only [Act.put, List.setIfInBounds_toArray, List.set_cons_zero, List.set_cons_succ]
        refine wpAnyH_take (i := 15) (oi := { dst := some 59, op := Op.build 42 #[(0, Operand.tmp 45), (1, Operand.tmp 47), (2, Operand.tmp 49), (3, Operand.tmp 50), (4, Operand.tmp 54), (5, Operand.tmp 58)], type := 42, pos := "subst.go:61", after := #[{ on := 1, ground := Ground.data }, { on := 3, ground := Ground.data }, { on := 5, ground := Ground.data }, { on := 6, ground := Ground.data }, { on := 10, ground := Ground.data }, { on := 14, ground := Ground.data }], guard := none }) (v := ?_) rfl (by kernel_rfl) (by kernel_rfl) (by kernel_rfl) (fun _ _ _ h => h) (Or.inl ⟨by rfl, ?_⟩) (by assumption) ?_
        rotate_left
        · (intro wz hSw; (try dsimp only at hSw); go_simp; first | done | with_reducible rfl)
        try simp only [Act.put, List.setIfInBounds_toArray, List.set_cons_zero, List.set_cons_succ]
        refine wpAnyH_ready (rs := [16]) (by kernel_rfl) (by simp) ?_
        refine AllReadyH.cons (o := { dst := none, op := Op.store 42 (Operand.tmp 5) (Operand.tmp 59), type := 0, pos := "subst.go:61", after := #[{ on := 15, ground := Ground.data }, { on := 14, ground := Ground.chain }, { on := 0, ground := Ground.phase }, { on := 1, ground := Ground.phase }, { on := 2, ground := Ground.phase }, { on := 3, ground := Ground.phase }, { on := 4, ground := Ground.phase }, { on := 5, ground := Ground.phase }, { on := 6, ground := Ground.phase }, { on := 7, ground := Ground.phase }, { on := 8, ground := Ground.phase }, { on := 9, ground := Ground.phase }, { on := 10, ground := Ground.phase }, { on := 11, ground := Ground.phase }, { on := 12, ground := Ground.phase }, { on := 13, ground := Ground.phase }, { on := 14, ground := Ground.phase }, { on := 15, ground := Ground.phase }], guard := none }) rfl (fun Kw hKw => ?_) AllReadyH.nil
        refine step_store_row (by rfl) 42 _ _ (by rfl) (w.heap.size + 1) #[.int .i64 k, .string nm, .int .i64 con, .slice fa' fl fc', .slice la' ll lc', .slice ra' rl rc'] (by rfl) (by rfl) 42 _ (RES.out _ KF.out) (by exact sizeT) (by rfl) (by simp [Value.oneCell']) ?_
        intro w6 hb6 hke
        refine hKw.out _ _ (CSE.out _ _ KF.out hke) (fun hHeld3 => ?_)
        clear hKw Kw hHeld2
        try simp only [Act.put, List.setIfInBounds_toArray, List.set_cons_zero, List.set_cons_succ]
        refine wpAnyH_done (by kernel_rfl) ?_ _
        have u0 := row_cell hb6 0
        have u1 := row_cell hb6 1
        have u2 := row_cell hb6 2
        have u3 := row_cell hb6 3
        have u4 := row_cell hb6 4
        have u5 := row_cell hb6 5
        simp at u0 u1 u2 u3 u4 u5
        have HB6 := Lib.hid hb6
        clear hb6
        go_wp2_with fail
        refine bodyPost_ret (v := .agg #[.int .i64 k, .string nm, .int .i64 con, .slice fa' fl fc', .slice la' ll lc', .slice ra' rl rc']) (by simp [results, Try.results47, go_sem, u0, u1, u2, u3, u4, u5]) rfl ⟨⟨k, nm, con, fa', fl, fc', la', ll, lc', ra', rl, rc'⟩, rfl, ?_, ?_⟩
        · exact renew_lies HT.out (by have := HZ.out; omega) HK.out HTF.out (fun i X hi hX => HKF.out i X hi hX) (by rw [List.length_map]; exact kl.out.1) (by rw [List.length_map]; exact kr.out.1) ((LiesAll.keep hll hk5).weak (From_le (by simp))) (hlr.weak (From_le (by have := KW4.out.sz; omega))) KF.out hke
        · exact hke.old (HK1.out.trans (HK.out.trans KF.out)) (by omega)
end Go.Proofs.Ytfjflfokmihcpaa
