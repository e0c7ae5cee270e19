/- Flat of the reference: all nodes of a node and their depths, at two rows' ends. Condition: the node lies in memory, and has not more nodes than a row may hold. -/
import Derived.Test.YtgamenimbkafjaaH1
import Derived.Test.YtgamenimbkafjaaE2
namespace Go.Proofs.Ytgamenimbkafjaa
open Go.RowKit
set_option linter.unusedVariables false
set_option linter.unusedSimpArgs false

theorem Two.weak {w w' : World} {a : Option Nat} (h : Two w w' a none) (b : Option Nat) : Two w w' a b := ⟨h.os, h.tape, h.output, h.sz, fun k hk h1 _ => h.blk k hk h1 (by simp)⟩
theorem Two.weak' {w w' : World} {b : Option Nat} (h : Two w w' b none) (a : Option Nat) : Two w w' a b := ⟨h.os, h.tape, h.output, h.sz, fun k hk _ h2 => h.blk k hk h2 (by simp)⟩
/-- What Flat leaves. -/
def FlatP (w0 : World) (R r : Nat) (T : Nd) (d : Int) (w : World) (vn vd : Value) (L : List (It w0 R)) (e : Ending) (w' : World) : Prop :=
  ∃ (vn' vd' : Value) (ys : List (It w0 R)), e = .returned (.tuple #[vn', vd']) ∧ ys.map Item.pr = flatN r d T ∧ FS w' w0.heap.size vn' vd' (L ++ ys) ∧ Kp w0 w' ∧ Two w w' vn.ownBlock vd.ownBlock ∧ New w vn.ownBlock vn'.ownBlock ∧ New w vd.ownBlock vd'.ownBlock
theorem FS.ltn {w : World} {B : Nat} {vn vd : Value} {w0 : World} {R : Nat} {L : List (It w0 R)} (h : FS w B vn vd L) : ∀ g, vn.ownBlock = some g → B ≤ g ∧ g < w.heap.size := fun g e => h.rn.lt g e
theorem FS.ltd {w : World} {B : Nat} {vn vd : Value} {w0 : World} {R : Nat} {L : List (It w0 R)} (h : FS w B vn vd L) : ∀ g, vd.ownBlock = some g → B ≤ g ∧ g < w.heap.size := fun g e => h.rd.lt g e
theorem lies_out {w0 : World} {r : Nat} {T : Nd} {h : Hn} (hl : Lies w0 A0 r T h) : Lies w0 (Out fun _ => False) r T h := out_of hl (Kp.refl w0) (fun _ h => h.elim)
set_option maxHeartbeats 6400000 in
set_option maxRecDepth 100000 in
theorem flat_step (w0 : World) (R r : Nat) (hr : r + 1 ≤ R) (T : Nd) (h : Hn) (hl : Lies w0 A0 (r + 1) T h)
    (ih : ∀ (X : Nd) (h : Hn) (d : Int) (w : World) (vn vd : Value) (L : List (It w0 R)), Lies w0 A0 r X h → Kp w0 w → FS w w0.heap.size vn vd L → L.length + sizeN r X ≤ 1099511627776 → Calls Try.prog 22 #[h.val, .int .i64 d, vn, vd] w (FlatP w0 R r X d w vn vd L))
    (d : Int) (w : World) (vn vd : Value) (L : List (It w0 R)) (hk : Kp w0 w) (hL : FS w w0.heap.size vn vd L) (hN : L.length + sizeN (r + 1) T ≤ 1099511627776) :
    Calls Try.prog 22 #[h.val, .int .i64 d, vn, vd] w (FlatP w0 R (r + 1) T d w vn vd L) := by
  obtain ⟨i0, hi, hz0, hz1, hz2⟩ := info_parts infoN
  obtain ⟨i4, hq, hq0, hq1, hq2⟩ := info_parts infoI
  obtain ⟨x0, hx0⟩ : ∃ x0 : It w0 R, x0.1 = (d, T, h) := ⟨⟨(d, T, h), lies_out (hl.mono hr), trivial⟩, rfl⟩
  have hxp : x0.pr = (d, T) := by unfold Item.pr; rw [hx0]
  have hxc : x0.1.2.2.cells = h.cells := by rw [hx0]
  have hxd : x0.1.1 = d := by rw [hx0]
  obtain ⟨K, t, hh⟩ := hl
  have hes := t.es
  have hbl := t.bl
  have HTL := Lib.hid t.tl
  have HH := Lib.hid hh
  have IH := Lib.hid ih
  have HES := Lib.hid hes
  have HK := Lib.hid hk
  have HRN := Lib.hid hL.rn
  have HRD := Lib.hid hL.rd
  have HLN := Lib.hid hL.ltn
  have HLD := Lib.hid hL.ltd
  have hap := Lib.hid (own_apart hL.rd hL.rn (by decide))
  have HXP := Lib.hid hxp
  have hsz0 := hk.sz
  have hNN : L.length + 1 ≤ 1099511627776 := by rw [sizeN] at hN; omega
  clear t hh ih hes hk hL hxp hx0
  obtain ⟨k, tx, nn, at_, la, ll, lc⟩ := h
  simp only at HTL hbl HES hxc
  have hbox : ∀ (wr : World), (∀ b, b < w.heap.size + 1 → (b = w.heap.size) → wr.heap[b]? = (w.alloc (.cells #[.int .i64 k, .string tx, .int .u64 nn, .int .i64 at_, .slice la ll lc] 25)).heap[b]?) → wr.cell? ⟨w.heap.size, 4, none⟩ = some (.slice la ll lc) := fun wr hb => by
    rw [cell_of_row _ w.heap.size 4 _ _ _ ((hb w.heap.size (by omega) rfl).trans (heap_alloc_new w _))]; rfl
  have HBOX := Lib.hid hbox
  clear hbox
  go_enter Try.func22, Try.ntmps22
  go_wp2_with (first | ((with_reducible show wpList _ _ _ (⟨some 14, _, _, _, _, _⟩ :: _) _ _); refine wpList_append_oneH (d := 14) _ _ 23 rfl w0.heap.size 25 i0 _ 5 64 Try.underlying23 hi hz0 hz1 hz2 rfl (by decide) vn L.length _ (by rfl) _ (own_keep HRN.out ((Kp.refl w).alloc _)) [.int .i64 k, .string tx, .int .u64 nn, .int .i64 at_, .slice la ll lc] _ _ _ (by rfl) (by first | rfl | simp) (by rfl) (by rfl) (by intro u hu; simp at hu; first | (rcases hu with rfl | rfl | rfl | rfl | rfl <;> rfl) | (subst hu; rfl)) (by unfold maxLen; omega) (by omega) (by first | omega | (simp; omega)) ?_; intro g1 c1 w2 o1 t1 n1; have s1 := t1.sz; rw [World.size_alloc] at s1) | ((with_reducible show wpList _ _ _ (⟨some 18, _, _, _, _, _⟩ :: _) _ _); refine wpList_append_oneH (d := 18) _ _ 36 rfl w0.heap.size 3 i4 _ 1 8 Try.underlying36 hq hq0 hq1 hq2 rfl (by decide) vd L.length _ (by rfl) _ (own_two (own_keep HRD.out ((Kp.refl w).alloc _)) t1 hap.out (by cases vd.ownBlock <;> simp)) [.int .i64 d] _ _ _ (by rfl) (by first | rfl | simp) (by rfl) (by rfl) (by intro u hu; simp at hu; first | (rcases hu with rfl | rfl | rfl | rfl | rfl <;> rfl) | (subst hu; rfl)) (by unfold maxLen; omega) (by omega) (by first | omega | (simp; omega)) ?_; intro g2 c2 w3 o2 t2 n2))
  have rd2 := own_two (own_keep HRD.out ((Kp.refl w).alloc (.cells #[.int .i64 k, .string tx, .int .u64 nn, .int .i64 at_, .slice la ll lc] 25))) t1 hap.out (by cases vd.ownBlock <;> simp)
  have rn3 := own_two o1 t2 (own_apart o1 rd2 (by decide)) (.inr (by simp [Value.ownBlock]))
  have FS3 : Hid (FS w3 w0.heap.size (.slice (some ⟨g1, 0, none⟩) (L.length + 1) c1) (.slice (some ⟨g2, 0, none⟩) (L.length + 1) c2) (L ++ [x0])) := Lib.hid ⟨by
      rw [List.flatMap_append, List.flatMap_singleton, hxc, List.length_append, List.length_singleton]; exact rn3, by
      rw [List.map_append, List.map_singleton, hxd, List.length_append, List.length_singleton]; exact o2⟩
  have T3 : Hid (Two (w.alloc (.cells #[.int .i64 k, .string tx, .int .u64 nn, .int .i64 at_, .slice la ll lc] 25)) w3 vn.ownBlock vd.ownBlock) := Lib.hid ((t1.weak _).trans (New.refl _ _) (New.refl _ _) (t2.weak' _))
  have N1 : Hid (New (w.alloc (.cells #[.int .i64 k, .string tx, .int .u64 nn, .int .i64 at_, .slice la ll lc] 25)) vn.ownBlock (Value.slice (some ⟨g1, 0, none⟩) (L.length + 1) c1).ownBlock) := Lib.hid n1
  have N2 : Hid (New (w.alloc (.cells #[.int .i64 k, .string tx, .int .u64 nn, .int .i64 at_, .slice la ll lc] 25)) vd.ownBlock (Value.slice (some ⟨g2, 0, none⟩) (L.length + 1) c2).ownBlock) := Lib.hid (n2.old t1.sz)
  have LN := Lib.hid (fun (g : Nat) (hg : vn.ownBlock = some g) => (HLN.out g hg))
  have KD : Hid (∀ (wr : World), Two (w.alloc (.cells #[.int .i64 k, .string tx, .int .u64 nn, .int .i64 at_, .slice la ll lc] 25)) wr vn.ownBlock vd.ownBlock → Kp w0 wr ∧ wr.cell? ⟨w.heap.size, 4, none⟩ = some (.slice la ll lc) ∧ wr.cell? ⟨w.heap.size, 4, none⟩ = some (.slice la ll lc)) := Lib.hid (fun wr ht => by
    have hb : wr.cell? ⟨w.heap.size, 4, none⟩ = some (.slice la ll lc) := HBOX.out wr (fun b _ hb => by
      subst hb
      exact ht.blk _ (by simp) (fun e => by have := (HLN.out _ e.symm).2; omega) (fun e => by have := (HLD.out _ e.symm).2; omega))
    exact ⟨Two.kp ht (HK.out.alloc _) (fun g e => (HLN.out g e).1) (fun g e => (HLD.out g e).1), hb, hb⟩)
  clear o1 o2 t1 t2 n1 n2 rd2 rn3 s1
  go_loopw [2, 3, 10] (fun vn' vd' i wr => ∃ (m : Nat) (ys : List (It w0 R)), m ≤ ll ∧ i = .int .i64 m ∧ Hid (ys.map Item.pr = (T.kids.take m).flatMap (flatN r (wrap64 (d + 1)))) ∧ Hid (FS wr w0.heap.size vn' vd' (L ++ x0 :: ys)) ∧
      Hid (Two (w.alloc (.cells #[.int .i64 k, .string tx, .int .u64 nn, .int .i64 at_, .slice la ll lc] 25)) wr vn.ownBlock vd.ownBlock) ∧
      Hid (New (w.alloc (.cells #[.int .i64 k, .string tx, .int .u64 nn, .int .i64 at_, .slice la ll lc] 25)) vn.ownBlock vn'.ownBlock) ∧
      Hid (New (w.alloc (.cells #[.int .i64 k, .string tx, .int .u64 nn, .int .i64 at_, .slice la ll lc] 25)) vd.ownBlock vd'.ownBlock)) (fun _ _ i _ => ll - (intOf i).toNat)
  case atStart => exact ⟨0, [], by omega, rfl, Lib.hid rfl, FS3, T3, N1, N2⟩
  case round =>
    obtain ⟨m, ys, hm, rfl, HYS, HFS, HT, HN1, HN2⟩ := hrel
    obtain ⟨hk0, b4, _⟩ := KD.out wr HT.out
    have HKW := Lib.hid hk0
    clear hk0
    by_cases hlt : m < ll
    · obtain ⟨b, o, ha, hra⟩ := HTL.out.at (by omega)
      have HA := Lib.hid ha
      have HR := Lib.hid (hra m hlt)
      obtain ⟨X, hX⟩ : ∃ X, T.kids[m]? = some X := ⟨_, List.getElem?_eq_getElem (by have := HES.out; omega)⟩
      have hlen : (L ++ x0 :: ys).length + sizeN r X ≤ 1099511627776 := by
        have h1 := congrArg List.length HYS.out
        rw [List.length_map] at h1
        have h2 : ((T.kids.take m).flatMap (flatN r (wrap64 (d + 1)))).length + (flatN r (wrap64 (d + 1)) X).length ≤ (T.kids.flatMap (flatN r (wrap64 (d + 1)))).length := flat_len_le hX
        have h3 : (flatN (r + 1) d T).length = sizeN (r + 1) T := flat_size _ _ _
        simp only [flatN, List.length_cons] at h3
        rw [flat_size r (wrap64 (d + 1)) X] at h2
        simp only [List.length_append, List.length_cons]
        omega
      have CI := Lib.hid (IH.out X (K m) (wrap64 (d + 1)) wr _ _ (L ++ x0 :: ys) (HH.out m X hX) HKW.out HFS.out hlen)
      have HX := Lib.hid hX
      clear ha hra hX hlen
      go_wp2_with (first | ((with_reducible show wpList _ _ _ (⟨some 30, _, _, _, _, _⟩ :: _) _ _); refine wpList_index_tab (d := 30) _ _ _ rfl 25 Try.underlying23 5 rfl _ _ _ _ o (by rfl) HA.out m (by rfl) hlt ?_) | ((with_reducible show wpList _ _ _ (⟨some 31, _, _, _, _, _⟩ :: _) _ _); refine wpList_load_nd (d := 31) _ _ rfl _ Try.underlying25 w0 _ _ b (o+m*5) (by rfl) rfl (by first | rfl | omega) (K m) HR.out HKW.out rfl ?_) | (go_at_call 22; (with_reducible refine CI.out.mono ?_); rintro e w4 ⟨vn2, vd2, ys2, rfl, h1, h2, h3, h4, h5, h6⟩))
      go_roundw
      case rel => exact ⟨m + 1, ys ++ ys2, by omega, by go_num, Lib.hid (by rw [List.map_append, HYS.out, h1, flat_next HX.out]), Lib.hid (by simpa using h2), Lib.hid (HT.out.trans HN1.out HN2.out h4), Lib.hid (HN1.out.trans HT.out.sz h5), Lib.hid (HN2.out.trans HT.out.sz h6)⟩
      case measure => simp [intOf]; omega
    · obtain rfl : ll = m := by omega
      go_wp2_with fail
      go_ret2
      have kb : Kp w (w.alloc (.cells #[.int .i64 k, .string tx, .int .u64 nn, .int .i64 at_, .slice la ll lc] 25)) := (Kp.refl w).alloc _
      refine ⟨_, _, x0 :: ys, rfl, ?_, HFS.out, HKW.out, (kb.two _ _).trans (New.refl _ _) (New.refl _ _) HT.out, HN1.out.old kb.sz, HN2.out.old kb.sz⟩
      have h1 := HYS.out
      rw [List.take_of_length_le (by have := HES.out; omega)] at h1
      rw [List.map_cons, HXP.out, h1]
      rfl
theorem c_Flat (w0 : World) (R : Nat) : ∀ (r : Nat) (T : Nd) (h : Hn) (d : Int) (w : World) (vn vd : Value) (L : List (It w0 R)), r ≤ R → Lies w0 A0 r T h → Kp w0 w → FS w w0.heap.size vn vd L → L.length + sizeN r T ≤ 1099511627776 → Calls Try.prog 22 #[h.val, .int .i64 d, vn, vd] w (FlatP w0 R r T d w vn vd L)
  | 0, _, _, _, _, _, _, _, _, hl, _, _, _ => hl.elim
  | r + 1, T, h, d, w, vn, vd, L, hr, hl, hk, hL, hN => flat_step w0 R r hr T h hl (fun X h d w vn vd L hl hk hL hN => c_Flat w0 R r X h d w vn vd L (by omega) hl hk hL hN) d w vn vd L hk hL hN
/-- Flat of a node by itself. -/
theorem c_Flat0 (R : Nat) (T : Nd) (h : Hn) (w : World) (hl : Lies w A0 R T h) (hN : sizeN R T ≤ 1099511627776) : Calls Try.prog 22 #[h.val, .int .i64 0, .slice none 0 0, .slice none 0 0] w fun e w' =>
    ∃ (vn vd : Value) (ys : List (It w R)), e = .returned (.tuple #[vn, vd]) ∧ ys.map Item.pr = flatN R 0 T ∧ FS w' w.heap.size vn vd ys ∧ Kp w w' :=
  (c_Flat w R R T h 0 w _ _ [] (Nat.le_refl _) hl (Kp.refl w) (FS.nil _ _ _ _) (by simpa using hN)).mono fun e w' ⟨vn, vd, ys, h1, h2, h3, h4, _⟩ => ⟨vn, vd, ys, h1, h2, by simpa using h3, h4⟩
end Go.Proofs.Ytgamenimbkafjaa
