/- clone of package tree: a node in new memory. Condition: the node lies in memory. -/
import Derived.Test.YtgamenimbkafjaaT1
import Derived.Deep.RegionHeld3
import Derived.Deep.Upon
import Derived.Laws.MakeOwn
namespace Go.Proofs.Ytgamenimbkafjaa
open Go.RowKit
set_option linter.unusedVariables false
set_option linter.unusedSimpArgs false

/-- Blocks from n on, of whatever shape. -/
def Since (n : Nat) : Sel := ⟨False, fun b => n ≤ b⟩
theorem since_le {a b : Nat} (h : a ≤ b) : (Since a).le (Since b) := ⟨fun h => h, fun x (hx : b ≤ x) => Nat.le_trans h hx⟩
/-- What clone answers. -/
def CloneP (r : Nat) (T : Nd) (w : World) (e : Ending) (w' : World) : Prop := ∃ h' : Hn, e = .returned h'.val ∧ Lies w' (Since w.heap.size) r T h' ∧ Kp w w'
/-- The row so far. -/
structure Cl (w : World) (g r ll n : Nat) (kids : List Nd) (K : Nat → Hn) : Prop where
  th : w.there g 0 (ll * 5)
  lt : g < w.heap.size
  kid : ∀ i, i < n → w.rangeAt g (i * 5) (K i).cells ∧ ∀ X, kids[i]? = some X → Lies w (Since (g + 1)) r X (K i)
theorem there_keep {w w' : World} {b o n : Nat} (h : w.there b o n) (hk : Kp w w') (hb : b < w.heap.size) : w'.there b o n := fun j hj => by
  obtain ⟨h1, h2⟩ := h j hj
  obtain ⟨v, hv⟩ := Option.isSome_iff_exists.1 h1
  exact ⟨by rw [hk.cellv hv]; rfl, (hk.frz (p := ⟨b, o + j, none⟩) hb).trans h2⟩
theorem Cl.keep {w w' : World} {g r ll n : Nat} {kids : List Nd} {K : Nat → Hn} (h : Cl w g r ll n kids K) (hk : Kp w w') : Cl w' g r ll n kids K :=
  ⟨there_keep h.th hk h.lt, Nat.lt_of_lt_of_le h.lt hk.sz, fun i hi => ⟨hk.range (h.kid i hi).1, fun X hX => ((h.kid i hi).2 X hX).keep hk⟩⟩
theorem setCells_kp {a w : World} (h : Kp a w) {g : Nat} (hg : a.heap.size ≤ g) (vs : List Value) : ∀ o, Kp a (w.setCells g o vs) := by
  induction vs generalizing w with
  | nil => intro o; exact h
  | cons v vs ih => intro o; rw [World.setCells]; exact ih (h.setCell (by exact hg) v) _
theorem setCells_sz (g : Nat) : ∀ (vs : List Value) (o : Nat) (w : World), (w.setCells g o vs).heap.size = w.heap.size
  | [], _, _ => rfl
  | v :: vs, o, w => by rw [World.setCells, setCells_sz g vs]; simp
theorem setCells_fr (w : World) (g o : Nat) (vs : List Value) : Fr (fun k => k = g) w (w.setCells g o vs) := fun k hk hn => World.heap_setCells_other w g o vs hk hn
theorem Cl.next {w w1 : World} {g r ll n : Nat} {kids : List Nd} {K : Nat → Hn} {X : Nd} {h' : Hn} (h : Cl w g r ll n kids K) (hk : Kp w w1) (hX : kids[n]? = some X) (hl : Lies w1 (Since w.heap.size) r X h') (hn : n < ll) :
    Cl (w1.setCells g (n * 5) h'.cells) g r ll (n + 1) kids (put K n h') := by
  have h1 := h.keep hk
  have ht : w1.there g (n * 5) h'.cells.length := fun j hj => by
    have hj5 : j < 5 := hj
    have := h1.th (n * 5 + j) (by omega)
    simpa using this
  have tn : ∀ {r : Nat} {X : Nd} {k : Hn}, Lies w1 (Since (g + 1)) r X k → Lies (w1.setCells g (n * 5) h'.cells) (Since (g + 1)) r X k := fun hl =>
    hl.turn (setCells_fr _ _ _ _) (Nat.le_of_eq (setCells_sz _ _ _ _).symm) (fun b _ (hb : g + 1 ≤ b) (e : b = g) => by omega)
  refine ⟨World.there_setCells h1.th _ _ _, by rw [setCells_sz]; exact h1.lt, fun i hi => ?_⟩
  by_cases e : i = n
  · subst e
    rw [put_same]
    refine ⟨World.rangeAt_setCells_same _ _ _ _ ht, fun Y hY => ?_⟩
    obtain rfl := Option.some.inj (hX.symm.trans hY)
    exact tn (hl.weak (since_le h.lt))
  · rw [put_other K h' e]
    have hi' : i < n := by omega
    refine ⟨World.rangeAt_setCells_apart (h1.kid i hi').1 _ _ _ (.inr (.inl ?_)), fun Y hY => tn ((h1.kid i hi').2 Y hY)⟩
    show i * 5 + 5 ≤ n * 5
    omega
theorem made_there (w : World) (z : Array Value) (n : Nat) (t : TypeId) (hz : 0 < z.size) : (w.alloc (.cells (madeCells z n) t)).there w.heap.size 0 n := fun j hj => by
  have hb := heap_alloc_new w (.cells (madeCells z n) t)
  refine ⟨?_, frozen_of_row _ _ _ _ _ hb⟩
  rw [cell_of_row _ _ _ _ _ _ hb]
  rw [Array.getElem?_eq_getElem (by rw [size_madeCells]; omega)]
  rfl
set_option maxHeartbeats 3200000 in
set_option maxRecDepth 100000 in
theorem clone_step (r : Nat) (T : Nd) (h : Hn) (K : Nat → Hn) (w : World) (t : Top w A0 T h K) (hh : ∀ i X, T.kids[i]? = some X → Lies w A0 r X (K i)) (h0 : 0 < h.ll)
    (cf : ∀ (T : Nd) (h : Hn) (w : World), Lies w A0 r T h → Calls Try.prog 36 #[h.val] w (CloneP r T w)) :
    Calls Try.prog 36 #[h.val] w (CloneP (r + 1) T w) := by
  obtain ⟨i0, hi, hz0, hz1, hz2⟩ := info_parts infoN
  obtain ⟨b, o, ha, hr⟩ := t.tl.at h0
  have hes := t.es
  have hbl := t.bl
  have HT := Lib.hid t
  have HH := Lib.hid hh
  have CF := Lib.hid cf
  clear t hh cf
  obtain ⟨k, tx, nn, at_, la, ll, lc⟩ := h
  simp only at h0 ha hr hes hbl
  subst ha
  have HR := Lib.hid hr
  have hbw : b < w.heap.size := lt_of_cell (hr 0 h0 0 _ rfl)
  have HE := Lib.hid hes
  clear hr hes
  have g1 : (0 : Int) < ll := by omega
  have hmk : ∀ w, (Instr.makeSlice 23 (.int .i64 (ll : Int)) (.int .i64 (ll : Int))).run Try.prog w = .ok (.slice (some ⟨w.heap.size, 0, none⟩) ll ll) (w.alloc (.cells (madeCells #[.int .i64 0, .string ⟨#[]⟩, .int .u64 0, .int .i64 0, .slice none 0 0] (ll * 5)) 25)) := fun w => by
    have := run_make (P := Try.prog) w 23 25 i0 _ Try.underlying23 hi hz0 .i64 .i64 ll ll (by omega) (by omega) (by rw [hz2]; omega) (by omega)
    rw [hz1] at this
    simpa [Value.cells] using this
  go_enter Try.func36, Try.ntmps36
  go_wp2_with fail
  have W0K : Hid (Kp w ((w.alloc (.cells #[.int .i64 k, .string tx, .int .u64 nn, .int .i64 at_, .slice (some ⟨b, o, none⟩) ll lc] 25)).alloc (.cells #[.int .i64 0, .string ⟨#[]⟩, .int .u64 0, .int .i64 0, .slice none 0 0] 25))) := Lib.hid (((Kp.refl w).alloc _).alloc _)
  go_loopw [17] (fun i wr => ∃ n K', n ≤ ll ∧ i = .int .i64 (n : Nat) ∧ Hid (Cl wr (w.heap.size + 1 + 1) r ll n T.kids K') ∧
      Kp ((w.alloc (.cells #[.int .i64 k, .string tx, .int .u64 nn, .int .i64 at_, .slice (some ⟨b, o, none⟩) ll lc] 25)).alloc (.cells #[.int .i64 0, .string ⟨#[]⟩, .int .u64 0, .int .i64 0, .slice none 0 0] 25)) wr) (fun i _ => ll - (intOf i).toNat)
  case atStart => exact ⟨0, K, by omega, rfl, Lib.hid ⟨by have := made_there ((w.alloc (.cells #[.int .i64 k, .string tx, .int .u64 nn, .int .i64 at_, .slice (some ⟨b, o, none⟩) ll lc] 25)).alloc (.cells #[.int .i64 0, .string ⟨#[]⟩, .int .u64 0, .int .i64 0, .slice none 0 0] 25)) #[.int .i64 0, .string ⟨#[]⟩, .int .u64 0, .int .i64 0, .slice none 0 0] (ll * 5) 25 (by simp); simpa only [World.size_alloc] using this, by simp, fun i hi => absurd hi (by omega)⟩, (Kp.refl _).alloc _⟩
  case round =>
    obtain ⟨n, K', hn, rfl, HC, hkr⟩ := hrel
    have HKR := Lib.hid hkr
    have HKW := Lib.hid (W0K.out.trans hkr)
    by_cases hlt : n < ll
    · clear hkr
      obtain ⟨X, hX⟩ : ∃ X, T.kids[n]? = some X := ⟨_, List.getElem?_eq_getElem (by have := HE.out; omega)⟩
      have HX := Lib.hid hX
      have jj1 : (0 : Int) ≤ n := by omega
      have jj2 : (n : Int) < ll := by omega
      have LX := Lib.hid (((HH.out n X hX).keep HKW.out).keep ((Kp.refl wr).alloc (.cells #[.int .i64 (K n).k, .string (K n).tx, .int .u64 (K n).n, .int .i64 (K n).at_, .slice (K n).la (K n).ll (K n).lc] 25)))
      have CX := Lib.hid (CF.out X (K n) _ LX.out)
      clear hX
      go_wp2_with (first | ((with_reducible show wpList _ _ _ (⟨some 20, _, _, _, _, _⟩ :: _) _ _); refine wpList_index_tab (d := 20) _ _ _ rfl 25 Try.underlying23 5 rfl _ _ _ _ o (by rfl) rfl n (by rfl) hlt ?_) | ((with_reducible show wpList _ _ _ (⟨some 21, _, _, _, _, _⟩ :: _) _ _); refine wpList_load_nd (d := 21) _ _ rfl _ Try.underlying25 w _ _ b (o+n*5) (by rfl) rfl (by first | rfl | omega) (K n) (HR.out n hlt) HKW.out rfl ?_) | (go_at_call 36; (with_reducible refine CX.out.mono ?_); rintro e w4 ⟨h', rfl, hli, hk4⟩; have KQ := Lib.hid (((Kp.refl wr).alloc _).trans hk4); have HLI := Lib.hid (hli.weak (since_le (show wr.heap.size ≤ _ by simp))); have TH := Lib.hid (show w4.there (w.heap.size + 1 + 1) (n * 5) 5 from fun j hj => by have := (HC.out.keep KQ.out).th (n * 5 + j) (by omega); simpa using this); clear hli hk4) | ((with_reducible show wpList _ _ _ (⟨some 26, _, _, _, _, _⟩ :: _) _ _); refine wpList_index_tab (d := 26) _ _ _ rfl 25 Try.underlying23 5 rfl _ ll ll (w.heap.size + 1 + 1) 0 (by rfl) rfl n (by rfl) hlt ?_) | ((with_reducible show wpList _ _ _ (⟨none, .store _ (.tmp 26) (.tmp 25), _, _, _, _⟩ :: _) _ _); refine wpList_store_mid (by rfl) 25 _ _ (by rfl) (w.heap.size + 1 + 1) (0 + n * 5) h'.cells.toArray (by rfl) (by rfl) (by rw [Nat.zero_add]; exact TH.out) (by rfl) (all_oneCell_toArray h'.one) ?_))
      go_roundw
      case rel => exact ⟨n + 1, put K' n h', by omega, by go_num, Lib.hid (by exact HC.out.next KQ.out HX.out HLI.out hlt), setCells_kp (HKR.out.trans KQ.out) (by simp) _ _⟩
      case measure => simp [intOf]; omega
    · obtain rfl : ll = n := by omega
      have hbk := (hkr.blk (b := w.heap.size) (by simp; omega)).trans ((((Kp.refl _).alloc _).blk (b := w.heap.size) (by simp)).trans (heap_alloc_new w _))
      have hbz := (hkr.blk (b := w.heap.size + 1) (by simp)).trans (heap_at (by simp))
      have gf : ∀ j, wr.frozen? ⟨w.heap.size, j, none⟩ = false := fun j => frozen_of_row _ _ _ _ _ hbk
      have zf : ∀ j, wr.frozen? ⟨w.heap.size + 1, j, none⟩ = false := fun j => frozen_of_row _ _ _ _ _ hbz
      have u0 := row_cell hbk 0
      have u1 := row_cell hbk 1
      have u2 := row_cell hbk 2
      have u3 := row_cell hbk 3
      have u4 := row_cell hbk 4
      have z0 := row_cell hbz 0
      have z1 := row_cell hbz 1
      have z2 := row_cell hbz 2
      have z3 := row_cell hbz 3
      have z4 := row_cell hbz 4
      simp at u0 u1 u2 u3 u4 z0 z1 z2 z3 z4
      have zz : w.heap.size + 1 < wr.heap.size := by have := HC.out.lt; omega
      have zz0 : w.heap.size < wr.heap.size := by omega
      clear hbk hbz hkr
      go_wp2_with fail
      have K6 : Lies wr (Since (w.heap.size + 1 + 1)) (r + 1) T ⟨k, tx, nn, at_, some ⟨w.heap.size + 1 + 1, 0, none⟩, ll, ll⟩ :=
        ⟨K', { ek := HT.out.ek, et := HT.out.et, en := HT.out.en, ea := HT.out.ea, es := HT.out.es, rk := HT.out.rk, rn := HT.out.rn, ra := HT.out.ra, rt := HT.out.rt, bl := HT.out.bl, cp := Nat.le_refl _, tl := ⟨fun h => (by cases h), fun _ => ⟨w.heap.size + 1 + 1, 0, rfl, Nat.le_refl _, HC.out.lt, fun h => h.elim, fun i hi => by rw [Nat.zero_add]; exact (HC.out.kid i hi).1⟩⟩ },
          fun i X hX => ((HC.out.kid i (by have := (List.getElem?_eq_some_iff.1 hX).1; have := HE.out; omega)).2 X hX).weak (since_le (by omega))⟩
      refine bodyPost_ret (v := .agg #[.int .i64 k, .string tx, .int .u64 nn, .int .i64 at_, .slice (some ⟨w.heap.size + 1 + 1, 0, none⟩) ll ll]) (by simp [results, Try.results36, go_sem, z0, z1, z2, z3, z4, zz]) rfl ⟨⟨k, tx, nn, at_, some ⟨w.heap.size + 1 + 1, 0, none⟩, ll, ll⟩, rfl, ?_, ?_⟩
      · refine (K6.turn (N := fun k => k < w.heap.size + 1 + 1) ?_ (by simp) (fun b _ (hb : w.heap.size + 1 + 1 ≤ b) h => by omega)).weak (since_le (by omega))
        iterate 6 refine Fr.setCell ?_ (by simp) (by simp <;> omega) _
        exact Fr.refl _ _
      · iterate 6 refine Kp.setCell ?_ (by simp <;> omega) _
        exact HKW.out
set_option maxHeartbeats 3200000 in
set_option maxRecDepth 100000 in
theorem clone_none (r : Nat) (T : Nd) (h : Hn) (K : Nat → Hn) (w : World) (t : Top w A0 T h K) (h0 : h.ll = 0) : Calls Try.prog 36 #[h.val] w (CloneP (r + 1) T w) := by
  have HT := Lib.hid t
  clear t
  obtain ⟨k, tx, nn, at_, la, ll, lc⟩ := h
  simp only at h0
  subst h0
  have W0K : Hid (Kp w ((w.alloc (.cells #[.int .i64 k, .string tx, .int .u64 nn, .int .i64 at_, .slice la 0 lc] 25)).alloc (.cells #[.int .i64 0, .string ⟨#[]⟩, .int .u64 0, .int .i64 0, .slice none 0 0] 25))) := Lib.hid (((Kp.refl w).alloc _).alloc _)
  go_enter Try.func36, Try.ntmps36
  go_wp2_with fail
  go_loopw [17] (fun i wr => i = .int .i64 (0 : Nat) ∧ wr = ((w.alloc (.cells #[.int .i64 k, .string tx, .int .u64 nn, .int .i64 at_, .slice la 0 lc] 25)).alloc (.cells #[.int .i64 0, .string ⟨#[]⟩, .int .u64 0, .int .i64 0, .slice none 0 0] 25))) (fun i _ => 0)
  case atStart => exact ⟨rfl, rfl⟩
  case round =>
    obtain ⟨rfl, rfl⟩ := hrel
    go_wp2_with fail
    have K6 : Lies w (Since (w.heap.size + 1 + 1)) (r + 1) T ⟨k, tx, nn, at_, none, 0, 0⟩ :=
      ⟨K, { ek := HT.out.ek, et := HT.out.et, en := HT.out.en, ea := HT.out.ea, es := HT.out.es, rk := HT.out.rk, rn := HT.out.rn, ra := HT.out.ra, rt := HT.out.rt, bl := by simp, cp := Nat.le_refl _, tl := tab_nil _ _ _ _ _ },
        fun i X hX => absurd (List.getElem?_eq_some_iff.1 hX).1 (by have := HT.out.es; simp only at this; omega)⟩
    refine bodyPost_ret (v := .agg #[.int .i64 k, .string tx, .int .u64 nn, .int .i64 at_, .slice none 0 0]) (by simp [results, Try.results36, go_sem]) rfl ⟨⟨k, tx, nn, at_, none, 0, 0⟩, rfl, ?_, ?_⟩
    · refine (K6.keep ?_).weak (since_le (by omega))
      repeat (first | with_reducible exact Kp.refl _ | with_reducible refine Kp.alloc ?_ _ | with_reducible refine Kp.setCell ?_ (by simp) _)
    · repeat (first | with_reducible exact Kp.refl _ | with_reducible refine Kp.alloc ?_ _ | with_reducible refine Kp.setCell ?_ (by simp) _)
theorem c_clone : ∀ (r : Nat) (T : Nd) (h : Hn) (w : World), Lies w A0 r T h → Calls Try.prog 36 #[h.val] w (CloneP r T w)
  | 0, _, _, _, hl => hl.elim
  | r + 1, T, h, w, hl => by
    obtain ⟨K, t, hh⟩ := hl
    by_cases h0 : 0 < h.ll
    · exact clone_step r T h K w t hh h0 (fun T h w hl => c_clone r T h w hl)
    · exact clone_none r T h K w t (by omega)
end Go.Proofs.Ytgamenimbkafjaa
