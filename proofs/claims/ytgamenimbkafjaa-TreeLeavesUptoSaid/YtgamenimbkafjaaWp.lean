/- clone of package tree: its list is a new row that may be written. Condition: the node lies in memory. -/
import Derived.Test.YtgamenimbkafjaaWb
import Derived.Deep.RegionHeld3
import Derived.Deep.Upon
import Derived.Laws.MakeOwn
namespace Go.Proofs.Ytgamenimbkafjaa
open Go.RowKit
set_option linter.unusedVariables false
set_option linter.unusedSimpArgs false
/-- The list of a header lies in a row from B on, of which the first element may be written. -/
def Free (B : Nat) (w : World) (h : Hn) : Prop := 0 < h.ll → ∃ b, h.la = some ⟨b, 0, none⟩ ∧ B ≤ b ∧ w.there b 0 5
theorem Free.mono {A B : Nat} {w : World} {h : Hn} (f : Free B w h) (hb : A ≤ B) : Free A w h := fun h0 => let ⟨b, a, c, d⟩ := f h0; ⟨b, a, Nat.le_trans hb c, d⟩
/-- What clone answers. -/
def CloneQ (r : Nat) (T : Nd) (w : World) (e : Ending) (w' : World) : Prop := ∃ h' : Hn, e = .returned h'.val ∧ Lies w' (Since w.heap.size) r T h' ∧ Kp w w' ∧ Free w.heap.size w' h'
theorem there_set {w : World} {b o n : Nat} {p : Addr} {v : Value} (h : w.there b o n) (hp : p.spot = none) : (w.setCell p v).there b o n := by
  obtain ⟨pb, po, ps⟩ := p
  simp only at hp
  subst hp
  exact World.there_setCells h pb po [v]
set_option maxHeartbeats 3200000 in
set_option maxRecDepth 100000 in
theorem cloneQ_step (r : Nat) (T : Nd) (h : Hn) (K : Nat → Hn) (w : World) (t : Top w A0 T h K) (hh : ∀ i X, T.kids[i]? = some X → Lies w A0 r X (K i)) (h0 : 0 < h.ll)
    (cf : ∀ (T : Nd) (h : Hn) (w : World), Lies w A0 r T h → Calls Try.prog 36 #[h.val] w (CloneP r T w)) :
    Calls Try.prog 36 #[h.val] w (CloneQ (r + 1) T w) := by
  obtain ⟨i0, hi, hz0, hz1, hz2⟩ := info_parts infoN
  obtain ⟨b, o, ha, hr⟩ := t.tl.at h0
  have hes := t.es
  have hbl := t.bl
  have HT := Lib.hid t
  have HH := Lib.hid hh
  have CF := Lib.hid cf
  clear t hh cf
  obtain ⟨k, tx, nn, at_, la, ll, lc⟩ := h
  simp only at h0 ha hr hes hbl
  subst ha
  have HR := Lib.hid hr
  have hbw : b < w.heap.size := lt_of_cell (hr 0 h0 0 _ rfl)
  have HE := Lib.hid hes
  clear hr hes
  have g1 : (0 : Int) < ll := by omega
  have hmk : ∀ w, (Instr.makeSlice 23 (.int .i64 (ll : Int)) (.int .i64 (ll : Int))).run Try.prog w = .ok (.slice (some ⟨w.heap.size, 0, none⟩) ll ll) (w.alloc (.cells (madeCells #[.int .i64 0, .string ⟨#[]⟩, .int .u64 0, .int .i64 0, .slice none 0 0] (ll * 5)) 25)) := fun w => by
    have := run_make (P := Try.prog) w 23 25 i0 _ Try.underlying23 hi hz0 .i64 .i64 ll ll (by omega) (by omega) (by rw [hz2]; omega) (by omega)
    rw [hz1] at this
    simpa [Value.cells] using this
  go_enter Try.func36, Try.ntmps36
  go_wp2_with fail
  have W0K : Hid (Kp w ((w.alloc (.cells #[.int .i64 k, .string tx, .int .u64 nn, .int .i64 at_, .slice (some ⟨b, o, none⟩) ll lc] 25)).alloc (.cells #[.int .i64 0, .string ⟨#[]⟩, .int .u64 0, .int .i64 0, .slice none 0 0] 25))) := Lib.hid (((Kp.refl w).alloc _).alloc _)
  go_loopw [17] (fun i wr => ∃ n K', n ≤ ll ∧ i = .int .i64 (n : Nat) ∧ Hid (Cl wr (w.heap.size + 1 + 1) r ll n T.kids K') ∧
      Kp ((w.alloc (.cells #[.int .i64 k, .string tx, .int .u64 nn, .int .i64 at_, .slice (some ⟨b, o, none⟩) ll lc] 25)).alloc (.cells #[.int .i64 0, .string ⟨#[]⟩, .int .u64 0, .int .i64 0, .slice none 0 0] 25)) wr) (fun i _ => ll - (intOf i).toNat)
  case atStart => exact ⟨0, K, by omega, rfl, Lib.hid ⟨by have := made_there ((w.alloc (.cells #[.int .i64 k, .string tx, .int .u64 nn, .int .i64 at_, .slice (some ⟨b, o, none⟩) ll lc] 25)).alloc (.cells #[.int .i64 0, .string ⟨#[]⟩, .int .u64 0, .int .i64 0, .slice none 0 0] 25)) #[.int .i64 0, .string ⟨#[]⟩, .int .u64 0, .int .i64 0, .slice none 0 0] (ll * 5) 25 (by simp); simpa only [World.size_alloc] using this, by simp, fun i hi => absurd hi (by omega)⟩, (Kp.refl _).alloc _⟩
  case round =>
    obtain ⟨n, K', hn, rfl, HC, hkr⟩ := hrel
    have HKR := Lib.hid hkr
    have HKW := Lib.hid (W0K.out.trans hkr)
    by_cases hlt : n < ll
    · clear hkr
      obtain ⟨X, hX⟩ : ∃ X, T.kids[n]? = some X := ⟨_, List.getElem?_eq_getElem (by have := HE.out; omega)⟩
      have HX := Lib.hid hX
      have jj1 : (0 : Int) ≤ n := by omega
      have jj2 : (n : Int) < ll := by omega
      have LX := Lib.hid (((HH.out n X hX).keep HKW.out).keep ((Kp.refl wr).alloc (.cells #[.int .i64 (K n).k, .string (K n).tx, .int .u64 (K n).n, .int .i64 (K n).at_, .slice (K n).la (K n).ll (K n).lc] 25)))
      have CX := Lib.hid (CF.out X (K n) _ LX.out)
      clear hX
      go_wp2_with (first | ((with_reducible show wpList _ _ _ (⟨some 20, _, _, _, _, _⟩ :: _) _ _); refine wpList_index_tab (d := 20) _ _ _ rfl 25 Try.underlying23 5 rfl _ _ _ _ o (by rfl) rfl n (by rfl) hlt ?_) | ((with_reducible show wpList _ _ _ (⟨some 21, _, _, _, _, _⟩ :: _) _ _); refine wpList_load_nd (d := 21) _ _ rfl _ Try.underlying25 w _ _ b (o+n*5) (by rfl) rfl (by first | rfl | omega) (K n) (HR.out n hlt) HKW.out rfl ?_) | (go_at_call 36; (with_reducible refine CX.out.mono ?_); rintro e w4 ⟨h', rfl, hli, hk4⟩; have KQ := Lib.hid (((Kp.refl wr).alloc _).trans hk4); have HLI := Lib.hid (hli.weak (since_le (show wr.heap.size ≤ _ by simp))); have TH := Lib.hid (show w4.there (w.heap.size + 1 + 1) (n * 5) 5 from fun j hj => by have := (HC.out.keep KQ.out).th (n * 5 + j) (by omega); simpa using this); clear hli hk4) | ((with_reducible show wpList _ _ _ (⟨some 26, _, _, _, _, _⟩ :: _) _ _); refine wpList_index_tab (d := 26) _ _ _ rfl 25 Try.underlying23 5 rfl _ ll ll (w.heap.size + 1 + 1) 0 (by rfl) rfl n (by rfl) hlt ?_) | ((with_reducible show wpList _ _ _ (⟨none, .store _ (.tmp 26) (.tmp 25), _, _, _, _⟩ :: _) _ _); refine wpList_store_mid (by rfl) 25 _ _ (by rfl) (w.heap.size + 1 + 1) (0 + n * 5) h'.cells.toArray (by rfl) (by rfl) (by rw [Nat.zero_add]; exact TH.out) (by rfl) (all_oneCell_toArray h'.one) ?_))
      go_roundw
      case rel => exact ⟨n + 1, put K' n h', by omega, by go_num, Lib.hid (by exact HC.out.next KQ.out HX.out HLI.out hlt), setCells_kp (HKR.out.trans KQ.out) (by simp) _ _⟩
      case measure => simp [intOf]; omega
    · obtain rfl : ll = n := by omega
      have hbk := (hkr.blk (b := w.heap.size) (by simp; omega)).trans ((((Kp.refl _).alloc _).blk (b := w.heap.size) (by simp)).trans (heap_alloc_new w _))
      have hbz := (hkr.blk (b := w.heap.size + 1) (by simp)).trans (heap_at (by simp))
      have gf : ∀ j, wr.frozen? ⟨w.heap.size, j, none⟩ = false := fun j => frozen_of_row _ _ _ _ _ hbk
      have zf : ∀ j, wr.frozen? ⟨w.heap.size + 1, j, none⟩ = false := fun j => frozen_of_row _ _ _ _ _ hbz
      have u0 := row_cell hbk 0
      have u1 := row_cell hbk 1
      have u2 := row_cell hbk 2
      have u3 := row_cell hbk 3
      have u4 := row_cell hbk 4
      have z0 := row_cell hbz 0
      have z1 := row_cell hbz 1
      have z2 := row_cell hbz 2
      have z3 := row_cell hbz 3
      have z4 := row_cell hbz 4
      simp at u0 u1 u2 u3 u4 z0 z1 z2 z3 z4
      have zz : w.heap.size + 1 < wr.heap.size := by have := HC.out.lt; omega
      have zz0 : w.heap.size < wr.heap.size := by omega
      clear hbk hbz hkr
      go_wp2_with fail
      have K6 : Lies wr (Since (w.heap.size + 1 + 1)) (r + 1) T ⟨k, tx, nn, at_, some ⟨w.heap.size + 1 + 1, 0, none⟩, ll, ll⟩ :=
        ⟨K', { ek := HT.out.ek, et := HT.out.et, en := HT.out.en, ea := HT.out.ea, es := HT.out.es, rk := HT.out.rk, rn := HT.out.rn, ra := HT.out.ra, rt := HT.out.rt, bl := HT.out.bl, cp := Nat.le_refl _, tl := ⟨fun h => (by cases h), fun _ => ⟨w.heap.size + 1 + 1, 0, rfl, Nat.le_refl _, HC.out.lt, fun h => h.elim, fun i hi => by rw [Nat.zero_add]; exact (HC.out.kid i hi).1⟩⟩ },
          fun i X hX => ((HC.out.kid i (by have := (List.getElem?_eq_some_iff.1 hX).1; have := HE.out; omega)).2 X hX).weak (since_le (by omega))⟩
      refine bodyPost_ret (v := .agg #[.int .i64 k, .string tx, .int .u64 nn, .int .i64 at_, .slice (some ⟨w.heap.size + 1 + 1, 0, none⟩) ll ll]) (by simp [results, Try.results36, go_sem, z0, z1, z2, z3, z4, zz]) rfl ⟨⟨k, tx, nn, at_, some ⟨w.heap.size + 1 + 1, 0, none⟩, ll, ll⟩, rfl, ?_, ?_, ?_⟩
      · refine (K6.turn (N := fun k => k < w.heap.size + 1 + 1) ?_ (by simp) (fun b _ (hb : w.heap.size + 1 + 1 ≤ b) h => by omega)).weak (since_le (by omega))
        iterate 6 refine Fr.setCell ?_ (by simp) (by simp <;> omega) _
        exact Fr.refl _ _
      · iterate 6 refine Kp.setCell ?_ (by simp <;> omega) _
        exact HKW.out
      · refine fun _ => ⟨w.heap.size + 1 + 1, rfl, by omega, ?_⟩
        iterate 6 refine there_set ?_ rfl
        exact fun j hj => HC.out.th j (by omega)
set_option maxHeartbeats 3200000 in
set_option maxRecDepth 100000 in
theorem cloneQ_none (r : Nat) (T : Nd) (h : Hn) (K : Nat → Hn) (w : World) (t : Top w A0 T h K) (h0 : h.ll = 0) : Calls Try.prog 36 #[h.val] w (CloneQ (r + 1) T w) := by
  have HT := Lib.hid t
  clear t
  obtain ⟨k, tx, nn, at_, la, ll, lc⟩ := h
  simp only at h0
  subst h0
  have W0K : Hid (Kp w ((w.alloc (.cells #[.int .i64 k, .string tx, .int .u64 nn, .int .i64 at_, .slice la 0 lc] 25)).alloc (.cells #[.int .i64 0, .string ⟨#[]⟩, .int .u64 0, .int .i64 0, .slice none 0 0] 25))) := Lib.hid (((Kp.refl w).alloc _).alloc _)
  go_enter Try.func36, Try.ntmps36
  go_wp2_with fail
  go_loopw [17] (fun i wr => i = .int .i64 (0 : Nat) ∧ wr = ((w.alloc (.cells #[.int .i64 k, .string tx, .int .u64 nn, .int .i64 at_, .slice la 0 lc] 25)).alloc (.cells #[.int .i64 0, .string ⟨#[]⟩, .int .u64 0, .int .i64 0, .slice none 0 0] 25))) (fun i _ => 0)
  case atStart => exact ⟨rfl, rfl⟩
  case round =>
    obtain ⟨rfl, rfl⟩ := hrel
    go_wp2_with fail
    have K6 : Lies w (Since (w.heap.size + 1 + 1)) (r + 1) T ⟨k, tx, nn, at_, none, 0, 0⟩ :=
      ⟨K, { ek := HT.out.ek, et := HT.out.et, en := HT.out.en, ea := HT.out.ea, es := HT.out.es, rk := HT.out.rk, rn := HT.out.rn, ra := HT.out.ra, rt := HT.out.rt, bl := by simp, cp := Nat.le_refl _, tl := tab_nil _ _ _ _ _ },
        fun i X hX => absurd (List.getElem?_eq_some_iff.1 hX).1 (by have := HT.out.es; simp only at this; omega)⟩
    refine bodyPost_ret (v := .agg #[.int .i64 k, .string tx, .int .u64 nn, .int .i64 at_, .slice none 0 0]) (by simp [results, Try.results36, go_sem]) rfl ⟨⟨k, tx, nn, at_, none, 0, 0⟩, rfl, ?_, ?_, fun h => absurd h (by simp)⟩
    · refine (K6.keep ?_).weak (since_le (by omega))
      repeat (first | with_reducible exact Kp.refl _ | with_reducible refine Kp.alloc ?_ _ | with_reducible refine Kp.setCell ?_ (by simp) _)
    · repeat (first | with_reducible exact Kp.refl _ | with_reducible refine Kp.alloc ?_ _ | with_reducible refine Kp.setCell ?_ (by simp) _)
theorem c_cloneQ : ∀ (r : Nat) (T : Nd) (h : Hn) (w : World), Lies w A0 r T h → Calls Try.prog 36 #[h.val] w (CloneQ r T w)
  | 0, _, _, _, hl => hl.elim
  | r + 1, T, h, w, hl => by
    obtain ⟨K, t, hh⟩ := hl
    by_cases h0 : 0 < h.ll
    · exact cloneQ_step r T h K w t hh h0 (fun T h w hl => c_clone r T h w hl)
    · exact cloneQ_none r T h K w t (by omega)
end Go.Proofs.Ytgamenimbkafjaa
