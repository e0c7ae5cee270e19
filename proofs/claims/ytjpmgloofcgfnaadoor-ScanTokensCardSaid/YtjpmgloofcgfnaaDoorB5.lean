/- A line's end: endLine of the reader. Condition: the reader lies in a block of its own, its tokens behind it. -/
import Derived.Test.YtjpmgloofcgfnaaDoorB4
import Derived.Deep.RegionHeld3
namespace Go.Proofs.YtjpmgloofcgfnaaDoor
open Go.RowKit
set_option linter.unusedVariables false
set_option linter.unusedSimpArgs false

def semiT (pos : Int) : Tk := ⟨5, ⟨#[]⟩, 0, pos⟩
/-- The tokens behind a line's end; none: there may be no more. -/
noncomputable def endV (L : List Tk) (pos : Int) : Option (List Tk) :=
  match L.getLast? with
  | none => some L
  | some t => if endsB t = true then (if 16384 ≤ L.length then none else some (L ++ [semiT pos])) else some L
/-- Where the last token lies. -/
theorem RS.last {w : World} {rb : Nat} {s : ByteArray} {done : Int} {L0 : List Tk} {t : Tk} {v : Value} (h : RS w rb s done (L0 ++ [t]) v) : ∃ g c, v = .slice (some ⟨g, 0, none⟩) (L0.length + 1) c ∧ w.cell? ⟨g, L0.length * 4, none⟩ = some (.int .i64 t.k) ∧ w.cell? ⟨g, L0.length * 4 + 1, none⟩ = some (.string t.text) ∧ w.cell? ⟨g, L0.length * 4 + 2, none⟩ = some (.int .u64 t.n) ∧ w.cell? ⟨g, L0.length * 4 + 3, none⟩ = some (.int .i64 t.pos) := by
  rcases h.row.2 with ⟨_, hn⟩ | ⟨g, cap, cur, hv, hg0, hg, _, _, hsz, htk⟩
  · simp at hn
  · have hlen : ∀ L : List Tk, (tkCells L).length = L.length * 4 := fun L => by
      induction L with
      | nil => rfl
      | cons a L ih => simp only [tkCells, List.flatMap_cons, List.length_append, List.length_cons] at ih ⊢; simp only [List.length_cons, List.length_nil]; omega
    have hc : ∀ j u, t.cells[j]? = some u → w.cell? ⟨g, L0.length * 4 + j, none⟩ = some u := fun j u hu => by
      have hj : j < 4 := (List.getElem?_eq_some_iff.1 hu).1
      rw [cell_of_row w g _ cur _ _ hg]
      have e : (cur.toList.take ((L0 ++ [t]).length * 4))[L0.length * 4 + j]? = some u := by
        rw [htk, show tkCells (L0 ++ [t]) = tkCells L0 ++ t.cells by simp [tkCells], List.getElem?_append_right (by rw [hlen]; omega), hlen, show L0.length * 4 + j - L0.length * 4 = j by omega]
        exact hu
      rw [List.getElem?_take] at e
      split at e
      · simpa using e
      · cases e
    exact ⟨g, cap, by rw [hv, List.length_append]; rfl, hc 0 _ rfl, hc 1 _ rfl, hc 2 _ rfl, hc 3 _ rfl⟩
set_option maxHeartbeats 3200000 in
set_option maxRecDepth 100000 in
theorem end_nil (rb : Nat) (s : ByteArray) (done pos : Int) (v : Value) (w : World) (h : RS w rb s done [] v) :
    Calls Tryd.prog 24 #[.pointer (some ⟨rb, 0, none⟩), .int .i64 pos] w fun e w' => e = .returned (.int .i64 0) ∧ Kp w w' := by
  obtain ⟨ad, c, rfl⟩ := h.slice
  obtain ⟨c0, c1, c2, cf, hlt⟩ := h.cellsR
  simp only [List.length_nil] at c2
  clear h
  go_enter Tryd.func24, Tryd.ntmps24
  go_wp2_with fail
  go_quiet (fail)
  go_wp2_with fail
  go_ret
  exact ⟨rfl, (Kp.refl w).drewN _⟩
set_option maxHeartbeats 3200000 in
set_option maxRecDepth 100000 in
theorem end_some (rb : Nat) (s : ByteArray) (done pos : Int) (L0 : List Tk) (t : Tk) (v : Value) (w : World) (h : RS w rb s done (L0 ++ [t]) v) (hb : L0.length ≤ 1000000) (he : endsB t = false) :
    Calls Tryd.prog 24 #[.pointer (some ⟨rb, 0, none⟩), .int .i64 pos] w fun e w' => e = .returned (.int .i64 0) ∧ Kp w w' := by
  obtain ⟨g, c, rfl, d0, d1, d2, d3⟩ := h.last
  obtain ⟨c0, c1, c2, cf, hlt⟩ := h.cellsR
  have HE := Lib.hid he
  have hg : g < w.heap.size := lt_of_cell d0
  have HRS := Lib.hid h
  clear h he
  generalize hm : L0.length = m at *
  have i0 : ((m : Int) + 1 - 1) = m := by omega
  have i1 : (0 : Int) ≤ (m : Int) := by omega
  have i2 : (m : Int) < (m : Int) + 1 := by omega
  have i3 : (m : Int) ≤ 1000000 := by omega
  have i4 : (m : Int) < ((m + 1 : Nat) : Int) := by omega
  have i5 : IntKind.i64.wrap (m : Int) = m := by rw [IntKind.wrap_i64]; omega
  go_enter Tryd.func24, Tryd.ntmps24
  go_wp2_with fail
  go_region_held3 (fun w' => w'.cell? ⟨rb, 2, none⟩ = some (.slice (some ⟨g, 0, none⟩) (m + 1) c) ∧ w'.cell? ⟨g, m * 4, none⟩ = some (.int .i64 t.k) ∧ w'.cell? ⟨g, m * 4 + 1, none⟩ = some (.string t.text) ∧ w'.cell? ⟨g, m * 4 + 2, none⟩ = some (.int .u64 t.n) ∧ w'.cell? ⟨g, m * 4 + 3, none⟩ = some (.int .i64 t.pos))
    (first | exact ⟨c2, d0, d1, d2, d3⟩ | exact ⟨hk2.cellv c2, hk2.cellv d0, hk2.cellv d1, hk2.cellv d2, hk2.cellv d3⟩)
    ((first | (go_at_call 40; (with_reducible refine (c_ends t _).mono ?_); rintro e w2 ⟨rfl, hk2⟩; rw [HE.out])))
  go_wp2_with fail
  go_ret
  exact ⟨rfl, ((Kp.refl w).drew).trans hk2⟩
set_option maxHeartbeats 3200000 in
set_option maxRecDepth 100000 in
theorem end_room (rb : Nat) (s : ByteArray) (done pos : Int) (L0 : List Tk) (t : Tk) (v : Value) (w : World) (h : RS w rb s done (L0 ++ [t]) v) (hb : L0.length ≤ 1000000) (he : endsB t = true) (hL : (L0 ++ [t]).length < 16384) :
    Calls Tryd.prog 24 #[.pointer (some ⟨rb, 0, none⟩), .int .i64 pos] w fun e w' => e = .returned (.int .i64 0) ∧ ∃ v', RS w' rb s done ((L0 ++ [t]) ++ [semiT pos]) v' ∧ Gt rb w w' := by
  obtain ⟨g, c, rfl, d0, d1, d2, d3⟩ := h.last
  obtain ⟨c0, c1, c2, cf, hlt⟩ := h.cellsR
  have HE := Lib.hid he
  have HLL := Lib.hid hL
  clear hL
  have hg : g < w.heap.size := lt_of_cell d0
  have HRS := Lib.hid h
  clear h he
  generalize hm : L0.length = m at *
  have i0 : ((m : Int) + 1 - 1) = m := by omega
  have i1 : (0 : Int) ≤ (m : Int) := by omega
  have i2 : (m : Int) < (m : Int) + 1 := by omega
  have i3 : (m : Int) ≤ 1000000 := by omega
  have i4 : (m : Int) < ((m + 1 : Nat) : Int) := by omega
  have i5 : IntKind.i64.wrap (m : Int) = m := by rw [IntKind.wrap_i64]; omega
  go_enter Tryd.func24, Tryd.ntmps24
  go_wp2_with fail
  go_region_held3 (fun w' => w'.cell? ⟨rb, 2, none⟩ = some (.slice (some ⟨g, 0, none⟩) (m + 1) c) ∧ w'.cell? ⟨g, m * 4, none⟩ = some (.int .i64 t.k) ∧ w'.cell? ⟨g, m * 4 + 1, none⟩ = some (.string t.text) ∧ w'.cell? ⟨g, m * 4 + 2, none⟩ = some (.int .u64 t.n) ∧ w'.cell? ⟨g, m * 4 + 3, none⟩ = some (.int .i64 t.pos))
    (first | exact ⟨c2, d0, d1, d2, d3⟩ | exact ⟨hk2.cellv c2, hk2.cellv d0, hk2.cellv d1, hk2.cellv d2, hk2.cellv d3⟩)
    ((first | (go_at_call 40; (with_reducible refine (c_ends t _).mono ?_); rintro e w2 ⟨rfl, hk2⟩; rw [HE.out])))
  go_wp2_with (first | (go_at_call 39; (with_reducible refine (add_room rb s done (L0 ++ [t]) _ ⟨5, ⟨#[]⟩, 0, pos⟩ _ (HRS.out.keep (((Kp.refl w).drew).trans hk2)) HLL.out).mono ?_); rintro e w3 ⟨rfl, v3, hr3, hg3⟩))
  go_ret
  exact ⟨rfl, v3, hr3, (Kp.gt (((Kp.refl w).drew).trans hk2)).trans hg3⟩
set_option maxHeartbeats 3200000 in
set_option maxRecDepth 100000 in
theorem end_full (rb : Nat) (s : ByteArray) (done pos : Int) (L0 : List Tk) (t : Tk) (v : Value) (w : World) (h : RS w rb s done (L0 ++ [t]) v) (hb : L0.length ≤ 1000000) (he : endsB t = true) (hL : 16384 ≤ (L0 ++ [t]).length) :
    Calls Tryd.prog 24 #[.pointer (some ⟨rb, 0, none⟩), .int .i64 pos] w fun e w' => e = .returned (.int .i64 6) ∧ Kp w w' := by
  obtain ⟨g, c, rfl, d0, d1, d2, d3⟩ := h.last
  obtain ⟨c0, c1, c2, cf, hlt⟩ := h.cellsR
  have HE := Lib.hid he
  have HLL := Lib.hid hL
  have HL2 := Lib.hid (show (L0 ++ [t]).length ≤ 1000001 by simp; omega)
  clear hL
  have hg : g < w.heap.size := lt_of_cell d0
  have HRS := Lib.hid h
  clear h he
  generalize hm : L0.length = m at *
  have i0 : ((m : Int) + 1 - 1) = m := by omega
  have i1 : (0 : Int) ≤ (m : Int) := by omega
  have i2 : (m : Int) < (m : Int) + 1 := by omega
  have i3 : (m : Int) ≤ 1000000 := by omega
  have i4 : (m : Int) < ((m + 1 : Nat) : Int) := by omega
  have i5 : IntKind.i64.wrap (m : Int) = m := by rw [IntKind.wrap_i64]; omega
  go_enter Tryd.func24, Tryd.ntmps24
  go_wp2_with fail
  go_region_held3 (fun w' => w'.cell? ⟨rb, 2, none⟩ = some (.slice (some ⟨g, 0, none⟩) (m + 1) c) ∧ w'.cell? ⟨g, m * 4, none⟩ = some (.int .i64 t.k) ∧ w'.cell? ⟨g, m * 4 + 1, none⟩ = some (.string t.text) ∧ w'.cell? ⟨g, m * 4 + 2, none⟩ = some (.int .u64 t.n) ∧ w'.cell? ⟨g, m * 4 + 3, none⟩ = some (.int .i64 t.pos))
    (first | exact ⟨c2, d0, d1, d2, d3⟩ | exact ⟨hk2.cellv c2, hk2.cellv d0, hk2.cellv d1, hk2.cellv d2, hk2.cellv d3⟩)
    ((first | (go_at_call 40; (with_reducible refine (c_ends t _).mono ?_); rintro e w2 ⟨rfl, hk2⟩; rw [HE.out])))
  go_wp2_with (first | (go_at_call 39; (with_reducible refine (add_full rb s done (L0 ++ [t]) _ ⟨5, ⟨#[]⟩, 0, pos⟩ _ (HRS.out.keep (((Kp.refl w).drew).trans hk2)) HLL.out HL2.out).mono ?_); rintro e w3 ⟨rfl, hk3⟩))
  go_ret
  exact ⟨rfl, (((Kp.refl w).drew).trans hk2).trans hk3⟩
theorem c_endLine (rb : Nat) (s : ByteArray) (done pos : Int) (L : List Tk) (v : Value) (w : World) (h : RS w rb s done L v) (hb : L.length ≤ 1000000) :
    Calls Tryd.prog 24 #[.pointer (some ⟨rb, 0, none⟩), .int .i64 pos] w fun e w' => (∃ L', endV L pos = some L' ∧ e = .returned (.int .i64 0) ∧ ∃ v', RS w' rb s done L' v' ∧ Gt rb w w') ∨ (endV L pos = none ∧ e = .returned (.int .i64 6) ∧ Gt rb w w') := by
  rcases List.eq_nil_or_concat L with rfl | ⟨L0, t, rfl⟩
  · exact (end_nil rb s done pos v w h).mono fun e w' q => .inl ⟨[], rfl, q.1, v, h.keep q.2, q.2.gt⟩
  · simp only [List.concat_eq_append] at h hb ⊢
    have hb' : L0.length ≤ 1000000 := by simp at hb; omega
    have hlast : (L0 ++ [t]).getLast? = some t := by simp
    cases he : endsB t with
    | false => exact (end_some rb s done pos L0 t v w h hb' he).mono fun e w' q => .inl ⟨L0 ++ [t], by unfold endV; rw [hlast]; simp only [he]; rfl, q.1, v, h.keep q.2, q.2.gt⟩
    | true =>
      by_cases hL : 16384 ≤ (L0 ++ [t]).length
      · exact (end_full rb s done pos L0 t v w h hb' he hL).mono fun e w' q => .inr ⟨by unfold endV; rw [hlast]; simp only [he, if_pos hL]; rfl, q.1, q.2.gt⟩
      · exact (end_room rb s done pos L0 t v w h hb' he (by omega)).mono fun e w' q => .inl ⟨(L0 ++ [t]) ++ [semiT pos], by unfold endV; rw [hlast]; simp only [he, if_neg hL]; rfl, q.1, q.2⟩
end Go.Proofs.YtjpmgloofcgfnaaDoor
