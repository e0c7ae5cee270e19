/- A token more: add of the reader. Condition: the reader lies in a block of its own, its tokens behind it. -/
import Derived.Test.YtjpmgloofcgfnaaDoorB3
import Derived.Deep.AppendLies
import Derived.Deep.RegionLaw
import Derived.Lib.BufferMore
import Derived.Deep.QuietTactic
import Derived.BigQuiet
namespace Go.Proofs.YtjpmgloofcgfnaaDoor
open Go.RowKit
set_option linter.unusedVariables false
set_option linter.unusedSimpArgs false

/-- Block k holds tokens. -/
def isTk (w : World) (k : Nat) : Prop := ∃ cs fr, w.heap[k]? = some (.cells cs 33 fr)
/-- But for the reader's block, and tokens' blocks behind it, nothing has turned. -/
structure Gt (rb : Nat) (w w' : World) : Prop where
  os : w'.os = w.os
  tape : w'.tape = w.tape
  output : w'.output = w.output
  sz : w.heap.size ≤ w'.heap.size
  blk : ∀ k, k < w.heap.size → k ≠ rb → (k < rb ∨ ¬ isTk w k) → w'.heap[k]? = w.heap[k]?
theorem Gt.refl (rb : Nat) (w : World) : Gt rb w w := ⟨rfl, rfl, rfl, Nat.le_refl _, fun _ _ _ _ => rfl⟩
theorem Gt.trans {rb : Nat} {u v w : World} (h : Gt rb u v) (k : Gt rb v w) : Gt rb u w :=
  ⟨k.os.trans h.os, k.tape.trans h.tape, k.output.trans h.output, Nat.le_trans h.sz k.sz, fun i hi hb hc => by
    have e := h.blk i hi hb hc
    refine (k.blk i (Nat.lt_of_lt_of_le hi h.sz) hb (hc.imp id (fun hn => ?_))).trans e
    intro ⟨cs, fr, x⟩
    exact hn ⟨cs, fr, e ▸ x⟩⟩
theorem Kp.gt {rb : Nat} {w w' : World} (h : Kp w w') : Gt rb w w' := ⟨h.os, h.tape, h.output, h.sz, fun k hk _ _ => h.blk hk⟩
theorem Gt.kp {rb : Nat} {w0 w w' : World} (h : Gt rb w w') (k : Kp w0 w) (hb : w0.heap.size ≤ rb) : Kp w0 w' :=
  ⟨h.os.trans k.os, h.tape.trans k.tape, h.output.trans k.output, Nat.le_trans k.sz h.sz, fun i hi => (h.blk i (Nat.lt_of_lt_of_le hi k.sz) (by omega) (.inl (by omega))).trans (k.blk hi)⟩
theorem Gt.setR {rb : Nat} (w : World) {p : Addr} (hp : p.block = rb) (v : Value) : Gt rb w (w.setCell p v) :=
  ⟨rfl, rfl, rfl, by rw [World.size_setCell]; exact Nat.le_refl _, fun i hi hb _ => Below.heap_setCell _ _ _ _ (by rw [hp]; exact hb)⟩
def tkCells (L : List Tk) : List Value := L.flatMap Tk.cells
/-- The reader: its text, what is done of it, its tokens. -/
structure RS (w : World) (rb : Nat) (s : ByteArray) (done : Int) (L : List Tk) (v : Value) : Prop where
  blk : w.heap[rb]? = some (.cells #[.string s, .int .i64 done, v] 44 (0, 0))
  row : w.ownsRow (rb + 1) 33 4 v L.length (tkCells L)
theorem own_keep {w w' : World} {B : Nat} {e : TypeId} {m n : Nat} {v : Value} {xs : List Value} (h : w.ownsRow B e m v n xs) (hk : Kp w w') : w'.ownsRow B e m v n xs := by
  refine ⟨h.1, ?_⟩
  rcases h.2 with hv | ⟨g, cap, cur, hv, hg0, hg, rest⟩
  · exact .inl hv
  · exact .inr ⟨g, cap, cur, hv, hg0, (hk.blk (Array.getElem?_eq_some_iff.1 hg).1).trans hg, rest⟩
theorem RS.keep {w w' : World} {rb : Nat} {s : ByteArray} {done : Int} {L : List Tk} {v : Value} (h : RS w rb s done L v) (hk : Kp w w') : RS w' rb s done L v :=
  ⟨(hk.blk (Array.getElem?_eq_some_iff.1 h.blk).1).trans h.blk, own_keep h.row hk⟩
theorem RS.cellsR {w : World} {rb : Nat} {s : ByteArray} {done : Int} {L : List Tk} {v : Value} (h : RS w rb s done L v) : w.cell? ⟨rb, 0, none⟩ = some (.string s) ∧ w.cell? ⟨rb, 1, none⟩ = some (.int .i64 done) ∧ w.cell? ⟨rb, 2, none⟩ = some v ∧ (∀ j, w.frozen? ⟨rb, j, none⟩ = false) ∧ rb < w.heap.size :=
  ⟨by rw [cell_of_row _ rb 0 _ _ _ h.blk]; rfl, by rw [cell_of_row _ rb 1 _ _ _ h.blk]; rfl, by rw [cell_of_row _ rb 2 _ _ _ h.blk]; rfl, fun j => frozen_of_row _ _ _ _ _ h.blk, (Array.getElem?_eq_some_iff.1 h.blk).1⟩
theorem RS.slice {w : World} {rb : Nat} {s : ByteArray} {done : Int} {L : List Tk} {v : Value} (h : RS w rb s done L v) : ∃ ad c, v = .slice ad L.length c := by
  rcases h.row.2 with ⟨hv, hn⟩ | ⟨g, cap, cur, hv, _⟩
  · exact ⟨none, 0, by rw [hv, hn]⟩
  · exact ⟨_, cap, hv⟩
theorem infoTk : (Tryd.prog.info? 33).map (fun i => (i.zero, i.size, i.bytes)) = some (some (.agg #[.int .i64 0, .string ⟨#[]⟩, .int .u64 0, .int .i64 0]), 4, 40) := by kernel_rfl
set_option maxHeartbeats 3200000 in
set_option maxRecDepth 100000 in
theorem add_full (rb : Nat) (s : ByteArray) (done : Int) (L : List Tk) (v : Value) (t : Tk) (w : World) (h : RS w rb s done L v) (hL : 16384 ≤ L.length) (hb : L.length ≤ 1000001) :
    Calls Tryd.prog 39 #[.pointer (some ⟨rb, 0, none⟩), t.val] w fun e w' => e = .returned (.int .i64 6) ∧ Kp w w' := by
  obtain ⟨ad, c, rfl⟩ := h.slice
  obtain ⟨c0, c1, c2, _, hlt⟩ := h.cellsR
  have i1 : (16384 : Int) ≤ L.length := by omega
  clear h
  go_enter Tryd.func39, Tryd.ntmps39
  go_wp2_with fail
  go_ret
  exact ⟨rfl, (Kp.refl w).alloc _⟩
theorem Gt.grown {rb : Nat} {w w' : World} {v : Value} {n : Nat} {xs : List Value} (h : w.ownsRow (rb + 1) 33 4 v n xs) (hg : w.grownBy w' v.ownBlock) : Gt rb w w' :=
  ⟨hg.os, hg.tape, hg.output, hg.size, fun k hk hb hc => by
    refine hg.block k hk (fun e => ?_)
    rcases h.2 with ⟨hv, _⟩ | ⟨g, cap, cur, hv, hg0, hgg, _⟩
    · rw [hv] at e; cases e
    · rw [hv] at e
      obtain rfl : k = g := Option.some.inj e
      rcases hc with hc | hc
      · omega
      · exact hc ⟨_, _, hgg⟩⟩
theorem own_fr {N : Nat → Prop} {w w' : World} {B : Nat} {e : TypeId} {m n : Nat} {v : Value} {xs : List Value} (h : w.ownsRow B e m v n xs) (hk : Fr N w w') (hN : ∀ k, N k → k < B) : w'.ownsRow B e m v n xs := by
  refine ⟨h.1, ?_⟩
  rcases h.2 with hv | ⟨g, cap, cur, hv, hg0, hg, rest⟩
  · exact .inl hv
  · exact .inr ⟨g, cap, cur, hv, hg0, (hk g (Array.getElem?_eq_some_iff.1 hg).1 (fun x => by have := hN g x; omega)).trans hg, rest⟩
theorem heap_at {w : World} {o : Obj} {n : Nat} (h : n = w.heap.size) : (w.alloc o).heap[n]? = some o := by subst h; exact heap_alloc_new w o
theorem fr_set (w : World) (a : Addr) (v : Value) : Fr (fun k => k = a.block) w (w.setCell a v) := fun k hk hn => Below.heap_setCell _ _ _ _ hn
theorem RS.box {w W w3 : World} {rb : Nat} {s : ByteArray} {done : Int} {L : List Tk} {v : Value} (h : RS w rb s done L v) (hk : Kp w W) (hg : W.grownBy w3 v.ownBlock) : w3.heap[rb]? = some (.cells #[.string s, .int .i64 done, v] 44 (0, 0)) := by
  have hlt := h.cellsR.2.2.2.2
  refine (hg.block rb (by have := hk.sz; omega) (fun e => ?_)).trans ((hk.blk hlt).trans h.blk)
  have := (h.row.lt rb e.symm).1
  omega
theorem own_push {w3 : World} {rb : Nat} {L : List Tk} {t : Tk} {v' : Value} (h : w3.ownsRow (rb + 1) 33 4 v' (L.length + 1) (tkCells L ++ t.cells)) (u : Value) : (w3.setCell ⟨rb, 2, none⟩ u).ownsRow (rb + 1) 33 4 v' (L ++ [t]).length (tkCells (L ++ [t])) := by
  have h1 := own_fr h (fr_set w3 ⟨rb, 2, none⟩ u) (fun k (hk : k = rb) => by omega)
  have e1 : tkCells (L ++ [t]) = tkCells L ++ t.cells := by simp [tkCells]
  rw [e1, List.length_append]
  exact h1
set_option maxHeartbeats 6400000 in
set_option maxRecDepth 100000 in
theorem add_room (rb : Nat) (s : ByteArray) (done : Int) (L : List Tk) (v : Value) (t : Tk) (w : World) (h : RS w rb s done L v) (hL : L.length < 16384) :
    Calls Tryd.prog 39 #[.pointer (some ⟨rb, 0, none⟩), t.val] w fun e w' => e = .returned (.int .i64 0) ∧ ∃ v', RS w' rb s done (L ++ [t]) v' ∧ Gt rb w w' := by
  obtain ⟨i0, hi, hz0, hz1, hz2⟩ := info_parts infoTk
  obtain ⟨ad, c, rfl⟩ := h.slice
  obtain ⟨c0, c1, c2, cf, hlt⟩ := h.cellsR
  have i1 : (L.length : Int) < 16384 := by omega
  have HR := Lib.hid h
  have HNW := Lib.hid (fun o1 o2 => show ((w.alloc o1).alloc o2).drew.heap[w.heap.size + 1]? = some o2 from heap_at (by simp))
  clear h
  go_enter Tryd.func39, Tryd.ntmps39
  go_wp2_with fail
  go_region_law (refine step_append_lies _ (by rfl) _ _ _ (by rfl) (rb + 1) 33 i0 _ 4 40 Tryd.underlying22 hi hz0 hz1 hz2 rfl (by omega) (.slice ad L.length c) L.length _ (by rfl) (own_keep HR.out.row (((Kp.refl w).alloc _).alloc _).drew) ⟨w.heap.size + 1, 0, none⟩ 1 1 t.cells (by rfl) (by rfl) (World.news_of_block (cs := t.cells.toArray) (t := 33) (fr := (0, 0)) (HNW.out _ _)) (by intro u hu; simp at hu; rcases hu with rfl | rfl | rfl | rfl <;> rfl) (by omega) (by unfold maxLen; omega) (by omega) (by simp; omega) (w.heap.size + 1 + 1) (by simp) ?_; intro gg cap w3 hown3 hgrow hat hlt3; have hb3 := HR.out.box ((((Kp.refl w).alloc _).alloc _).drew) hgrow; have k3 : w3.cell? ⟨rb, 2, none⟩ = some (.slice ad L.length c) := (by rw [cell_of_row _ rb 2 _ _ _ hb3]; rfl); have kf : w3.frozen? ⟨rb, 2, none⟩ = false := frozen_of_row _ _ _ _ _ hb3; have HB3 := Lib.hid hb3; have HO3 := Lib.hid hown3; have HG3 := Lib.hid hgrow; clear hb3 hown3 hgrow hat)
  all_goals go_wp2_with fail
  all_goals go_ret
  all_goals exact ⟨rfl, .slice (some ⟨gg, 0, none⟩) (L.length + 1) cap, ⟨Lib.heap_setCell_same (i := 2) HB3.out _, own_push HO3.out _⟩, ((Kp.gt ((((Kp.refl w).alloc _).alloc _).drew)).trans (Gt.grown (own_keep HR.out.row ((((Kp.refl w).alloc _).alloc _).drew)) HG3.out)).trans (Gt.setR w3 (p := ⟨rb, 2, none⟩) rfl _)⟩
end Go.Proofs.YtjpmgloofcgfnaaDoor
