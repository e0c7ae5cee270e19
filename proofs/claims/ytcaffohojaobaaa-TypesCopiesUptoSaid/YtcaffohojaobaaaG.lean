/- The builder of a text: what is written stands behind what it held, and no block is touched but its own, its bytes' and new ones. Condition: the text stays below 2 to the 47 bytes. -/
import Derived.Test.YtcaffohojaobaaaChecked
import Derived.Test.YtcaffohojaobaaaT0
import Derived.Lib.Builder
import Derived.Lib.AppendStr
import Derived.Lib.UnsafeStr
import Derived.Laws.Externs
import Derived.Handy
import Derived.Lib.Hide
import Derived.WalkLawsBesides
namespace Go.Proofs.Ytcaffohojaobaaa
open Go.RowKit
set_option linter.unusedVariables false
set_option linter.unusedSimpArgs false

/-- Block k holds bytes. -/
def isB (w : World) (k : Nat) : Prop := ∃ cs fr, w.heap[k]? = some (.cells cs 5 fr)
/-- But for block b and the bytes' blocks behind it nothing has turned. -/
structure Wr (b : Nat) (w w' : World) : Prop where
  os : w'.os = w.os
  tape : w'.tape = w.tape
  output : w'.output = w.output
  sz : w.heap.size ≤ w'.heap.size
  blk : ∀ k, k < w.heap.size → k ≠ b → (k < b ∨ ¬ isB w k) → w'.heap[k]? = w.heap[k]?
theorem Wr.refl (b : Nat) (w : World) : Wr b w w := ⟨rfl, rfl, rfl, Nat.le_refl _, fun _ _ _ _ => rfl⟩
theorem Wr.trans {b : Nat} {u v w : World} (h : Wr b u v) (k : Wr b v w) : Wr b u w :=
  ⟨k.os.trans h.os, k.tape.trans h.tape, k.output.trans h.output, Nat.le_trans h.sz k.sz, fun i hi hb hc => by
    have e := h.blk i hi hb hc
    refine (k.blk i (Nat.lt_of_lt_of_le hi h.sz) hb (hc.imp id (fun hn => ?_))).trans e
    intro ⟨cs, fr, x⟩
    exact hn ⟨cs, fr, e ▸ x⟩⟩
theorem Kp.wr {b : Nat} {w w' : World} (h : Kp w w') : Wr b w w' := ⟨h.os, h.tape, h.output, h.sz, fun k hk _ _ => h.blk hk⟩
theorem Wr.old {b : Nat} {w w' : World} (h : Wr b w w') {n : Nat} (hn : n ≤ b) (hb : n ≤ w.heap.size) : Below n w w' :=
  ⟨h.os, h.tape, h.output, h.sz, fun k hk => h.blk k (by omega) (by omega) (.inl (by omega))⟩
theorem Wr.cellv {b : Nat} {w w' : World} (h : Wr b w w') {p : Addr} {v : Value} (hc : w.cell? p = some v) (hb : p.block ≠ b) (hn : p.block < b ∨ ¬ isB w p.block) : w'.cell? p = some v := by
  rw [← hc]; exact World.cell?_of_block (h.blk _ (lt_of_cell hc) hb hn)

theorem Fr.one (w : World) (a : Addr) (v : Value) : Fr (fun k => k = a.block) w (w.setCell a v) := fun k hk hn => Below.heap_setCell _ _ _ _ hn
/-- The builder at block b holds the bytes l. -/
def Bd (w : World) (b : Nat) (l : List UInt8) : Prop := Lib.IsBuilder 68 5 b b (Lib.byteCells l) w
theorem Bd.lt {w : World} {b : Nat} {l : List UInt8} (h : Bd w b l) : b < w.heap.size := by
  rcases h with h | h <;> exact h.lt
/-- New blocks, and other blocks written. -/
theorem Bd.fr {w w' : World} {b : Nat} {l : List UInt8} {N : Nat → Prop} (h : Bd w b l) (hk : Fr N w w') (hb : ¬ N b) (hN : ∀ k, isB w k → ¬ N k) : Bd w' b l := by
  have hlt := h.lt
  have one : ∀ {p : Value}, Lib.BuilderAt 68 5 b b p (Lib.byteCells l) w → Lib.BuilderAt 68 5 b b p (Lib.byteCells l) w' := by
    intro p ⟨hB, v, hbk, hown, hne⟩
    refine ⟨hB, v, (hk b hlt hb).trans hbk, ⟨hown.1, ?_⟩, hne⟩
    rcases hown.2 with hv | ⟨g, cap, cur, hv, hg0, hg, rest⟩
    · exact .inl hv
    · exact .inr ⟨g, cap, cur, hv, hg0, (hk g (Array.getElem?_eq_some_iff.1 hg).1 (hN g ⟨_, _, hg⟩)).trans hg, rest⟩
  exact h.imp one one
theorem Bd.keep {w w' : World} {b : Nat} {l : List UInt8} (h : Bd w b l) (hk : Kp w w') : Bd w' b l := h.fr hk.fr (fun x => x) (fun _ _ x => x)
theorem info68 : (Try.prog.info? 68).map (·.size) = some 2 := by kernel_rfl
theorem info5 : (Try.prog.info? 5).map (fun i => (i.zero, i.size, i.bytes)) = some (some (.int .u8 0), 1, 1) := by kernel_rfl
theorem lies68 : liesAt Try.prog Try.prog.depth 68 (2 / Try.prog.cellsOf 68) 0 68 1 = true := by kernel_rfl
set_option maxHeartbeats 1000000 in
set_option maxRecDepth 100000 in
theorem check_used (b : Nat) (w : World) (h0 : w.cell? ⟨b, 0, none⟩ = some (.pointer (some ⟨b, 0, none⟩))) :
    Calls Try.prog 56 #[.pointer (some ⟨b, 0, none⟩)] w fun e w' => e = .returned (.tuple #[]) ∧ w = w' := by
  obtain ⟨j, hj, _⟩ := Option.map_eq_some_iff.1 info68
  go_enter Try.func56, Try.ntmps56
  go_wp2_with fail
  rw [Lib.run_neq_ptr_same w _ Try.underlying65 hj]
  go_wp2_with fail
  go_end0
  exact ⟨rfl, rfl⟩
set_option maxHeartbeats 1000000 in
set_option maxRecDepth 100000 in
theorem check_fresh (b : Nat) (w : World) (h0 : w.cell? ⟨b, 0, none⟩ = some (.pointer none)) (hsh : w.shape? b = some (68, 2)) (hfz : w.frozen? ⟨b, 0, none⟩ = false) :
    Calls Try.prog 56 #[.pointer (some ⟨b, 0, none⟩)] w fun e w' => e = .returned (.tuple #[]) ∧ w.setCell ⟨b, 0, none⟩ (.pointer (some ⟨b, 0, none⟩)) = w' := by
  obtain ⟨j, hj, hjs⟩ := Option.map_eq_some_iff.1 info68
  go_enter Try.func56, Try.ntmps56
  go_wp2_with fail
  rw [Lib.run_to_unsafe w ⟨b, 0, none⟩ Try.underlying65 Try.underlying93 hj (by rw [hjs]; decide) hsh (Nat.zero_lt_succ 1)]
  simp only [Result.andThen]
  rw [Oper.upon_value]
  go_wp2_with fail
  rw [run_callFunc_extern Try.func63 (by kernel_rfl) (by kernel_rfl) (by kernel_rfl) (e := Extern.AbiNoEscape.same) (by kernel_rfl)]
  rw [Lib.run_noEscape]
  simp only [Result.andThen]
  rw [Oper.upon_value]
  go_wp2_with fail
  rw [Lib.run_from_unsafe w ⟨b, 0, none⟩ Try.underlying93 Try.underlying65 hj hsh lies68]
  simp only [Result.andThen]
  rw [Oper.upon_value]
  go_wp2_with fail
  go_end0
  exact ⟨rfl, rfl⟩
/-- After the first question the builder holds its own address. -/
theorem c_check (b : Nat) (l : List UInt8) (w : World) (h : Bd w b l) :
    Calls Try.prog 56 #[.pointer (some ⟨b, 0, none⟩)] w fun e w' => e = .returned (.tuple #[]) ∧ Lib.BuilderAt 68 5 b b (.pointer (some ⟨b, 0, none⟩)) (Lib.byteCells l) w' ∧ Fr (fun k => k = b) w w' ∧ w'.heap.size = w.heap.size ∧ w'.os = w.os ∧ w'.tape = w.tape ∧ w'.output = w.output := by
  rcases h with h | h
  · have hsh := h.shape
    obtain ⟨hB, v, hbk, hown, hne⟩ := h
    refine (check_fresh b w (by rw [cell_of_row _ _ _ _ _ _ hbk]; rfl) hsh (frozen_of_row _ _ _ _ _ hbk)).mono fun e w' ⟨he, hw⟩ => ?_
    subst hw
    refine ⟨he, ⟨hB, v, heap_setCell_same w b 0 _ _ _ hbk, ?_, hne⟩, Fr.one w ⟨b, 0, none⟩ _, by simp, rfl, rfl, rfl⟩
    refine ⟨hown.1, ?_⟩
    rcases hown.2 with hv | ⟨g, cap, cur, rfl, hg0, hg, rest⟩
    · exact .inl hv
    · exact .inr ⟨g, cap, cur, rfl, hg0, (heap_setCell_other w _ g _ (fun e => hne (by rw [e]; rfl))).trans hg, rest⟩
  · refine (check_used b w h.cell0).mono fun e w' ⟨he, hw⟩ => ?_
    subst hw
    exact ⟨he, h, fun _ _ _ => rfl, rfl, rfl, rfl, rfl⟩
set_option maxHeartbeats 2000000 in
set_option maxRecDepth 100000 in
theorem c_Write (b : Nat) (l : List UInt8) (s : ByteArray) (w : World) (h : Bd w b l) (hlen : l.length + s.size ≤ 140737488355328) :
    Calls Try.prog 40 #[.pointer (some ⟨b, 0, none⟩), .string s] w fun e w' => e = .returned (.tuple #[.int .i64 s.size, .nilIface]) ∧ Bd w' b (l ++ s.data.toList) ∧ Wr b w w' := by
  obtain ⟨i0, hi, hz0, hz1, hz2⟩ := info_parts info5
  have H := Lib.hid h
  have hlt := h.lt
  clear h
  go_enter Try.func40, Try.ntmps40
  go_wp2_with (go_at_call 56; refine (c_check b l _ H.out).mono ?_)
  rintro e w1 ⟨rfl, h1, hf1, hs1, ho1, ht1, hp1⟩
  obtain ⟨hB, v, hbk, hown, hne⟩ := h1
  rw [Lib.byteCells_length] at hown
  have c1 : w1.cell? ⟨b, 1, none⟩ = some v := by rw [cell_of_row _ _ _ _ _ _ hbk]; rfl
  have HF := Lib.hid hf1
  have HS := Lib.hid hs1
  have HQ := Lib.hid (And.intro ho1 (And.intro ht1 hp1))
  clear hf1 hs1 ho1 ht1 hp1
  go_wp2_with (at_builtin; refine Lib.wpList_append_own_string _ rfl _ _ 66 9 rfl b 5 i0 Try.underlying66 Try.underlying9 hi hz0 hz1 hz2 _ _ _ rfl hown s rfl ?c3 ?c4 ?c5 ?_)
  case c3 => unfold maxLen; omega
  case c4 => omega
  case c5 => have := HS.out; omega
  intro v' w2 hown' hgrow _
  have hb1 : b < w1.heap.size := by have := HS.out; omega
  have hb2 : w2.heap[b]? = some (.cells #[.pointer (some ⟨b, 0, none⟩), v] 68 (0, 0)) := (hgrow.block b hb1 (fun e => hne e.symm)).trans hbk
  have d1 : w2.cell? ⟨b, 1, none⟩ = some v := by rw [cell_of_row _ _ _ _ _ _ hb2]; rfl
  have f1 : w2.frozen? ⟨b, 1, none⟩ = false := frozen_of_row _ _ _ _ _ hb2
  have HB2 := Lib.hid hb2
  have HG := Lib.hid hgrow
  have HO := Lib.hid hown
  have HO' := Lib.hid hown'
  have hnb : v'.ownBlock ≠ some b := fun e => by
    rcases hown'.2 with ⟨hv, _⟩ | ⟨g, cap, cur, hv, _, hg, _⟩
    · rw [hv] at e; cases e
    · rw [hv] at e; cases e; rw [hb2] at hg; cases hg
  have HNB := Lib.hid hnb
  obtain ⟨ao, n', cap, rfl⟩ : ∃ ao n' cap, v' = .slice ao n' cap := by
    rcases hown'.2 with ⟨hv, _⟩ | ⟨g, cap, cur, hv, _⟩
    · exact ⟨_, _, _, hv⟩
    · exact ⟨_, _, _, hv⟩
  clear hb2 hgrow hown hown' hnb
  go_wp2_with fail
  go_ret2
  refine ⟨rfl, .inr ⟨hB, .slice ao n' cap, heap_setCell_same w2 b 1 _ _ _ HB2.out, ?_, HNB.out⟩, ?_⟩
  · have ho := HO'.out
    have e : Lib.byteCells (l ++ s.data.toList) = Lib.byteCells l ++ Lib.strCells s := Lib.byteCells_append _ _
    have e2 : (Lib.byteCells l ++ Lib.strCells s).length = l.length + s.size := by rw [List.length_append, Lib.byteCells_length, Lib.strCells_length]
    rw [e, e2]
    refine ⟨ho.1, ?_⟩
    rcases ho.2 with hv | ⟨g, cap', cur, hv, hg0, hg, rest⟩
    · exact .inl hv
    · refine .inr ⟨g, cap', cur, hv, hg0, (heap_setCell_other w2 _ g _ (fun e => HNB.out (by rw [hv, e]; rfl))).trans hg, rest⟩
  · have hg := HG.out
    refine ⟨hg.os.trans HQ.out.1, hg.tape.trans HQ.out.2.1, hg.output.trans HQ.out.2.2, by have := hg.size; have := HS.out; simp; omega, fun k hk hkb hc => ?_⟩
    refine (heap_setCell_other w2 _ k _ hkb).trans ((hg.block k (by have := HS.out; omega) (fun e => ?_)).trans (HF.out k hk hkb))
    rcases hc with hc | hc
    · have := (HO.out.lt k e.symm).1; omega
    · rcases HO.out.2 with ⟨hv, _⟩ | ⟨g, cap', cur, hv, hg0, hg1, _⟩
      · rw [hv] at e; cases e
      · rw [hv] at e
        have hkg : k = g := by simpa [Value.ownBlock] using e
        subst hkg
        exact hc ⟨cur, (0, 0), (HF.out k hk hkb).symm.trans hg1⟩
end Go.Proofs.Ytcaffohojaobaaa
