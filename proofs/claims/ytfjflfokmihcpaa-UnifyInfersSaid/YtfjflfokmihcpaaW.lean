/- The parameters in a type, as a plain function; has and Holes of the reference. Condition: the type is sound and lies below the list. -/
import Derived.Test.YtfjflfokmihcpaaL
import Derived.Laws.EntriesVeiled
namespace Go.Proofs.Ytfjflfokmihcpaa
open Go.RowKit
set_option linter.unusedVariables false
set_option linter.unusedSimpArgs false

/-- Block k holds texts. -/
def isS (w : World) (k : Nat) : Prop := ∃ cs fr, w.heap[k]? = some (.cells cs 9 fr)
/-- Below base nothing has turned; behind it only the blocks of X and those of texts. -/
structure Gs (base : Nat) (X : Nat → Prop) (w w' : World) : Prop where
  os : w'.os = w.os
  tape : w'.tape = w.tape
  output : w'.output = w.output
  sz : w.heap.size ≤ w'.heap.size
  blk : ∀ k, k < w.heap.size → (k < base ∨ (¬ X k ∧ ¬ isS w k)) → w'.heap[k]? = w.heap[k]?
theorem Gs.refl (b : Nat) (X : Nat → Prop) (w : World) : Gs b X w w := ⟨rfl, rfl, rfl, Nat.le_refl _, fun _ _ _ => rfl⟩
theorem Gs.trans {b : Nat} {X : Nat → Prop} {u v w : World} (h : Gs b X u v) (k : Gs b X v w) : Gs b X u w :=
  ⟨k.os.trans h.os, k.tape.trans h.tape, k.output.trans h.output, Nat.le_trans h.sz k.sz, fun i hi hc => by
    have e := h.blk i hi hc
    refine (k.blk i (Nat.lt_of_lt_of_le hi h.sz) (hc.imp id (fun hn => ⟨hn.1, ?_⟩))).trans e
    intro ⟨cs, fr, x⟩
    exact hn.2 ⟨cs, fr, e ▸ x⟩⟩
theorem Kp.gs {b : Nat} {X : Nat → Prop} {w w' : World} (h : Kp w w') : Gs b X w w' := ⟨h.os, h.tape, h.output, h.sz, fun k hk _ => h.blk hk⟩
theorem Gs.kp {b : Nat} {X : Nat → Prop} {w0 w w' : World} (h : Gs b X w w') (k : Kp w0 w) (hb : w0.heap.size ≤ b) : Kp w0 w' :=
  ⟨h.os.trans k.os, h.tape.trans k.tape, h.output.trans k.output, Nat.le_trans k.sz h.sz, fun i hi => (h.blk i (Nat.lt_of_lt_of_le hi k.sz) (.inl (by omega))).trans (k.blk hi)⟩
theorem Gs.cellv {b : Nat} {X : Nat → Prop} {w w' : World} (h : Gs b X w w') {p : Addr} {v : Value} (hc : w.cell? p = some v) (hn : p.block < b ∨ (¬ X p.block ∧ ¬ isS w p.block)) : w'.cell? p = some v := by
  rw [← hc]; exact World.cell?_of_block (h.blk _ (lt_of_cell hc) hn)
theorem Gs.fr {b : Nat} {X : Nat → Prop} {w w' : World} (h : Gs b X w w') : Fr (fun k => ¬ k < b) w w' := fun k hk hn => h.blk k hk (.inl (Classical.not_not.1 hn))
theorem notS_of {w : World} {k : Nat} {cs : Array Value} {t : TypeId} {fr : Nat × Nat} (h : w.heap[k]? = some (.cells cs t fr)) (ht : t ≠ 9) : ¬ isS w k := fun ⟨cs', fr', e⟩ => by
  rw [h] at e; simp at e; exact ht e.2.1
/-- A type that lies below block b. -/
def LowS (b : Nat) : Sel := ⟨False, fun k => k < b⟩
theorem LowS_le (b : Nat) : A0.le (LowS b) := ⟨fun h => h.elim, fun _ _ => trivial⟩
theorem lowS_of {w : World} {r : Nat} {T : Ty} {h : Hd} (hl : Lies w A0 r T h) {b : Nat} (hb : w.heap.size ≤ b) : Lies w (LowS b) r T h :=
  (hl.below (Nat.le_refl _)).weak (show Sel.le (LowS b) ⟨A0.fresh, fun k => A0.S k ∧ k < w.heap.size⟩ from ⟨fun x => x, fun k hk => Nat.lt_of_lt_of_le hk.2 hb⟩)
theorem Lies.gs {b : Nat} {X : Nat → Prop} {w w' : World} {r : Nat} {T : Ty} {h : Hd} (hl : Lies w (LowS b) r T h) (hg : Gs b X w w') : Lies w' (LowS b) r T h :=
  hl.turn hg.fr hg.sz (fun k _ (hS : k < b) hn => hn hS)
theorem tab.gs {b n : Nat} {X : Nat → Prop} {w w' : World} {e : TypeId} {a : Option Addr} {m c z : Nat} {C : Nat → List Value} (h : tab w (From n) e a m c z C) (he : e ≠ 9) (hX : ∀ k, X k → k < n) (hg : Gs b X w w') : tab w' (From n) e a m c z C := ⟨h.1, fun hn => by
  obtain ⟨b', o, ha, hB, hl, hf, hr⟩ := h.2 hn
  obtain ⟨h0, cur, hc⟩ := hf trivial
  have e' := hg.blk b' hl (.inr ⟨fun x => by have := hX _ x; have hB' : n ≤ b' := hB; omega, notS_of hc he⟩)
  exact ⟨b', o, ha, hB, Nat.lt_of_lt_of_le hl hg.sz, fun _ => ⟨h0, cur, e'.trans hc⟩, fun i hi j v hv => by rw [← hr i hi j v hv]; exact World.cell?_of_block e'⟩⟩
theorem boxS {b : Nat} {X : Nat → Prop} {w W : World} {h : Hd} (hX : ¬ X w.heap.size) (hk : Gs b X (w.alloc (.cells #[.int .i64 h.k, .string h.nm, .int .i64 h.con, .slice h.fa h.fl h.fc, .slice h.la h.ll h.lc, .slice h.ra h.rl h.rc] 42)) W) :
    W.cell? ⟨w.heap.size, 0, none⟩ = some (.int .i64 h.k) ∧ W.cell? ⟨w.heap.size, 1, none⟩ = some (.string h.nm) ∧ W.cell? ⟨w.heap.size, 2, none⟩ = some (.int .i64 h.con) ∧ W.cell? ⟨w.heap.size, 3, none⟩ = some (.slice h.fa h.fl h.fc) ∧ W.cell? ⟨w.heap.size, 4, none⟩ = some (.slice h.la h.ll h.lc) ∧ W.cell? ⟨w.heap.size, 5, none⟩ = some (.slice h.ra h.rl h.rc) ∧ w.heap.size < W.heap.size := by
  have hsz := hk.sz
  simp at hsz
  have hn : ¬ isS (w.alloc (.cells #[.int .i64 h.k, .string h.nm, .int .i64 h.con, .slice h.fa h.fl h.fc, .slice h.la h.ll h.lc, .slice h.ra h.rl h.rc] 42)) w.heap.size := notS_of (heap_alloc_new _ _) (by decide)
  refine ⟨?_, ?_, ?_, ?_, ?_, ?_, by omega⟩ <;> exact hk.cellv (by rw [cell_of_row _ w.heap.size _ _ 42 (0, 0) (heap_alloc_new _ _)]; rfl) (.inr ⟨hX, hn⟩)

/-- A row of texts that the call has built, from block base on. -/
def rowS (w : World) (base : Nat) (v : Value) (L : List ByteArray) : Prop := w.ownsRow base 9 1 v L.length (L.map Value.string)
theorem own_keep {w w' : World} {B : Nat} {e : TypeId} {m n : Nat} {v : Value} {xs : List Value} (h : w.ownsRow B e m v n xs) (hk : Kp w w') : w'.ownsRow B e m v n xs := by
  refine ⟨h.1, ?_⟩
  rcases h.2 with hv | ⟨g, cap, cur, hv, hg0, hg, rest⟩
  · exact .inl hv
  · exact .inr ⟨g, cap, cur, hv, hg0, (hk.blk (Array.getElem?_eq_some_iff.1 hg).1).trans hg, rest⟩
theorem rowS.keep {w w' : World} {base : Nat} {v : Value} {L : List ByteArray} (h : rowS w base v L) (hk : Kp w w') : rowS w' base v L := own_keep h hk
theorem rowS.grown {w w' : World} {base : Nat} {X : Nat → Prop} {v : Value} {L : List ByteArray} (h : rowS w base v L) (hg : w.grownBy w' v.ownBlock) : Gs base X w w' :=
  ⟨hg.os, hg.tape, hg.output, hg.size, fun k hk hc => by
    refine hg.block k hk (fun e => ?_)
    rcases h.2 with ⟨hv, _⟩ | ⟨g, cap, cur, hv, hg0, hgg, _⟩
    · rw [hv] at e; cases e
    · rw [hv] at e
      obtain rfl : k = g := Option.some.inj e
      rcases hc with hc | ⟨_, hc⟩
      · omega
      · exact hc ⟨_, _, hgg⟩⟩
def fnS (L : List ByteArray) (i : Nat) : ByteArray := L.getD i ByteArray.empty
theorem flat_map (L : List ByteArray) : flat (fun i => [Value.string (fnS L i)]) L.length = L.map Value.string := by
  have : ∀ n, n ≤ L.length → flat (fun i => [Value.string (fnS L i)]) n = (L.take n).map Value.string := by
    intro n
    induction n with
    | zero => intro _; rfl
    | succ n ih =>
      intro hn
      rw [flat, ih (by omega), List.take_add_one, List.map_append]
      congr 1
      simp [fnS, List.getD_eq_getElem?_getD, List.getElem?_eq_getElem (show n < L.length by omega)]
  rw [this _ (Nat.le_refl _), List.take_length]
theorem rowS.tab {w : World} {base : Nat} {v : Value} {L : List ByteArray} (h : rowS w base v L) : ∃ ad c, v = .slice ad L.length c ∧ L.length ≤ c ∧ tab w (From base) 9 ad L.length c 1 (fun i => [.string (fnS L i)]) := by
  unfold rowS at h
  rw [← flat_map] at h
  obtain ⟨ad, c, h1, h2, h3, _⟩ := tab_of_owns h (fun _ => rfl)
  exact ⟨ad, c, h1, h2, h3⟩
theorem rowS_nil (w : World) (base : Nat) : rowS w base (.slice none 0 0) [] := World.ownsRow_nil _ _ _ _

/-- Does the text stand in the list? -/
noncomputable def hasB (L : List ByteArray) (s : ByteArray) : Bool := @decide (s ∈ L) (Classical.propDecidable _)
theorem hasB_yes {L : List ByteArray} {s : ByteArray} (h : s ∈ L) : hasB L s = true := by unfold hasB; exact @decide_eq_true _ (Classical.propDecidable _) h
theorem hasB_no {L : List ByteArray} {s : ByteArray} (h : s ∉ L) : hasB L s = false := by unfold hasB; exact @decide_eq_false _ (Classical.propDecidable _) h
theorem hasB_at {L : List ByteArray} {s : ByteArray} {n : Nat} (hn : n < L.length) (h : fnS L n = s) : hasB L s = true := hasB_yes (by
  rw [← h]; unfold fnS
  rw [List.getD_eq_getElem?_getD, List.getElem?_eq_getElem hn]
  exact List.getElem_mem _)
theorem hasB_none {L : List ByteArray} {s : ByteArray} (h : ∀ i, i < L.length → fnS L i ≠ s) : hasB L s = false := hasB_no fun hm => by
  obtain ⟨i, hi, e⟩ := List.getElem_of_mem hm
  exact h i hi (by unfold fnS; rw [List.getD_eq_getElem?_getD, List.getElem?_eq_getElem hi]; exact e)
theorem infoS : (Try.prog.info? 9).map (fun i => (i.zero, i.size, i.bytes)) = some (some (.string ⟨#[]⟩), 1, 16) := by kernel_rfl
set_option maxHeartbeats 1600000 in
theorem c_has (w : World) (S : Sel) (ad : Option Addr) (c : Nat) (L : List ByteArray) (s : ByteArray) (ht : tab w S 9 ad L.length c 1 (fun i => [.string (fnS L i)])) (hb : L.length ≤ 9223372036854775807) :
    Calls Try.prog 33 #[.slice ad L.length c, .string s] w fun e w' => e = .returned (.bool (hasB L s)) ∧ Kp w w' := by
  have HT := Lib.hid ht
  clear ht
  generalize hlen : L.length = len at hb
  have HLEN := Lib.hid hlen
  rw [hlen] at HT
  clear hlen
  go_enter Try.func33, Try.ntmps33
  go_wp2_with fail
  go_loopw [5] (fun i wr => ∃ n : Nat, n ≤ len ∧ i = .int .i64 n ∧ Hid (∀ k, k < n → fnS L k ≠ s) ∧ Kp w wr) (fun i _ => len - (intOf i).toNat)
  case atStart => exact ⟨0, by omega, rfl, Lib.hid (fun k hk => absurd hk (by omega)), Kp.refl _⟩
  case round =>
    obtain ⟨n, hn, rfl, HN, hkr⟩ := hrel
    by_cases hlt : n < len
    · obtain ⟨b, o, ha, hr⟩ := HT.out.at (by omega)
      have HA := Lib.hid ha
      have g0 : wr.cell? ⟨b, o + n, none⟩ = some (.string (fnS L n)) := hkr.cellv (by simpa using hr n hlt 0 _ rfl)
      clear ha hr
      rcases same_or (fnS L n) s with ⟨e, e1⟩ | ⟨e, e1⟩
      · have hv := Lib.hid (hasB_at (L := L) (by rw [HLEN.out]; exact hlt) e)
        clear e
        go_wp2_with ((with_reducible show wpList _ _ _ (⟨some 14, _, _, _, _, _⟩ :: _) _ _); refine wpList_index_tab (d := 14) _ _ _ rfl 9 Try.underlying22 1 rfl _ _ _ _ o (by rfl) HA.out n (by rfl) hlt ?_)
        go_ret
        exact ⟨ret_bool hv.out.symm, hkr⟩
      · have hv := Lib.hid e
        clear e
        go_wp2_with ((with_reducible show wpList _ _ _ (⟨some 14, _, _, _, _, _⟩ :: _) _ _); refine wpList_index_tab (d := 14) _ _ _ rfl 9 Try.underlying22 1 rfl _ _ _ _ o (by rfl) HA.out n (by rfl) hlt ?_)
        go_roundw
        case rel => exact ⟨n + 1, by omega, by go_num, Lib.hid (fun k hk => by
          by_cases hkn : k = n
          · rw [hkn]; exact hv.out
          · exact HN.out k (by omega)), hkr⟩
        case measure => simp [intOf]; omega
    · obtain rfl : n = len := by omega
      have hv := Lib.hid (hasB_none (L := L) (s := s) (by rw [HLEN.out]; exact HN.out))
      go_wp2_with fail
      go_ret
      exact ⟨ret_bool hv.out.symm, hkr⟩
end Go.Proofs.Ytfjflfokmihcpaa
