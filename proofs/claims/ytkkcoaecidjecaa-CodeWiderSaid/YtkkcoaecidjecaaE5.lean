/- The key of a shape, by the program: an array of its numbers. Condition: it lies in memory and has no more parts than an array holds. -/
import Derived.Test.YtkkcoaecidjecaaE4
import Derived.Test.YtkkcoaecidjecaaE1
import Derived.Great.Walk
import Derived.Laws.NewBlocks
namespace Go.Proofs.Ytkkcoaecidjecaa
open Go.RowKit
set_option linter.unusedVariables false
set_option linter.unusedSimpArgs false
/-- The key, as far as k of the parts are put in. -/
def keyP (s : Sh) (k : Nat) : List Int := s.k :: s.r :: (s.l.length : Int) :: (s.l.take k ++ List.replicate (16 - k) 0)
def keyL (s : Sh) : List Int := keyP s s.l.length
def keyV (s : Sh) : Value := .agg ((keyL s).map (Value.int .i64)).toArray
theorem keyP_len {s : Sh} {k : Nat} (hk : k ≤ s.l.length) (hl : s.l.length ≤ 16) : (keyP s k).length = 19 := by
  simp [keyP, List.length_take]; omega
theorem keyP_next {s : Sh} {k : Nat} {x : Int} (h : s.l[k]? = some x) (hl : s.l.length ≤ 16) : (keyP s k).set (3 + k) x = keyP s (k + 1) := by
  have hk := (List.getElem?_eq_some_iff.1 h).1
  have e : 16 - k = (16 - (k + 1)) + 1 := by omega
  unfold keyP
  rw [show 3 + k = k + 1 + 1 + 1 from by omega, List.set_cons_succ, List.set_cons_succ, List.set_cons_succ, e, List.replicate_succ, take_at h, List.set_append, if_neg (by rw [List.length_take]; omega), List.length_take, show k - min k s.l.length = 0 from by omega, List.set_cons_zero, List.append_assoc]
  rfl
theorem keyL_inj {a b : Sh} (h : keyL a = keyL b) : a = b := by
  obtain ⟨k, l, r⟩ := a
  obtain ⟨k', l', r'⟩ := b
  simp only [keyL, keyP, List.cons.injEq, List.take_length] at h
  obtain ⟨rfl, rfl, h3, h4⟩ := h
  have h5 : l.length = l'.length := by omega
  rw [h5] at h4
  have := (List.append_inj h4 h5).1
  rw [this]
theorem map_int_inj : ∀ {a b : List Int}, a.map (Value.int .i64) = b.map (Value.int .i64) → a = b
  | [], [], _ => rfl
  | [], _ :: _, h => by simp at h
  | _ :: _, [], h => by simp at h
  | x :: a, y :: b, h => by
    simp only [List.map_cons, List.cons.injEq, Value.int.injEq, true_and] at h
    rw [h.1, map_int_inj h.2]
theorem keyV_inj {a b : Sh} (h : keyV a = keyV b) : a = b := by
  unfold keyV at h
  injection h with h
  exact keyL_inj (map_int_inj (by simpa using h))
theorem key_set (s : Sh) {k : Nat} {x : Int} (h : s.l[k]? = some x) (hl : s.l.length ≤ 16) : ((keyP s k).map (Value.int .i64)).toArray.setIfInBounds (3 + k) (.int .i64 x) = ((keyP s (k + 1)).map (Value.int .i64)).toArray := by
  rw [← keyP_next h hl]
  simp
theorem key_one (s : Sh) (k : Nat) : ((keyP s k).map (Value.int .i64)).toArray.all (·.oneCell') = true := by
  rw [Array.all_eq_true_iff_forall_mem]
  intro x hx
  simp at hx
  obtain ⟨y, _, rfl⟩ := hx
  rfl
theorem key_range {w : World} {g : Nat} {cs : Array Value} {t : TypeId} (h : w.heap[g]? = some (.cells cs t (0, 0))) : w.rangeAt g 0 cs.toList := fun j v hv => by
  rw [Nat.zero_add, row_cell h]; simpa using hv
theorem key_info : (Try.prog.info? 118).map (fun i => (i.zero, i.size, i.bytes)) = some (some (.agg (List.replicate 19 (Value.int .i64 0)).toArray), 19, 152) := by kernel_rfl
theorem idx_key (g k : Nat) (hk : k < 16) (w : World) : (Instr.indexAt 118 (.pointer (some ⟨g, 0, none⟩)) (.int .i64 (3 + (k : Int)))).run Try.prog w = .ok (.pointer (some ⟨g, 3 + k, none⟩)) w := by
  have hs : (Try.prog.info? (Try.prog.elem 118)).map (·.size) = some 1 := by kernel_rfl
  obtain ⟨ii, hii, hsz⟩ := Option.map_eq_some_iff.1 hs
  rw [run_indexAt_array w 118 ⟨g, 0, none⟩ .i64 (3 + (k : Int)) (by kernel_rfl), if_pos ⟨by omega, by rw [show Try.prog.arrayLen 118 = 19 from by kernel_rfl]; omega⟩]
  have e : (3 + (k : Int)).toNat = 3 + k := by omega
  simp [sizeOf, typeInfo, hii, hsz, Result.andThen, Addr.add_mid, e]
/-- What makes a block: the world behind it by name. -/
theorem wpList_named {P : Program} {ops : Array Oper} {rest : List Oper} {o : Oper} {a : Act} {w : World} {Q : Exit → Act → World → Prop} (hg : o.guard = none) (dst : Option Tmp) (hdst : o.dst = dst)
    (v : Value) (ob : Obj) (hrun : (execOp a.eval o).run P w = .ok (.value v) (w.alloc ob))
    (h : ∀ w', w'.heap[w.heap.size]? = some ob → Kp w w' → w'.heap.size = w.heap.size + 1 → wpList P ops Q rest (a.put dst v) w') : wpList P ops Q (o :: rest) a w :=
  Great.wpList_allocTo hg dst hdst v ob hrun (h _ (heap_alloc_new w ob) ((Kp.refl w).alloc ob) (by simp))
/-- A whole row is written: the world behind it by name. -/
theorem wpList_store_named {P : Program} {ops : Array Oper} {rest : List Oper} {o : Oper} {a : Act} {w : World} {Q : Exit → Act → World → Prop} (hgd : o.guard = none) (ty : TypeId) (x y : Operand) (ho : o.op = .store ty x y)
    (g : Nat) (cells : Array Value) (hx : a.eval x = .pointer (some ⟨g, 0, none⟩)) (hy : a.eval y = .agg cells)
    (t : TypeId) (old : Array Value) (hg : w.heap[g]? = some (.cells old t (0, 0))) (hi : (P.info? ty).map (·.size) = some cells.size)
    (hold : old.size = cells.size) (h1 : cells.all (·.oneCell') = true)
    (h : ∀ w', w'.heap[g]? = some (.cells cells t (0, 0)) → Ke g w w' → wpList P ops Q rest (a.put o.dst undef) w') : wpList P ops Q (o :: rest) a w :=
  wpList_store_row hgd ty x y ho g cells hx hy t old hg hi hold h1 (h _ (setRow_heap w g old cells t (0, 0) hg) ⟨rfl, rfl, rfl, by simp, fun k hk hb => setRow_other w g k cells hb⟩)
theorem Ke.cell {b : Nat} {w w' : World} (h : Ke b w w') {p : Addr} {v : Value} (hc : w.cell? p = some v) (hb : p.block ≠ b) : w'.cell? p = some v := by
  rw [← hc]; exact World.cell?_of_block (h.2.2.2.2 _ (lt_of_cell hc) hb)
theorem Ke.row {b : Nat} {w w' : World} (h : Ke b w w') {g : Nat} {o : Obj} (hc : w.heap[g]? = some o) (hb : g ≠ b) : w'.heap[g]? = some o := (h.2.2.2.2 g (row_lt hc) hb).trans hc
theorem Ke.trans {b : Nat} {w w' w'' : World} (h : Ke b w w') (k : Ke b w' w'') : Ke b w w'' :=
  ⟨k.1.trans h.1, k.2.1.trans h.2.1, k.2.2.1.trans h.2.2.1, Nat.le_trans h.2.2.2.1 k.2.2.2.1, fun i hi hb => (k.2.2.2.2 i (Nat.lt_of_lt_of_le hi h.2.2.2.1) hb).trans (h.2.2.2.2 i hi hb)⟩
theorem key_cell {w : World} {g k : Nat} {s : Sh} {j : Nat} {t : TypeId} (h : w.heap[g]? = some (.cells ((keyP s k).map (Value.int .i64)).toArray t (0, 0))) (hk : k ≤ s.l.length) (hl : s.l.length ≤ 16) (hj : j < 19) : ∃ v, w.cell? ⟨g, j, none⟩ = some v := by
  have : j < (keyP s k).length := by rw [keyP_len hk hl]; exact hj
  exact ⟨.int .i64 ((keyP s k)[j]), by rw [row_cell h]; simp [this]⟩
def zeros19 : Array Value := #[.int .i64 0, .int .i64 0, .int .i64 0, .int .i64 0, .int .i64 0, .int .i64 0, .int .i64 0, .int .i64 0, .int .i64 0, .int .i64 0, .int .i64 0, .int .i64 0, .int .i64 0, .int .i64 0, .int .i64 0, .int .i64 0, .int .i64 0, .int .i64 0, .int .i64 0]
theorem key_sz (s : Sh) {k : Nat} (hk : k ≤ s.l.length) (hl : s.l.length ≤ 16) : (Try.prog.info? 118).map (·.size) = some ((keyP s k).map (Value.int .i64)).toArray.size := by
  rw [show (Try.prog.info? 118).map (·.size) = some 19 from by kernel_rfl]; simp [keyP_len hk hl]
theorem zeros_sz (s : Sh) {k : Nat} (hk : k ≤ s.l.length) (hl : s.l.length ≤ 16) : zeros19.size = ((keyP s k).map (Value.int .i64)).toArray.size := by
  rw [show zeros19.size = 19 from rfl]; simp [keyP_len hk hl]
set_option maxHeartbeats 2000000 in
set_option maxRecDepth 100000 in
theorem c_keyOf (s : Sh) (cs : List Value) (w : World) (h : LS w A0 s cs) (hl : s.l.length ≤ 16) :
    Calls Try.prog 63 #[.agg cs.toArray] w (fun e w' => e = .returned (keyV s) ∧ Kp w w') := by
  obtain ⟨k, l, r⟩ := s
  obtain ⟨V, rfl, hv, hk, hr⟩ := h
  simp only at hv hk hr hl
  obtain ⟨a1, q1, C1, rfl, _, hby1, _, ht1, hx1⟩ := hv
  have hc1 : l.length ≤ 140737488351232 := by omega
  have HT1 := Lib.hid ht1
  have HX1 := Lib.hid hx1
  clear hk hr hby1 ht1 hx1
  go_enter Try.func63, Try.ntmps63
  go_wp2_with (first | ((with_reducible show wpList _ _ _ (⟨some 1, _, _, _, _, _⟩ :: _) _ _); refine wpList_named rfl (some 1) rfl (.pointer (some ⟨w.heap.size, 0, none⟩)) (.cells #[.int .i64 k, .slice a1 l.length q1, .int .i64 r] 45) (by kernel_rfl) ?_; intro w1 h1 k1 z1; have HK1 := Lib.hid k1; obtain ⟨c0, c1, c2⟩ := row3 h1; clear h1 k1) | ((with_reducible show wpList _ _ _ (⟨some 2, _, _, _, _, _⟩ :: _) _ _); refine wpList_named rfl (some 2) rfl (.pointer (some ⟨w1.heap.size, 0, none⟩)) (.cells zeros19 118) (by kernel_rfl) ?_; intro w2 h2 k2 z2; have HK2 := Lib.hid k2; have HR2 := Lib.hid h2; have c0 := k2.cellv c0; have c1 := k2.cellv c1; have c2 := k2.cellv c2; clear h2 k2) | ((with_reducible show wpList _ _ _ (⟨some 3, _, _, _, _, _⟩ :: _) _ _); refine wpList_named rfl (some 3) rfl (.pointer (some ⟨w2.heap.size, 0, none⟩)) (.cells zeros19 118) (by kernel_rfl) ?_; intro w3 h3 k3 z3; have HK3 := Lib.hid k3; have HR3 := Lib.hid h3; have c0 := k3.cellv c0; have c1 := k3.cellv c1; have c2 := k3.cellv c2; clear h3 k3) | ((with_reducible show wpList _ _ _ (⟨none, .store _ (.tmp 3) (.tmp 13), _, _, _, _⟩ :: _) _ _); refine wpList_store_named rfl 118 _ _ rfl w2.heap.size ((keyP ⟨k, l, r⟩ 0).map (Value.int .i64)).toArray (by rfl) (by rfl) 118 zeros19 HR3.out (by kernel_rfl) (by kernel_rfl) (key_one _ _) ?_; intro w4 h4 k4; have HR4 := Lib.hid h4; have HK4 := Lib.hid k4; have c1 := k4.cell c1 (by simp only; omega); clear h4 k4))
  have HKA : Hid (Kp w w4) := Lib.hid (HK4.out.old ((HK1.out.trans HK2.out).trans HK3.out |> fun _ => HK1.out.trans HK2.out |>.trans HK3.out) (by omega))
  go_loopw [17] (fun i wr => ∃ j : Nat, j ≤ l.length ∧ i = .int .i64 (j : Int) ∧ wr.heap[w2.heap.size]? = some (.cells ((keyP ⟨k, l, r⟩ j).map (Value.int .i64)).toArray 118 (0, 0)) ∧ Ke w2.heap.size w4 wr) (fun i _ => l.length - (intOf i).toNat)
  case atStart => exact ⟨0, by omega, rfl, HR4.out, Ke.refl _ _⟩
  case round =>
    obtain ⟨j, hj, rfl, hrow, hke⟩ := hrel
    have HROW := Lib.hid hrow
    have HKE := Lib.hid hke
    have hkp := hke.old HKA.out (by omega)
    have HKP := Lib.hid hkp
    clear hke hkp hrow
    by_cases hlt : j < l.length
    · obtain ⟨x, hxk⟩ : ∃ x, l[j]? = some x := ⟨_, List.getElem?_eq_getElem hlt⟩
      obtain ⟨b, p, rfl, hr⟩ := (HT1.out.keep HKP.out).at (by omega)
      have c3 := hr j hlt 0 (.int .i64 x) (by rw [(HX1.out j _ hxk).1]; rfl)
      simp only [Nat.add_zero, Nat.mul_one] at c3
      have i0 := run_index_tab 33 3 Try.underlying33 1 (by kernel_rfl) b p l.length q1 j hlt
      simp only [Nat.mul_one] at i0
      have i1 := idx_key w2.heap.size j (by omega)
      obtain ⟨u, c4⟩ := key_cell (j := 3 + j) HROW.out (by simp only; omega) hl (by omega)
      have f4 := frozen_of_row wr w2.heap.size (3 + j) _ _ HROW.out
      have eg : w2.heap.size = w.heap.size + 1 + 1 := by omega
      rw [eg] at i1 c4 f4
      have HXK := Lib.hid hxk
      have EG := Lib.hid eg
      clear hr hxk eg
      go_wp2_with fail
      go_roundw
      case rel => exact ⟨j + 1, by omega, by go_num, by rw [← EG.out, heap_setCell_same _ _ _ _ _ _ HROW.out, key_set ⟨k, l, r⟩ HXK.out hl], HKE.out.setCell EG.out.symm _⟩
      case measure => simp [intOf]; omega
    · have hj2 : j = l.length := by omega
      subst hj2
      have hres : wr.heap[w1.heap.size]? = some (.cells zeros19 118 (0, 0)) := HKE.out.row (HK4.out.row (row_keep HK3.out HR2.out) (by omega)) (by omega)
      have eg : w2.heap.size = w.heap.size + 1 + 1 := by omega
      have eg1 : w1.heap.size = w.heap.size + 1 := by omega
      have hrow2 := HROW.out
      rw [eg] at hrow2
      rw [eg1] at hres
      have HRES := Lib.hid hres
      have HROW2 := Lib.hid hrow2
      clear hres hrow2 eg eg1
      go_wp2_with (first | ((with_reducible show wpList _ _ _ (⟨some 27, _, _, _, _, _⟩ :: _) _ _); refine wpList_load_mid rfl 118 _ rfl (w.heap.size + 1 + 1) 0 (by rfl) _ (.array 19 3) (key_range HROW2.out) Try.underlying118 rfl (key_sz ⟨k, l, r⟩ (Nat.le_refl _) hl) ?_) | ((with_reducible show wpList _ _ _ (⟨none, .store _ (.tmp 2) (.tmp 27), _, _, _, _⟩ :: _) _ _); refine wpList_store_named rfl 118 _ _ rfl (w.heap.size + 1) ((keyP ⟨k, l, r⟩ l.length).map (Value.int .i64)).toArray (by rfl) (by rfl) 118 zeros19 HRES.out (key_sz ⟨k, l, r⟩ (Nat.le_refl _) hl) (zeros_sz ⟨k, l, r⟩ (Nat.le_refl _) hl) (key_one _ _) ?_; intro w5 h5 k5; have HR5 := Lib.hid h5; have HK5 := Lib.hid k5; clear h5 k5))
      refine bodyPost_ret_by (results_cell_row (by rfl) _ w5 (w.heap.size + 1) 118 _ (0, 0) (.array 19 3) (by rfl) HR5.out Try.underlying118 (by rfl) (key_sz ⟨k, l, r⟩ (Nat.le_refl _) hl)) (by rfl) ⟨rfl, ?_⟩
      exact HK5.out.old HKP.out (by omega)
end Go.Proofs.Ytkkcoaecidjecaa
