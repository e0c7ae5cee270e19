/- Whether a text stands twice, in the reference. Condition: the texts lie in memory. Find of the reference: what it answers. Condition: the names and the types lie in memory. Find of the reference: what it answers. Condition: the names and the types lie in memory. The walk of UnifyFinds. Condition: the names and the types lie in memory; no slice is longer than 1048576. -/
import Derived.Test.YtfjflfokmihcpaaW
import Derived.Deep.RegionHeld3
import Derived.Test.YtfjflfokmihcpaaY1
import Derived.Test.YtfjflfokmihcpaaUj
import Derived.Laws.MakeOwn
import Derived.Test.YtfjflfokmihcpaaVa
import Derived.Test.YtfjflfokmihcpaaUl
namespace Go.Proofs.Ytfjflfokmihcpaa
open Go.RowKit
set_option linter.unusedVariables false
set_option linter.unusedSimpArgs false
noncomputable def twB (L : List ByteArray) : Bool := @decide (¬ L.Nodup) (Classical.propDecidable _)
theorem twB_yes {L : List ByteArray} (h : ¬ L.Nodup) : twB L = true := by unfold twB; exact @decide_eq_true _ (Classical.propDecidable _) h
theorem twB_no {L : List ByteArray} (h : L.Nodup) : twB L = false := by unfold twB; exact @decide_eq_false _ (Classical.propDecidable _) (fun q => q h)
theorem nodup_of {L : List ByteArray} (h : ∀ i, i < L.length → hasB (L.drop (i + 1)) (fnS L i) = false) : L.Nodup := by
  unfold List.Nodup
  rw [List.pairwise_iff_getElem]
  intro i j hi hj hij e
  have h1 := h i hi
  rw [hasB_yes] at h1
  · cases h1
  · unfold fnS
    rw [List.getD_eq_getElem?_getD, List.getElem?_eq_getElem hi]
    show L[i] ∈ _
    rw [e]
    refine List.mem_iff_getElem.2 ⟨j - (i + 1), by rw [List.length_drop]; omega, ?_⟩
    rw [List.getElem_drop]
    congr 1
    omega
theorem not_nodup {L : List ByteArray} {i : Nat} (hi : i < L.length) (h : hasB (L.drop (i + 1)) (fnS L i) = true) : ¬ L.Nodup := by
  intro hn
  have hm : fnS L i ∈ L.drop (i + 1) := Classical.byContradiction fun q => by rw [hasB_no q] at h; cases h
  obtain ⟨k, hk, e⟩ := List.mem_iff_getElem.1 hm
  rw [List.length_drop] at hk
  rw [List.getElem_drop] at e
  unfold fnS at e
  rw [List.getD_eq_getElem?_getD, List.getElem?_eq_getElem hi] at e
  unfold List.Nodup at hn
  rw [List.pairwise_iff_getElem] at hn
  exact hn i (i + 1 + k) hi (by omega) (by omega) e.symm
theorem tab_drop {w : World} {S : Sel} {b o c c' : Nat} {L : List ByteArray} (h : tab w S 9 (some ⟨b, o, none⟩) L.length c 1 (fun i => [.string (fnS L i)])) (k : Nat) : tab w A0 9 (some ⟨b, o + k, none⟩) (L.drop k).length c' 1 (fun i => [.string (fnS (L.drop k) i)]) := by
  refine ⟨fun e => absurd e (by simp), fun hn => ?_⟩
  rw [List.length_drop] at hn
  obtain ⟨b', o', e, _, hl, _, hr⟩ := h.2 (by omega)
  cases e
  refine ⟨b, o + k, rfl, trivial, hl, fun q => q.elim, fun i hi => ?_⟩
  rw [List.length_drop] at hi
  have h1 : w.rangeAt b (o + (k + i) * 1) [.string (fnS L (k + i))] := hr (k + i) (by omega)
  have e1 : fnS L (k + i) = fnS (L.drop k) i := by
    unfold fnS
    rw [List.getD_eq_getElem?_getD, List.getD_eq_getElem?_getD, List.getElem?_drop]
  rw [e1] at h1
  show w.rangeAt b (o + k + i * 1) [.string (fnS (L.drop k) i)]
  intro j v hv
  have h2 := h1 j v hv
  rw [show o + k + i * 1 + j = o + (k + i) * 1 + j by omega]
  exact h2
theorem has_drop (w : World) (S : Sel) (b o c c' m : Nat) (L : List ByteArray) (k : Nat) (s : ByteArray) (h : tab w S 9 (some ⟨b, o, none⟩) L.length c 1 (fun i => [.string (fnS L i)])) (hb : L.length ≤ 9223372036854775807) (hlc : L.length ≤ c) (hm : m = L.length - k) :
    Calls Try.prog 33 #[.slice (if c = k then some ⟨b, o, none⟩ else some ⟨b, o + k, none⟩) m c', .string s] w fun e w' => e = .returned (.bool (hasB (L.drop k) s)) ∧ Kp w w' := by
  have hm2 : m = (L.drop k).length := by rw [List.length_drop]; exact hm
  subst hm2
  refine c_has w A0 _ c' (L.drop k) s ?_ (by rw [List.length_drop]; omega)
  split
  · rename_i e
    refine ⟨fun e => absurd e (by simp), fun hn => ?_⟩
    have h9 : 0 < (L.drop k).length := hn
    rw [List.length_drop] at h9
    omega
  · exact tab_drop h k
set_option maxHeartbeats 3200000 in
set_option maxRecDepth 100000 in
theorem c_Twice (w : World) (S : Sel) (ad : Option Addr) (c : Nat) (L : List ByteArray) (ht : tab w S 9 ad L.length c 1 (fun i => [.string (fnS L i)])) (hlc : L.length ≤ c) (hlL : L.length * 16 ≤ 140737488351232) :
    Calls Try.prog 24 #[.slice ad L.length c] w fun e w' => e = .returned (.bool (twB L)) ∧ Kp w w' := by
  have HT := Lib.hid ht
  clear ht
  go_enter Try.func24, Try.ntmps24
  go_wp2_with fail
  go_loopw [3] (fun i wr => ∃ n : Nat, n ≤ L.length ∧ i = .int .i64 n ∧ (∀ i, i < n → hasB (L.drop (i + 1)) (fnS L i) = false) ∧ Kp w wr) (fun i _ => L.length - (intOf i).toNat)
  case atStart => exact ⟨0, Nat.zero_le _, rfl, fun i hi => absurd hi (by omega), Kp.refl _⟩
  case round =>
    obtain ⟨n, hn, rfl, hok, hkr⟩ := hrel
    have HOK := Lib.hid hok
    have HKR := Lib.hid hkr
    clear hok hkr
    by_cases hlt : n < L.length
    · obtain ⟨b, o, ha, hr⟩ := HT.out.at (by omega)
      subst ha
      obtain ⟨sn, hsn⟩ : ∃ sn, fnS L n = sn := ⟨_, rfl⟩
      have HSN := Lib.hid hsn
      have x0 : wr.cell? ⟨b, o + n, none⟩ = some (.string sn) := by
        have := HKR.out.cellv (rangeAt_head (hr n hlt))
        rw [Nat.mul_one, hsn] at this
        exact this
      have CH := Lib.hid (fun W m c' (k : Kp w W) hm => has_drop W S b o c c' m L (n + 1) sn (HT.out.keep k) (by omega) hlc hm)
      have j1 : (0 : Int) ≤ n := by omega
      have j2 : (n : Int) < L.length := by omega
      have i1 : IntKind.i64.wrap ((n : Int) + 1) = (n : Int) + 1 := by rw [IntKind.wrap_i64]; omega
      have i2 : (0 : Int) ≤ (n : Int) + 1 := by omega
      have i3 : (n : Int) + 1 ≤ (L.length : Int) := by omega
      clear hr hsn
      by_cases hc : c = n + 1
      · have CH0 := Lib.hid (fun W m c' (k : Kp w W) hm => (by have := CH.out W m c' k hm; rw [if_pos hc] at this; exact this : Calls Try.prog 33 #[.slice (some ⟨b, o, none⟩) m c', .string sn] W fun e w' => e = .returned (.bool (hasB (L.drop (n + 1)) sn)) ∧ Kp W w'))
        have hc1 : (c = n + 1) ↔ True := iff_true_intro hc
        clear hc CH
        cases hb : hasB (L.drop (n + 1)) sn with
        | true =>
          have HN := Lib.hid (twB_yes (not_nodup hlt (by rw [HSN.out]; exact hb)))
          go_wp2_with fail
          go_region_held3 (fun w' => w'.cell? ⟨b, o + n, none⟩ = some (.string sn))
            (first | exact x0 | exact hk6.cellv x0)
            (first | (go_at_call 33; (with_reducible refine (CH0.out _ _ _ HKR.out.drew ?_).mono ?_); (focus (first | rfl | omega)); rintro e w6 ⟨rfl, hk6⟩; rw [hb]))
          go_wp2_with fail
          go_ret
          exact ⟨ret_bool HN.out.symm, (HKR.out.drew).trans hk6⟩
        | false =>
          have HB := Lib.hid hb
          go_wp2_with fail
          go_region_held3 (fun w' => w'.cell? ⟨b, o + n, none⟩ = some (.string sn))
            (first | exact x0 | exact hk6.cellv x0)
            (first | (go_at_call 33; (with_reducible refine (CH0.out _ _ _ HKR.out.drew ?_).mono ?_); (focus (first | rfl | omega)); rintro e w6 ⟨rfl, hk6⟩; rw [hb]))
          go_wp2_with fail
          go_roundw
          case rel => exact ⟨n + 1, by omega, by go_num, fun i hi => by
            by_cases e : i = n
            · subst e; rw [HSN.out]; exact HB.out
            · exact HOK.out i (by omega), (HKR.out.drew).trans hk6⟩
          case measure => simp [intOf]; omega
      · have CH0 := Lib.hid (fun W m c' (k : Kp w W) hm => (by have := CH.out W m c' k hm; rw [if_neg hc] at this; exact this : Calls Try.prog 33 #[.slice (some ⟨b, o + (n + 1), none⟩) m c', .string sn] W fun e w' => e = .returned (.bool (hasB (L.drop (n + 1)) sn)) ∧ Kp W w'))
        clear CH
        cases hb : hasB (L.drop (n + 1)) sn with
        | true =>
          have HN := Lib.hid (twB_yes (not_nodup hlt (by rw [HSN.out]; exact hb)))
          go_wp2_with fail
          go_region_held3 (fun w' => w'.cell? ⟨b, o + n, none⟩ = some (.string sn))
            (first | exact x0 | exact hk6.cellv x0)
            (first | (go_at_call 33; (with_reducible refine (CH0.out _ _ _ HKR.out.drew ?_).mono ?_); (focus (first | rfl | omega)); rintro e w6 ⟨rfl, hk6⟩; rw [hb]))
          go_wp2_with fail
          go_ret
          exact ⟨ret_bool HN.out.symm, (HKR.out.drew).trans hk6⟩
        | false =>
          have HB := Lib.hid hb
          go_wp2_with fail
          go_region_held3 (fun w' => w'.cell? ⟨b, o + n, none⟩ = some (.string sn))
            (first | exact x0 | exact hk6.cellv x0)
            (first | (go_at_call 33; (with_reducible refine (CH0.out _ _ _ HKR.out.drew ?_).mono ?_); (focus (first | rfl | omega)); rintro e w6 ⟨rfl, hk6⟩; rw [hb]))
          go_wp2_with fail
          go_roundw
          case rel => exact ⟨n + 1, by omega, by go_num, fun i hi => by
            by_cases e : i = n
            · subst e; rw [HSN.out]; exact HB.out
            · exact HOK.out i (by omega), (HKR.out.drew).trans hk6⟩
          case measure => simp [intOf]; omega
    · obtain rfl : n = L.length := by omega
      have hz : ¬ ((L.length : Int) < (L.length : Int)) := by omega
      have HN := Lib.hid (twB_no (nodup_of HOK.out))
      go_wp2_with fail
      go_ret
      exact ⟨ret_bool HN.out.symm, HKR.out⟩
theorem infoBo : (Try.prog.info? 4).map (fun i => (i.zero, i.size, i.bytes)) = some (some (.bool false), 1, 1) := by kernel_rfl
theorem made_at {z : Array Value} {n k : Nat} (hk : k < n) : (madeCells z n)[k]? = some (z[k % z.size]!) := by
  unfold madeCells
  simp [hk]
def of_0 : Oper := { dst := some 46, op := Op.move (Operand.tmp 0), type := 22, pos := "ref.go:295", after := #[], guard := none }
def of_1 : Oper := { dst := some 47, op := Op.move (Operand.tmp 0), type := 22, pos := "ref.go:295", after := #[], guard := none }
def of_2 : Oper := { dst := some 48, op := Op.call { callee := Callee.builtin Builtin.len, args := #[Operand.tmp 47], argTypes := #[22] }, type := 3, pos := "ref.go:295", after := #[{ on := 1, ground := Ground.data }], guard := none }
def of_3 : Oper := { dst := some 49, op := Op.makeSlice 23 (Operand.tmp 48) (Operand.tmp 48), type := 23, pos := "ref.go:295", after := #[{ on := 2, ground := Ground.data }, { on := 2, ground := Ground.data }], guard := none }
def of_4 : Oper := { dst := some 50, op := Op.move (Operand.tmp 0), type := 22, pos := "ref.go:295", after := #[], guard := none }
def of_5 : Oper := { dst := some 51, op := Op.call { callee := Callee.builtin Builtin.len, args := #[Operand.tmp 50], argTypes := #[22] }, type := 3, pos := "ref.go:295", after := #[{ on := 4, ground := Ground.data }], guard := none }
def of_6 : Oper := { dst := some 52, op := Op.makeSlice 24 (Operand.tmp 51) (Operand.tmp 51), type := 24, pos := "ref.go:295", after := #[{ on := 5, ground := Ground.data }, { on := 5, ground := Ground.data }], guard := none }
def of_7 : Oper := { dst := some 53, op := Op.build 35 #[(0, Operand.tmp 46), (1, Operand.tmp 49), (2, Operand.tmp 52)], type := 35, pos := "ref.go:295", after := #[{ on := 0, ground := Ground.data }, { on := 3, ground := Ground.data }, { on := 6, ground := Ground.data }], guard := none }
def of_8 : Oper := { dst := some 54, op := Op.box 35 (Operand.tmp 53), type := 29, pos := "ref.go:295", after := #[{ on := 7, ground := Ground.data }], guard := none }
def of_9 : Oper := { dst := some 11, op := Op.assign (Operand.tmp 54), type := 29, pos := "ref.go:295", after := #[{ on := 8, ground := Ground.data }, { on := 0, ground := Ground.phase }, { on := 1, ground := Ground.phase }, { on := 2, ground := Ground.phase }, { on := 3, ground := Ground.phase }, { on := 4, ground := Ground.phase }, { on := 5, ground := Ground.phase }, { on := 6, ground := Ground.phase }, { on := 7, ground := Ground.phase }, { on := 8, ground := Ground.phase }], guard := none }
def rgF : Array Oper := #[of_0, of_1, of_2, of_3, of_4, of_5, of_6, of_7, of_8, of_9]
def WF : List Nat := [46, 47, 48, 49, 50, 51, 52, 53, 54, 11]
structure GF (wB : World) (L : List ByteArray) (na : Option Addr) (nc : Nat) (l : Nat → Bool) (v : Nat → Value) (w : World) : Prop where
  kp : Kp wB w
  f0 : l 0 = true → v 46 = .slice na L.length nc
  f1 : l 1 = true → v 47 = .slice na L.length nc
  f2 : l 2 = true → v 48 = .int .i64 L.length
  f3 : l 3 = true → ∃ bT, v 49 = .slice (some ⟨bT, 0, none⟩) L.length L.length ∧ wB.heap.size ≤ bT ∧ w.heap[bT]? = some (.cells (madeCells hd0.val.cells (L.length * 6)) 42 (0, 0))
  f4 : l 4 = true → v 50 = .slice na L.length nc
  f5 : l 5 = true → v 51 = .int .i64 L.length
  f6 : l 6 = true → ∃ bK, v 52 = .slice (some ⟨bK, 0, none⟩) L.length L.length ∧ wB.heap.size ≤ bK ∧ w.heap[bK]? = some (.cells (madeCells (Value.bool false).cells (L.length * 1)) 4 (0, 0))
  f7 : l 7 = true → ∃ bT bK, v 53 = .agg #[.slice na L.length nc, .slice (some ⟨bT, 0, none⟩) L.length L.length, .slice (some ⟨bK, 0, none⟩) L.length L.length] ∧ wB.heap.size ≤ bT ∧ w.heap[bT]? = some (.cells (madeCells hd0.val.cells (L.length * 6)) 42 (0, 0)) ∧ wB.heap.size ≤ bK ∧ w.heap[bK]? = some (.cells (madeCells (Value.bool false).cells (L.length * 1)) 4 (0, 0))
  f8 : l 8 = true → ∃ bb bT bK, v 54 = .pointer (some ⟨bb, 0, none⟩) ∧ wB.heap.size ≤ bb ∧ w.heap[bb]? = some (.cells #[.slice na L.length nc, .slice (some ⟨bT, 0, none⟩) L.length L.length, .slice (some ⟨bK, 0, none⟩) L.length L.length] 35 (0, 0)) ∧ wB.heap.size ≤ bT ∧ w.heap[bT]? = some (.cells (madeCells hd0.val.cells (L.length * 6)) 42 (0, 0)) ∧ wB.heap.size ≤ bK ∧ w.heap[bK]? = some (.cells (madeCells (Value.bool false).cells (L.length * 1)) 4 (0, 0))
  f9 : l 9 = true → l 8 = true ∧ v 11 = v 54
theorem GF.keep {wB : World} {L : List ByteArray} {na : Option Addr} {nc : Nat} {l : Nat → Bool} {v : Nat → Value} {w w' : World} (G : GF wB L na nc l v w) (k : Kp w w') : GF wB L na nc l v w' where
  kp := G.kp.trans k
  f0 := G.f0
  f1 := G.f1
  f2 := G.f2
  f3 := fun e => let ⟨g, a, b, c⟩ := G.f3 e; ⟨g, a, b, (k.blk (Array.getElem?_eq_some_iff.1 c).1).trans c⟩
  f4 := G.f4
  f5 := G.f5
  f6 := fun e => let ⟨g, a, b, c⟩ := G.f6 e; ⟨g, a, b, (k.blk (Array.getElem?_eq_some_iff.1 c).1).trans c⟩
  f7 := fun e => let ⟨g, g', a, b, c, d, x⟩ := G.f7 e; ⟨g, g', a, b, (k.blk (Array.getElem?_eq_some_iff.1 c).1).trans c, d, (k.blk (Array.getElem?_eq_some_iff.1 x).1).trans x⟩
  f8 := fun e => let ⟨g, g', g2, a, b, c, d, x, y, z⟩ := G.f8 e; ⟨g, g', g2, a, b, (k.blk (Array.getElem?_eq_some_iff.1 c).1).trans c, d, (k.blk (Array.getElem?_eq_some_iff.1 x).1).trans x, y, (k.blk (Array.getElem?_eq_some_iff.1 z).1).trans z⟩
  f9 := G.f9
set_option maxRecDepth 100000 in
set_option maxHeartbeats 3200000 in
theorem regF (a0 : Act) (w wB : World) {id : Nat} {Q : Exit → Act → World → Prop} (L : List ByteArray) (na : Option Addr) (nc : Nat) (hz : ∀ k ∈ WF, k < a0.tmps.size) (hk : Kp wB w) (eN : a0.eval (.tmp 0) = .slice na L.length nc) (hl104 : L.length * 104 ≤ 281474976710656)
    (hend : ∀ (v : Nat → Value) (w' : World) (bb bT bK : Nat), Kp wB w' → v 11 = .pointer (some ⟨bb, 0, none⟩) → wB.heap.size ≤ bb → wB.heap.size ≤ bT → wB.heap.size ≤ bK → w'.heap[bb]? = some (.cells #[.slice na L.length nc, .slice (some ⟨bT, 0, none⟩) L.length L.length, .slice (some ⟨bK, 0, none⟩) L.length L.length] 35 (0, 0)) → w'.heap[bT]? = some (.cells (madeCells hd0.val.cells (L.length * 6)) 42 (0, 0)) → w'.heap[bK]? = some (.cells (madeCells (Value.bool false).cells (L.length * 1)) 4 (0, 0)) → Q .normal (WF.foldl (fun b k => b.put (some k) (v k)) a0) w') :
    (Code.region id rgF true).wp Try.prog Q a0 w := by
  have HEND := Lib.hid hend
  clear hend
  obtain ⟨i0, hi, hz0, hz1, hz2⟩ := info_parts infoT
  obtain ⟨i1, hj, hy0, hy1, hy2⟩ := info_parts infoBo
  have hmT : ∀ W : World, (Instr.makeSlice 23 (.int .i64 L.length) (.int .i64 L.length)).run Try.prog W = .ok (.slice (some ⟨W.heap.size, 0, none⟩) L.length L.length) (W.alloc (.cells (madeCells hd0.val.cells (L.length * 6)) 42)) := fun W => by
    have := run_make (P := Try.prog) W 23 42 i0 hd0.val Try.underlying23 hi hz0 .i64 .i64 L.length L.length (by omega) (Int.le_refl _) (by rw [hz2]; omega) (by omega)
    simp only [Int.toNat_natCast, hz1] at this
    exact this
  have hmK : ∀ W : World, (Instr.makeSlice 24 (.int .i64 L.length) (.int .i64 L.length)).run Try.prog W = .ok (.slice (some ⟨W.heap.size, 0, none⟩) L.length L.length) (W.alloc (.cells (madeCells (Value.bool false).cells (L.length * 1)) 4)) := fun W => by
    have := run_make (P := Try.prog) W 24 4 i1 (.bool false) Try.underlying24 hj hy0 .i64 .i64 L.length L.length (by omega) (Int.le_refl _) (by rw [hy2]; omega) (by omega)
    simp only [Int.toNat_natCast, hy1] at this
    exact this
  refine wp_region_inv (by kernel_rfl) (fun l a w => ∃ v, Slots a0 WF v a ∧ GF wB L na nc l v w) (edges_back (by kernel_rfl)) ⟨_, Slots.start a0 _, ?_⟩ ?_ ?_
  · exact ⟨hk.drew, (fun e => by cases e), (fun e => by cases e), (fun e => by cases e), (fun e => by cases e), (fun e => by cases e), (fun e => by cases e), (fun e => by cases e), (fun e => by cases e), (fun e => by cases e), (fun e => by cases e)⟩
  · intro i o l a w1 ho hl hd ⟨v, hS, hG⟩
    match i, ho, hl with
    | 0, ho, hl =>
      obtain rfl : of_0 = o := Option.some.inj ho
      refine wpOp_step ho (fun K hK => ?_)
      refine step_go rfl ?_
      have e0 := (hS.old (k := 0) (by decide)).trans eN
      refine step_val (w' := w1) (.slice na L.length nc) (by simp [execOp, of_0, e0]) (hK _ _ ⟨_, hS.put (by decide) hz _, ?_⟩)
      exact ⟨hG.kp, fun _ => rfl, hG.f1, hG.f2, hG.f3, hG.f4, hG.f5, hG.f6, hG.f7, hG.f8, hG.f9⟩
    | 1, ho, hl =>
      obtain rfl : of_1 = o := Option.some.inj ho
      refine wpOp_step ho (fun K hK => ?_)
      refine step_go rfl ?_
      have e0 := (hS.old (k := 0) (by decide)).trans eN
      refine step_val (w' := w1) (.slice na L.length nc) (by simp [execOp, of_1, e0]) (hK _ _ ⟨_, hS.put (by decide) hz _, ?_⟩)
      exact ⟨hG.kp, hG.f0, fun _ => rfl, hG.f2, hG.f3, hG.f4, hG.f5, hG.f6, hG.f7, hG.f8, hG.f9⟩
    | 2, ho, hl =>
      obtain rfl : of_2 = o := Option.some.inj ho
      refine wpOp_step ho (fun K hK => ?_)
      refine step_go rfl ?_
      have x0 := (hS.ev 47 (by decide)).trans (hG.f1 (hd ⟨1, .data⟩ (by simp [of_2]) rfl))
      refine step_val (w' := w1) (.int .i64 L.length) (by have x0b : a.tmps[47]?.getD undef = .slice na L.length nc := (by simpa [Act.eval] using x0); simp [execOp, of_2, x0b, resolve, invoke, builtin, Builtin.len_, go_sem, Result.andThen]) (hK _ _ ⟨_, hS.put (by decide) hz _, ?_⟩)
      exact ⟨hG.kp, hG.f0, hG.f1, fun _ => rfl, hG.f3, hG.f4, hG.f5, hG.f6, hG.f7, hG.f8, hG.f9⟩
    | 3, ho, hl =>
      obtain rfl : of_3 = o := Option.some.inj ho
      refine wpOp_step ho (fun K hK => ?_)
      refine step_go rfl ?_
      have x0 := (hS.ev 48 (by decide)).trans (hG.f2 (hd ⟨2, .data⟩ (by simp [of_3]) rfl))
      refine step_val (w' := w1.alloc (.cells (madeCells hd0.val.cells (L.length * 6)) 42)) (.slice (some ⟨w1.heap.size, 0, none⟩) L.length L.length) (by simp [execOp, of_3, x0, hmT, Result.andThen]) (hK _ _ ⟨_, hS.put (by decide) hz _, ?_⟩)
      have hG' := hG.keep ((Kp.refl w1).alloc (.cells (madeCells hd0.val.cells (L.length * 6)) 42))
      exact ⟨hG'.kp, hG'.f0, hG'.f1, hG'.f2, fun _ => ⟨w1.heap.size, rfl, hG.kp.sz, heap_alloc_new _ _⟩, hG'.f4, hG'.f5, hG'.f6, hG'.f7, hG'.f8, hG'.f9⟩
    | 4, ho, hl =>
      obtain rfl : of_4 = o := Option.some.inj ho
      refine wpOp_step ho (fun K hK => ?_)
      refine step_go rfl ?_
      have e0 := (hS.old (k := 0) (by decide)).trans eN
      refine step_val (w' := w1) (.slice na L.length nc) (by simp [execOp, of_4, e0]) (hK _ _ ⟨_, hS.put (by decide) hz _, ?_⟩)
      exact ⟨hG.kp, hG.f0, hG.f1, hG.f2, hG.f3, fun _ => rfl, hG.f5, hG.f6, hG.f7, hG.f8, hG.f9⟩
    | 5, ho, hl =>
      obtain rfl : of_5 = o := Option.some.inj ho
      refine wpOp_step ho (fun K hK => ?_)
      refine step_go rfl ?_
      have x0 := (hS.ev 50 (by decide)).trans (hG.f4 (hd ⟨4, .data⟩ (by simp [of_5]) rfl))
      refine step_val (w' := w1) (.int .i64 L.length) (by have x0b : a.tmps[50]?.getD undef = .slice na L.length nc := (by simpa [Act.eval] using x0); simp [execOp, of_5, x0b, resolve, invoke, builtin, Builtin.len_, go_sem, Result.andThen]) (hK _ _ ⟨_, hS.put (by decide) hz _, ?_⟩)
      exact ⟨hG.kp, hG.f0, hG.f1, hG.f2, hG.f3, hG.f4, fun _ => rfl, hG.f6, hG.f7, hG.f8, hG.f9⟩
    | 6, ho, hl =>
      obtain rfl : of_6 = o := Option.some.inj ho
      refine wpOp_step ho (fun K hK => ?_)
      refine step_go rfl ?_
      have x0 := (hS.ev 51 (by decide)).trans (hG.f5 (hd ⟨5, .data⟩ (by simp [of_6]) rfl))
      refine step_val (w' := w1.alloc (.cells (madeCells (Value.bool false).cells (L.length * 1)) 4)) (.slice (some ⟨w1.heap.size, 0, none⟩) L.length L.length) (by simp [execOp, of_6, x0, hmK, Result.andThen]) (hK _ _ ⟨_, hS.put (by decide) hz _, ?_⟩)
      have hG' := hG.keep ((Kp.refl w1).alloc (.cells (madeCells (Value.bool false).cells (L.length * 1)) 4))
      exact ⟨hG'.kp, hG'.f0, hG'.f1, hG'.f2, hG'.f3, hG'.f4, hG'.f5, fun _ => ⟨w1.heap.size, rfl, hG.kp.sz, heap_alloc_new _ _⟩, hG'.f7, hG'.f8, hG'.f9⟩
    | 7, ho, hl =>
      obtain rfl : of_7 = o := Option.some.inj ho
      refine wpOp_step ho (fun K hK => ?_)
      refine step_go rfl ?_
      obtain ⟨bT, e3, b3, h3⟩ := hG.f3 (hd ⟨3, .data⟩ (by simp [of_7]) rfl)
      obtain ⟨bK, e6, b6, h6⟩ := hG.f6 (hd ⟨6, .data⟩ (by simp [of_7]) rfl)
      have x0 := (hS.ev 46 (by decide)).trans (hG.f0 (hd ⟨0, .data⟩ (by simp [of_7]) rfl))
      have x1 := (hS.ev 49 (by decide)).trans e3
      have x2 := (hS.ev 52 (by decide)).trans e6
      refine step_val (w' := w1) (.agg #[.slice na L.length nc, .slice (some ⟨bT, 0, none⟩) L.length L.length, .slice (some ⟨bK, 0, none⟩) L.length L.length]) (by simp [execOp, of_7, x0, x1, x2, run_build w1 35 _ _ (show Try.prog.built 35 #[(0, Value.slice na L.length nc), (1, Value.slice (some ⟨bT, 0, none⟩) L.length L.length), (2, Value.slice (some ⟨bK, 0, none⟩) L.length L.length)].toList = some #[Value.slice na L.length nc, Value.slice (some ⟨bT, 0, none⟩) L.length L.length, Value.slice (some ⟨bK, 0, none⟩) L.length L.length] by kernel_rfl), Result.andThen]) (hK _ _ ⟨_, hS.put (by decide) hz _, ?_⟩)
      exact ⟨hG.kp, hG.f0, hG.f1, hG.f2, hG.f3, hG.f4, hG.f5, hG.f6, fun _ => ⟨bT, bK, rfl, b3, h3, b6, h6⟩, hG.f8, hG.f9⟩
    | 8, ho, hl =>
      obtain rfl : of_8 = o := Option.some.inj ho
      refine wpOp_step ho (fun K hK => ?_)
      refine step_go rfl ?_
      obtain ⟨bT, bK, e7, b3, h3, b6, h6⟩ := hG.f7 (hd ⟨7, .data⟩ (by simp [of_8]) rfl)
      have x0 := (hS.ev 53 (by decide)).trans e7
      refine step_val (w' := w1.alloc (.cells #[.slice na L.length nc, .slice (some ⟨bT, 0, none⟩) L.length L.length, .slice (some ⟨bK, 0, none⟩) L.length L.length] 35)) (.pointer (some ⟨w1.heap.size, 0, none⟩)) (by have x0b := x0; simp only [Act.eval] at x0b; simp [execOp, of_8, x0b, Instr.box, newVar, go_sem, Result.andThen]) (hK _ _ ⟨_, hS.put (by decide) hz _, ?_⟩)
      have ka : Kp w1 (w1.alloc (.cells #[.slice na L.length nc, .slice (some ⟨bT, 0, none⟩) L.length L.length, .slice (some ⟨bK, 0, none⟩) L.length L.length] 35)) := (Kp.refl w1).alloc _
      have hG' := hG.keep ka
      exact ⟨hG'.kp, hG'.f0, hG'.f1, hG'.f2, hG'.f3, hG'.f4, hG'.f5, hG'.f6, hG'.f7, fun _ => ⟨w1.heap.size, bT, bK, rfl, hG.kp.sz, heap_alloc_new _ _, b3, (ka.blk (Array.getElem?_eq_some_iff.1 h3).1).trans h3, b6, (ka.blk (Array.getElem?_eq_some_iff.1 h6).1).trans h6⟩, fun e => absurd ((hG.f9 e).1.symm.trans hl) (by decide)⟩
    | 9, ho, hl =>
      obtain rfl : of_9 = o := Option.some.inj ho
      refine wpOp_step ho (fun K hK => ?_)
      refine step_go rfl ?_
      have d0 := (hd ⟨8, .data⟩ (by simp [of_9]) rfl)
      have x0 := (hS.ev 54 (by decide))
      refine step_val (w' := w1) (v 54) (by simp [execOp, of_9, x0]) (hK _ _ ⟨_, hS.put (by decide) hz _, ?_⟩)
      exact ⟨hG.kp, hG.f0, hG.f1, hG.f2, hG.f3, hG.f4, hG.f5, hG.f6, hG.f7, hG.f8, fun _ => ⟨d0, rfl⟩⟩
    | i + 10, ho, hl => exact absurd ho (by simp [rgF])
  · intro l a w1 hall ⟨v, hS, hG⟩
    obtain ⟨bb, bT, bK, e8, b8, h8, b3, h3, b6, h6⟩ := hG.f8 (hall 8 (by decide))
    have e9 := (hG.f9 (hall 9 (by decide))).2
    rw [hS.refit hz]
    exact HEND.out v w1 bb bT bK hG.kp (e9.trans e8) b8 b3 b6 h8 h3 h6
theorem uAt_0 {L : List ByteArray} {As Bs : List Ty} {q : Int} (h : uE L As Bs = q) (hq : q ≠ 9) : uAt L As Bs = 0 := by unfold uAt; rw [h, if_neg hq]
/-- The record with nothing known. -/
theorem BdE.start {bb bT bK : Nat} {L : List ByteArray} {na : Option Addr} {nc : Nat} {w : World} (hb : w.heap[bb]? = some (.cells #[.slice na L.length nc, .slice (some ⟨bT, 0, none⟩) L.length L.length, .slice (some ⟨bK, 0, none⟩) L.length L.length] 35 (0, 0))) (hT : w.heap[bT]? = some (.cells (madeCells hd0.val.cells (L.length * 6)) 42 (0, 0))) (hK : w.heap[bK]? = some (.cells (madeCells (Value.bool false).cells (L.length * 1)) 4 (0, 0))) (ht : tab w (OffB bT bK) 9 na L.length nc 1 (fun i => [.string (L.getD i ByteArray.empty)])) : BdE bb bT bK L na nc σ0 w := by
  have n1 : bb ≠ bT := fun e => by rw [e, hT] at hb; injection hb with hb; injection hb with h1 h2; cases h2
  have n2 : bb ≠ bK := fun e => by rw [e, hK] at hb; injection hb with hb; injection hb with h1 h2; cases h2
  have n3 : bT ≠ bK := fun e => by rw [e, hK] at hT; injection hT with hT; injection hT with h1 h2; cases h2
  refine ⟨by rw [cell_of_row _ _ _ _ _ _ hb]; rfl, by rw [cell_of_row _ _ _ _ _ _ hb]; rfl, by rw [cell_of_row _ _ _ _ _ _ hb]; rfl, n1, n2, n3, ht, ⟨_, hT, by rw [size_madeCells]; omega⟩, ⟨_, hK, by rw [size_madeCells]; omega⟩, fun n s hn hs => ⟨⟨hd0, fun j v hv => ?_, .inl ⟨rfl, rfl⟩⟩, ?_⟩⟩
  · have hj : j < 6 := by have := (List.getElem?_eq_some_iff.1 hv).1; rw [Hd.cells_len] at this; exact this
    rw [cell_of_row _ _ _ _ _ _ hT, made_at (by omega)]
    have e : (n * 6 + j) % hd0.val.cells.size = j := by show (n * 6 + j) % 6 = j; omega
    rw [e]
    match j, hj with
    | 0, _ => exact hv
    | 1, _ => exact hv
    | 2, _ => exact hv
    | 3, _ => exact hv
    | 4, _ => exact hv
    | 5, _ => exact hv
  · rw [cell_of_row _ _ _ _ _ _ hK, made_at (by omega)]
    have e : n % (Value.bool false).cells.size = 0 := by show n % 1 = 0; omega
    rw [e]
    rfl
/-- What Find answers. -/
noncomputable def FindP (L : List ByteArray) (na : Option Addr) (nc : Nat) (As Bs : List Ty) (w : World) (e : Ending) (w' : World) : Prop :=
  Kp w w' ∧ ((uE L As Bs ≠ 0 ∧ e = .returned (.tuple #[.pointer none, .int .i64 (uAt L As Bs : Nat), .int .i64 (uE L As Bs)])) ∨
    ∃ bb bT bK σ, uE L As Bs = 0 ∧ e = .returned (.tuple #[.pointer (some ⟨bb, 0, none⟩), .int .i64 0, .int .i64 0]) ∧ found L As Bs = some σ ∧ BdE bb bT bK L na nc σ w')
set_option maxHeartbeats 25600000 in
set_option maxRecDepth 100000 in
theorem c_Find (L : List ByteArray) (na : Option Addr) (nc : Nat) (S : Sel) (R R' : Nat) (As Bs : List Ty) (aa : Option Addr) (ac : Nat) (ba : Option Addr) (bc : Nat) (K J : Nat → Hd) (w : World)
    (ht : tab w S 9 na L.length nc 1 (fun i => [.string (L.getD i ByteArray.empty)])) (hlc : L.length ≤ nc) (hlL : L.length * 16 ≤ 140737488351232) (hl104 : L.length * 104 ≤ 281474976710656)
    (hA : LiesAll w A0 R As aa ac K) (hlA : As.length * 104 ≤ 140737488351232) (hB : LiesAll w A0 R' Bs ba bc J) (hlB : Bs.length * 104 ≤ 140737488351232) :
    Calls Try.prog 11 #[.slice na L.length nc, .slice aa As.length ac, .slice ba Bs.length bc] w (FindP L na nc As Bs w) := by
  have HT := Lib.hid ht
  have HA := Lib.hid hA
  have HB := Lib.hid hB
  have CTW := Lib.hid (fun W (k : Kp w W) => c_Twice W S na nc L (ht.keep k) hlc hlL)
  clear ht hA hB
  go_enter Try.func11, Try.ntmps11
  go_wp2_with fail
  go_loopw [9] (fun i wr => ∃ n : Nat, n ≤ As.length ∧ i = .int .i64 n ∧ (∀ j X, j < n → As[j]? = some X → (look 9 X).2.2 = true) ∧ Kp w wr) (fun i _ => As.length - (intOf i).toNat)
  case atStart => exact ⟨0, Nat.zero_le _, rfl, fun j X hj => absurd hj (by omega), Kp.refl _⟩
  case round =>
    obtain ⟨n, hn, rfl, hok, hkr⟩ := hrel
    have HOK1 := Lib.hid hok
    have HKR := Lib.hid hkr
    clear hok hkr
    by_cases hlt : n < As.length
    · obtain ⟨b, o, ha, hr⟩ := HA.out.1.at (by omega)
      have HAA := Lib.hid ha
      have HR := Lib.hid (hr n hlt)
      clear ha hr
      obtain ⟨X, hX⟩ : ∃ X, As[n]? = some X := ⟨_, List.getElem?_eq_getElem hlt⟩
      have HX := Lib.hid hX
      clear hX
      have CC := Lib.hid (fun W (k : Kp w W) => c_Sound R X (K n) W ((HA.out.2 n X HX.out).keep k))
      cases hs : (look 9 X).2.2 with
      | false =>
        have HE := Lib.hid (uE_form (L := L) (As := As) (Bs := Bs) (by rw [allS_no HX.out hs]; simp))
        go_wp2_with (first | ((with_reducible show wpList _ _ _ (⟨some 21, _, _, _, _, _⟩ :: _) _ _); refine wpList_index_tab (d := 21) _ _ _ rfl 42 Try.underlying23 6 rfl _ _ _ _ o (by rfl) HAA.out n (by rfl) hlt ?_) | ((with_reducible show wpList _ _ _ (⟨some 22, _, _, _, _, _⟩ :: _) _ _); refine wpList_load_ty (d := 22) _ _ rfl _ Try.underlying42 w _ _ b (o + n * 6) (by rfl) rfl (by first | rfl | omega) (K n) HR.out HKR.out rfl ?_) | (go_at_call 21; (with_reducible refine (CC.out _ HKR.out).mono ?_); rintro e w6 ⟨rfl, hk6⟩; rw [hs]))
        refine bodyPost_ret (v := .tuple #[.pointer none, .int .i64 0, .int .i64 1]) (by simp [results, Try.results11, go_sem]) rfl ?_
        exact ⟨HKR.out.trans hk6, .inl ⟨by rw [HE.out]; decide, by rw [HE.out, uAt_0 HE.out (by decide)]; rfl⟩⟩
      | true =>
        have HS := Lib.hid hs
        go_wp2_with (first | ((with_reducible show wpList _ _ _ (⟨some 21, _, _, _, _, _⟩ :: _) _ _); refine wpList_index_tab (d := 21) _ _ _ rfl 42 Try.underlying23 6 rfl _ _ _ _ o (by rfl) HAA.out n (by rfl) hlt ?_) | ((with_reducible show wpList _ _ _ (⟨some 22, _, _, _, _, _⟩ :: _) _ _); refine wpList_load_ty (d := 22) _ _ rfl _ Try.underlying42 w _ _ b (o + n * 6) (by rfl) rfl (by first | rfl | omega) (K n) HR.out HKR.out rfl ?_) | (go_at_call 21; (with_reducible refine (CC.out _ HKR.out).mono ?_); rintro e w6 ⟨rfl, hk6⟩; rw [hs]))
        go_roundw
        case rel => exact ⟨n + 1, by omega, by go_num, fun j Y hj hY => by
          by_cases e : j = n
          · subst e; rw [HX.out] at hY; cases hY; exact HS.out
          · exact HOK1.out j Y (by omega) hY, HKR.out.trans hk6⟩
        case measure => simp [intOf]; omega
    · obtain rfl : n = As.length := by omega
      have hz1 : ¬ ((As.length : Int) < (As.length : Int)) := by omega
      have S1 := Lib.hid (show allS As = true from List.all_eq_true.2 (fun X hX => by obtain ⟨j, hj, e⟩ := List.mem_iff_getElem.1 hX; exact HOK1.out j X hj (by rw [List.getElem?_eq_getElem hj, e])))
      go_wp2_with fail
      go_loopw [10] (fun i wr => ∃ n : Nat, n ≤ Bs.length ∧ i = .int .i64 n ∧ (∀ j X, j < n → Bs[j]? = some X → (look 9 X).2.2 = true) ∧ Kp w wr) (fun i _ => Bs.length - (intOf i).toNat)
      case atStart => exact ⟨0, Nat.zero_le _, rfl, fun j X hj => absurd hj (by omega), HKR.out⟩
      case round =>
        obtain ⟨n, hn, rfl, hok, hkr⟩ := hrel
        have HOK2 := Lib.hid hok
        have HKR := Lib.hid hkr
        clear hok hkr
        by_cases hlt : n < Bs.length
        · obtain ⟨b, o, ha, hr⟩ := HB.out.1.at (by omega)
          have HAA := Lib.hid ha
          have HR := Lib.hid (hr n hlt)
          clear ha hr
          obtain ⟨X, hX⟩ : ∃ X, Bs[n]? = some X := ⟨_, List.getElem?_eq_getElem hlt⟩
          have HX := Lib.hid hX
          clear hX
          have CC := Lib.hid (fun W (k : Kp w W) => c_Sound R' X (J n) W ((HB.out.2 n X HX.out).keep k))
          cases hs : (look 9 X).2.2 with
          | false =>
            have HE := Lib.hid (uE_form (L := L) (As := As) (Bs := Bs) (by rw [allS_no HX.out hs]; simp))
            go_wp2_with (first | ((with_reducible show wpList _ _ _ (⟨some 33, _, _, _, _, _⟩ :: _) _ _); refine wpList_index_tab (d := 33) _ _ _ rfl 42 Try.underlying23 6 rfl _ _ _ _ o (by rfl) HAA.out n (by rfl) hlt ?_) | ((with_reducible show wpList _ _ _ (⟨some 34, _, _, _, _, _⟩ :: _) _ _); refine wpList_load_ty (d := 34) _ _ rfl _ Try.underlying42 w _ _ b (o + n * 6) (by rfl) rfl (by first | rfl | omega) (J n) HR.out HKR.out rfl ?_) | (go_at_call 21; (with_reducible refine (CC.out _ HKR.out).mono ?_); rintro e w6 ⟨rfl, hk6⟩; rw [hs]))
            refine bodyPost_ret (v := .tuple #[.pointer none, .int .i64 0, .int .i64 1]) (by simp [results, Try.results11, go_sem]) rfl ?_
            exact ⟨HKR.out.trans hk6, .inl ⟨by rw [HE.out]; decide, by rw [HE.out, uAt_0 HE.out (by decide)]; rfl⟩⟩
          | true =>
            have HS := Lib.hid hs
            go_wp2_with (first | ((with_reducible show wpList _ _ _ (⟨some 33, _, _, _, _, _⟩ :: _) _ _); refine wpList_index_tab (d := 33) _ _ _ rfl 42 Try.underlying23 6 rfl _ _ _ _ o (by rfl) HAA.out n (by rfl) hlt ?_) | ((with_reducible show wpList _ _ _ (⟨some 34, _, _, _, _, _⟩ :: _) _ _); refine wpList_load_ty (d := 34) _ _ rfl _ Try.underlying42 w _ _ b (o + n * 6) (by rfl) rfl (by first | rfl | omega) (J n) HR.out HKR.out rfl ?_) | (go_at_call 21; (with_reducible refine (CC.out _ HKR.out).mono ?_); rintro e w6 ⟨rfl, hk6⟩; rw [hs]))
            go_roundw
            case rel => exact ⟨n + 1, by omega, by go_num, fun j Y hj hY => by
              by_cases e : j = n
              · subst e; rw [HX.out] at hY; cases hY; exact HS.out
              · exact HOK2.out j Y (by omega) hY, HKR.out.trans hk6⟩
            case measure => simp [intOf]; omega
        · obtain rfl : n = Bs.length := by omega
          have hz2 : ¬ ((Bs.length : Int) < (Bs.length : Int)) := by omega
          have S2 := Lib.hid (show allS Bs = true from List.all_eq_true.2 (fun X hX => by obtain ⟨j, hj, e⟩ := List.mem_iff_getElem.1 hX; exact HOK2.out j X hj (by rw [List.getElem?_eq_getElem hj, e])))
          have HYES := Lib.hid (show (allS As && allS Bs) = true by rw [S1.out, S2.out]; rfl)
          by_cases hnd : L.Nodup
          case neg =>
            have htw := twB_yes hnd
            have HE := Lib.hid (uE_arg (L := L) HYES.out (fun q => hnd q.1))
            clear hnd
            go_wp2_with (first | (go_at_call 24; (with_reducible refine (CTW.out _ HKR.out).mono ?_); rintro e w4 ⟨rfl, hk4⟩; rw [htw]; have K4 := Lib.hid (HKR.out.trans hk4); clear hk4))
            refine bodyPost_ret (v := .tuple #[.pointer none, .int .i64 0, .int .i64 2]) (by simp [results, Try.results11, go_sem]) rfl ?_
            exact ⟨K4.out, .inl ⟨by rw [HE.out]; decide, by rw [HE.out, uAt_0 HE.out (by decide)]; rfl⟩⟩
          have htw := twB_no hnd
          by_cases hln : As.length = Bs.length
          case neg =>
            have HE := Lib.hid (uE_arg (L := L) HYES.out (fun q => hln q.2))
            have hne : ((As.length : Int) != (Bs.length : Int)) = true := by simp; omega
            clear hnd hln
            go_wp2_with (first | (go_at_call 24; (with_reducible refine (CTW.out _ HKR.out).mono ?_); rintro e w4 ⟨rfl, hk4⟩; rw [htw]; have K4 := Lib.hid (HKR.out.trans hk4); clear hk4))
            refine bodyPost_ret (v := .tuple #[.pointer none, .int .i64 0, .int .i64 2]) (by simp [results, Try.results11, go_sem]) rfl ?_
            exact ⟨K4.out, .inl ⟨by rw [HE.out]; decide, by rw [HE.out, uAt_0 HE.out (by decide)]; rfl⟩⟩
          have HND := Lib.hid (show L.Nodup ∧ As.length = Bs.length from ⟨hnd, hln⟩)
          have hne : ((As.length : Int) != (Bs.length : Int)) = false := by simp; omega
          have hle : As.length ≤ Bs.length := by omega
          have hle' : Bs.length ≤ As.length := by omega
          clear hnd hln
          go_wp2_with (first | (go_at_call 24; (with_reducible refine (CTW.out _ HKR.out).mono ?_); rintro e w4 ⟨rfl, hk4⟩; rw [htw]; have K4 := Lib.hid (HKR.out.trans hk4); clear hk4))
          refine regF _ w4 w4 L na nc (by simp [WF]) (Kp.refl _) rfl (by omega) ?_
          intro v w5 bb bT bK hk5 e11 b8 b3 b6 h8 h3 h6
          simp only [WF, List.foldl, Act.put, List.setIfInBounds_toArray, List.set_cons_zero, List.set_cons_succ]
          rw [e11]
          have KW5 := Lib.hid (K4.out.trans hk5)
          have hbT : w.heap.size ≤ bT := Nat.le_trans K4.out.sz b3
          have hbK : w.heap.size ≤ bK := Nat.le_trans K4.out.sz b6
          have BE0 := Lib.hid (BdE.start h8 h3 h6 (((HT.out.weak (A0_le _)).offB hbT hbK).keep KW5.out))
          have HA5 := Lib.hid ((HA.out.offB hbT hbK).keep KW5.out)
          have HB5 := Lib.hid ((HB.out.offB hbT hbK).keep KW5.out)
          clear hk5 b8 b3 b6 h8 h3 h6 hz1 hz2
          go_wp2_with fail
          go_loopw [12] (fun i wr => ∃ n : Nat, n ≤ As.length ∧ i = .int .i64 n ∧ Mb bT bK w5 wr ∧ ∃ σn, walkK (mtch L 9) σ0 (As.take n) (Bs.take n) = some σn ∧ BdE bb bT bK L na nc σn wr) (fun i _ => As.length - (intOf i).toNat)
          case atStart => exact ⟨0, Nat.zero_le _, rfl, Mb.refl _ _ _, σ0, rfl, BE0.out⟩
          case round =>
            obtain ⟨n, hn, rfl, hmr, σn, hw, hbe⟩ := hrel
            have HMR := Lib.hid hmr
            have HW := Lib.hid hw
            have BE := Lib.hid hbe
            clear hmr hw hbe
            by_cases hlt : n < As.length
            · have hltB : n < Bs.length := by omega
              obtain ⟨X, hX⟩ : ∃ X, As[n]? = some X := ⟨_, List.getElem?_eq_getElem hlt⟩
              obtain ⟨Y, hY⟩ : ∃ Y, Bs[n]? = some Y := ⟨_, List.getElem?_eq_getElem hltB⟩
              have HX := Lib.hid hX
              have HY := Lib.hid hY
              clear hX hY
              obtain ⟨ta, to, hta, nat, nak, hxr⟩ := (HA5.out.mb HMR.out).1.atB (by omega)
              obtain ⟨tb, tp, htb, nbt, nbk, hyr⟩ := (HB5.out.mb HMR.out).1.atB (by omega)
              subst hta
              subst htb
              have x0 : wr.cell? ⟨ta, to + n * 6, none⟩ = some (.int .i64 (K n).k) := hxr n hlt 0 _ rfl
              have x1 : wr.cell? ⟨ta, to + n * 6 + 1, none⟩ = some (.string (K n).nm) := hxr n hlt 1 _ rfl
              have x2 : wr.cell? ⟨ta, to + n * 6 + 2, none⟩ = some (.int .i64 (K n).con) := hxr n hlt 2 _ rfl
              have x3 : wr.cell? ⟨ta, to + n * 6 + 3, none⟩ = some (.slice (K n).fa (K n).fl (K n).fc) := hxr n hlt 3 _ rfl
              have x4 : wr.cell? ⟨ta, to + n * 6 + 4, none⟩ = some (.slice (K n).la (K n).ll (K n).lc) := hxr n hlt 4 _ rfl
              have x5 : wr.cell? ⟨ta, to + n * 6 + 5, none⟩ = some (.slice (K n).ra (K n).rl (K n).rc) := hxr n hlt 5 _ rfl
              have y0 : wr.cell? ⟨tb, tp + n * 6, none⟩ = some (.int .i64 (J n).k) := hyr n hltB 0 _ rfl
              have y1 : wr.cell? ⟨tb, tp + n * 6 + 1, none⟩ = some (.string (J n).nm) := hyr n hltB 1 _ rfl
              have y2 : wr.cell? ⟨tb, tp + n * 6 + 2, none⟩ = some (.int .i64 (J n).con) := hyr n hltB 2 _ rfl
              have y3 : wr.cell? ⟨tb, tp + n * 6 + 3, none⟩ = some (.slice (J n).fa (J n).fl (J n).fc) := hyr n hltB 3 _ rfl
              have y4 : wr.cell? ⟨tb, tp + n * 6 + 4, none⟩ = some (.slice (J n).la (J n).ll (J n).lc) := hyr n hltB 4 _ rfl
              have y5 : wr.cell? ⟨tb, tp + n * 6 + 5, none⟩ = some (.slice (J n).ra (J n).rl (J n).rc) := hyr n hltB 5 _ rfl
              clear hxr hyr
              have j1 : (0 : Int) ≤ n := by omega
              have j2 : (n : Int) < As.length := by omega
              have j3 : (n : Int) < Bs.length := by omega
              have CX := Lib.hid (c_Match bb bT bK L na nc hlL HND.out.1 9 R R' (Nat.le_refl _) X Y (K n) (J n) σn wr.drew (BE.out.keep (Kp.refl wr).drew) (((HA5.out.mb HMR.out).2 n X HX.out).mb (Kp.refl wr).drew.mb) (((HB5.out.mb HMR.out).2 n Y HY.out).mb (Kp.refl wr).drew.mb) (allS_at S1.out HX.out) (allS_at S2.out HY.out))
              cases c9 : mtch L 9 σn X Y with
              | none =>
                have HC := Lib.hid c9
                have HF := Lib.hid (show found L As Bs = none from walkK_stop (n := n + 1) (by rw [walkK_succ HX.out HY.out, HW.out]; exact c9) (by omega) (by omega))
                have HE := Lib.hid (uE_type HYES.out HND.out HF.out)
                have HAT := Lib.hid (show uAt L As Bs = n by unfold uAt; rw [HE.out, if_pos rfl]; exact firstNo_at HW.out HX.out HY.out c9)
                clear c9
                go_wp2_with fail
                go_region_held3 (fun w' => w'.cell? ⟨ta, to + n * 6, none⟩ = some (.int .i64 (K n).k) ∧ w'.cell? ⟨ta, to + n * 6 + 1, none⟩ = some (.string (K n).nm) ∧ w'.cell? ⟨ta, to + n * 6 + 2, none⟩ = some (.int .i64 (K n).con) ∧ w'.cell? ⟨ta, to + n * 6 + 3, none⟩ = some (.slice (K n).fa (K n).fl (K n).fc) ∧ w'.cell? ⟨ta, to + n * 6 + 4, none⟩ = some (.slice (K n).la (K n).ll (K n).lc) ∧ w'.cell? ⟨ta, to + n * 6 + 5, none⟩ = some (.slice (K n).ra (K n).rl (K n).rc) ∧ w'.cell? ⟨tb, tp + n * 6, none⟩ = some (.int .i64 (J n).k) ∧ w'.cell? ⟨tb, tp + n * 6 + 1, none⟩ = some (.string (J n).nm) ∧ w'.cell? ⟨tb, tp + n * 6 + 2, none⟩ = some (.int .i64 (J n).con) ∧ w'.cell? ⟨tb, tp + n * 6 + 3, none⟩ = some (.slice (J n).fa (J n).fl (J n).fc) ∧ w'.cell? ⟨tb, tp + n * 6 + 4, none⟩ = some (.slice (J n).la (J n).ll (J n).lc) ∧ w'.cell? ⟨tb, tp + n * 6 + 5, none⟩ = some (.slice (J n).ra (J n).rl (J n).rc))
                  (first | exact ⟨x0, x1, x2, x3, x4, x5, y0, y1, y2, y3, y4, y5⟩ | exact ⟨hm6.cellv x0 nat nak, hm6.cellv x1 nat nak, hm6.cellv x2 nat nak, hm6.cellv x3 nat nak, hm6.cellv x4 nat nak, hm6.cellv x5 nat nak, hm6.cellv y0 nbt nbk, hm6.cellv y1 nbt nbk, hm6.cellv y2 nbt nbk, hm6.cellv y3 nbt nbk, hm6.cellv y4 nbt nbk, hm6.cellv y5 nbt nbk⟩)
                  (first | (go_at_call 25; (with_reducible refine CX.out.mono ?_); intro e w6 hp6; have he := hp6.no HC.out; have hm6 := he.2; have he1 := he.1; subst he1))
                go_wp2_with fail
                refine bodyPost_ret (v := .tuple #[.pointer none, .int .i64 n, .int .i64 9]) (by simp [results, Try.results11, go_sem]) rfl ?_
                exact ⟨((HMR.out.trans (Kp.refl wr).drew.mb).trans hm6).old KW5.out hbT hbK, .inl ⟨by rw [HE.out]; decide, by rw [HE.out, HAT.out]⟩⟩
              | some σ2 =>
                have HC := Lib.hid c9
                have HN := Lib.hid (show walkK (mtch L 9) σ0 (As.take (n + 1)) (Bs.take (n + 1)) = some σ2 by rw [walkK_succ HX.out HY.out, HW.out]; exact c9)
                clear c9
                go_wp2_with fail
                go_region_held3 (fun w' => w'.cell? ⟨ta, to + n * 6, none⟩ = some (.int .i64 (K n).k) ∧ w'.cell? ⟨ta, to + n * 6 + 1, none⟩ = some (.string (K n).nm) ∧ w'.cell? ⟨ta, to + n * 6 + 2, none⟩ = some (.int .i64 (K n).con) ∧ w'.cell? ⟨ta, to + n * 6 + 3, none⟩ = some (.slice (K n).fa (K n).fl (K n).fc) ∧ w'.cell? ⟨ta, to + n * 6 + 4, none⟩ = some (.slice (K n).la (K n).ll (K n).lc) ∧ w'.cell? ⟨ta, to + n * 6 + 5, none⟩ = some (.slice (K n).ra (K n).rl (K n).rc) ∧ w'.cell? ⟨tb, tp + n * 6, none⟩ = some (.int .i64 (J n).k) ∧ w'.cell? ⟨tb, tp + n * 6 + 1, none⟩ = some (.string (J n).nm) ∧ w'.cell? ⟨tb, tp + n * 6 + 2, none⟩ = some (.int .i64 (J n).con) ∧ w'.cell? ⟨tb, tp + n * 6 + 3, none⟩ = some (.slice (J n).fa (J n).fl (J n).fc) ∧ w'.cell? ⟨tb, tp + n * 6 + 4, none⟩ = some (.slice (J n).la (J n).ll (J n).lc) ∧ w'.cell? ⟨tb, tp + n * 6 + 5, none⟩ = some (.slice (J n).ra (J n).rl (J n).rc))
                  (first | exact ⟨x0, x1, x2, x3, x4, x5, y0, y1, y2, y3, y4, y5⟩ | exact ⟨hm6.cellv x0 nat nak, hm6.cellv x1 nat nak, hm6.cellv x2 nat nak, hm6.cellv x3 nat nak, hm6.cellv x4 nat nak, hm6.cellv x5 nat nak, hm6.cellv y0 nbt nbk, hm6.cellv y1 nbt nbk, hm6.cellv y2 nbt nbk, hm6.cellv y3 nbt nbk, hm6.cellv y4 nbt nbk, hm6.cellv y5 nbt nbk⟩)
                  (first | (go_at_call 25; (with_reducible refine CX.out.mono ?_); intro e w6 hp6; have he := hp6.yes HC.out; have hm6 := he.2.1; have he1 := he.1; have hb6 := Lib.hid he.2.2; subst he1))
                go_wp2_with fail
                go_roundw
                case rel => exact ⟨n + 1, by omega, by go_num, (HMR.out.trans (Kp.refl wr).drew.mb).trans hm6, σ2, HN.out, hb6.out⟩
                case measure => simp [intOf]; omega
            · obtain rfl : n = As.length := by omega
              have hz3 : ¬ ((As.length : Int) < (As.length : Int)) := by omega
              have HF := Lib.hid (show found L As Bs = some σn by have := HW.out; rwa [List.take_length, HND.out.2, List.take_length] at this)
              have HE := Lib.hid (uE_ok HYES.out HND.out HF.out)
              go_wp2_with fail
              refine bodyPost_ret (v := .tuple #[.pointer (some ⟨bb, 0, none⟩), .int .i64 0, .int .i64 0]) (by simp [results, Try.results11, go_sem]) rfl ?_
              exact ⟨HMR.out.old KW5.out hbT hbK, .inr ⟨bb, bT, bK, σn, HE.out, rfl, HF.out, BE.out⟩⟩
theorem FindP.no {L : List ByteArray} {na : Option Addr} {nc : Nat} {As Bs : List Ty} {w w' : World} {e : Ending} (h : FindP L na nc As Bs w e w') (h0 : uE L As Bs ≠ 0) : e = .returned (.tuple #[.pointer none, .int .i64 (uAt L As Bs : Nat), .int .i64 (uE L As Bs)]) ∧ Kp w w' := by
  obtain ⟨hk, ⟨_, he⟩ | ⟨_, _, _, _, h1, _⟩⟩ := h
  · exact ⟨he, hk⟩
  · exact absurd h1 h0
theorem FindP.yes {L : List ByteArray} {na : Option Addr} {nc : Nat} {As Bs : List Ty} {w w' : World} {e : Ending} (h : FindP L na nc As Bs w e w') (h0 : uE L As Bs = 0) : ∃ bb bT bK σ, e = .returned (.tuple #[.pointer (some ⟨bb, 0, none⟩), .int .i64 0, .int .i64 0]) ∧ found L As Bs = some σ ∧ BdE bb bT bK L na nc σ w' ∧ Kp w w' := by
  obtain ⟨hk, ⟨h1, _⟩ | ⟨bb, bT, bK, σ, _, e1, e2, e3⟩⟩ := h
  · exact absurd h0 h1
  · exact ⟨bb, bT, bK, σ, e1, e2, e3, hk⟩
theorem stb_lies {bT bK : Nat} {w : World} {x : Option Ty} {hd : Hd} (h : StB bT bK w x hd) : Lies w A0 9 (x.getD tzC) hd := by
  rcases h with ⟨rfl, rfl⟩ | ⟨A, R, rfl, h2, h3⟩
  · exact hd0_liesC w _ 8
  · exact lies_look h3 h2.any
/-- What stands in the record, as a row of types. -/
theorem BdE.types {bb bT bK : Nat} {L : List ByteArray} {na : Option Addr} {nc : Nat} {σ : St} {w : World} (h : BdE bb bT bK L na nc σ w) : ∃ J, LiesAll w A0 9 (L.map fun s => (σ s).getD tzC) (some ⟨bT, 0, none⟩) L.length J := by
  have hx : ∀ n : Nat, ∃ hd : Hd, n < L.length → w.rangeAt bT (n * 6) hd.cells ∧ StB bT bK w (σ (L.getD n ByteArray.empty)) hd := fun n => by
    by_cases hn : n < L.length
    · obtain ⟨⟨hd, a, b⟩, _⟩ := h.row n _ hn rfl
      exact ⟨hd, fun _ => ⟨a, b⟩⟩
    · exact ⟨hd0, fun q => absurd q hn⟩
  obtain ⟨J, hJ⟩ := Classical.axiomOfChoice hx
  refine ⟨J, ⟨fun e => absurd e (by simp), fun _ => ⟨bT, 0, rfl, trivial, h.lt.2.1, fun q => q.elim, fun i hi => ?_⟩⟩, fun i X hX => ?_⟩
  · rw [List.length_map] at hi
    show w.rangeAt bT (0 + i * 6) (J i).cells
    rw [Nat.zero_add]
    exact (hJ i hi).1
  · have hi : i < L.length := by have := (List.getElem?_eq_some_iff.1 hX).1; rwa [List.length_map] at this
    have h2 := stb_lies (hJ i hi).2
    rw [List.getElem?_map, List.getElem?_eq_getElem hi] at hX
    rw [List.getD_eq_getElem?_getD, List.getElem?_eq_getElem hi] at h2
    have e : X = (σ L[i]).getD tzC := (Option.some.inj hX).symm
    rw [e]
    exact h2
theorem sameall_any (l : List Ty) (R R' : Nat) (aa ba : Option Addr) (ac bc : Nat) (K J : Nat → Hd) (n m : Nat) (w : World) (hn : l.length = n) (hm : l.length = m) (hs : ∀ (i : Nat) (X : Ty), l[i]? = some X → (look 9 X).2.2 = true ∨ X = tzC) (hA : LiesAll w A0 R l aa ac K) (hB : LiesAll w A0 R' l ba bc J) (hb : l.length * 104 ≤ 140737488351232) :
    Calls Try.prog 13 #[.slice aa n ac, .slice ba m bc] w fun e w' => e = .returned (.bool true) ∧ Kp w w' := by
  subst hn hm
  exact c_SameAll l R R' aa ba ac bc K J w (fun i X hx hy W hX h1 h2 => same_any R R' X hx hy W (hs i X hX) h1 h2) hA hB hb
theorem uE_facts {L : List ByteArray} {As Bs : List Ty} (h0 : uE L As Bs = 0) : allS As = true ∧ allS Bs = true ∧ L.Nodup ∧ As.length = Bs.length ∧ ∃ σ, found L As Bs = some σ := by
  cases hy : (allS As && allS Bs) with
  | false => rw [uE_form hy] at h0; cases h0
  | true =>
    have h1 := (Bool.and_eq_true_iff.1 hy)
    by_cases hn : L.Nodup ∧ As.length = Bs.length
    · cases hf : found L As Bs with
      | none => rw [uE_type hy hn hf] at h0; cases h0
      | some σ => exact ⟨h1.1, h1.2, hn.1, hn.2, σ, rfl⟩
    · rw [uE_arg hy hn] at h0; cases h0
set_option maxHeartbeats 3200000 in
set_option maxRecDepth 100000 in
theorem finds_no (L : List ByteArray) (na : Option Addr) (nc : Nat) (R : Nat) (As : List Ty) (aa : Option Addr) (ac : Nat) (K : Nat → Hd) (R' : Nat) (Bs : List Ty) (ba : Option Addr) (bc : Nat) (J : Nat → Hd) (w : World)
    (ht : tab w A0 9 na L.length nc 1 (fun i => [.string (L.getD i ByteArray.empty)])) (hlc : L.length ≤ nc) (hL : ∀ s, s ∈ L → s.size ≤ 140737488351232) (hlL : L.length * 16 ≤ 140737488351232) (hnL : L.length ≤ 1048576)
    (hA : LiesAll w A0 R As aa ac K) (hlA : As.length * 104 ≤ 140737488351232) (hnA : As.length ≤ 1048576) (hB : LiesAll w A0 R' Bs ba bc J) (hlB : Bs.length * 104 ≤ 140737488351232) (hnB : Bs.length ≤ 1048576) (h0 : uE L As Bs ≠ 0) :
    Calls Try.prog 3 #[.slice na L.length nc, .slice aa As.length ac, .slice ba Bs.length bc] w fun e w' => e = .returned (.bool true) ∧ Kp w w' := by
  obtain ⟨q, hq⟩ : ∃ q, uE L As Bs = q := ⟨_, rfl⟩
  obtain ⟨qa, hqa⟩ : ∃ qa, uAt L As Bs = qa := ⟨_, rfl⟩
  have HQ := Lib.hid hq
  have HN := Lib.hid (show (uRes L As Bs).length = 0 by rw [uRes_no h0]; rfl)
  have CFD := Lib.hid (fun W (k : Kp w W) => (c_Find L na nc A0 R R' As Bs aa ac ba bc K J W (ht.keep k) hlc hlL (by omega) (hA.keep k) hlA (hB.keep k) hlB).mono (fun e w' hp => (show e = .returned (.tuple #[.pointer none, .int .i64 qa, .int .i64 q]) ∧ Kp W w' from by rw [← hq, ← hqa]; exact hp.no h0)))
  rw [hq] at h0
  have hqb : (q != 0) = true := bne_iff_ne.2 h0
  have hqq : (q != q) = false := by simp
  obtain ⟨i2, hs, hx0, hx1, hx2⟩ := info_parts infoS
  have HT := Lib.hid ht
  have HL := Lib.hid hL
  have HA := Lib.hid hA
  have HB := Lib.hid hB
  have KS := Lib.hid (show Kp w (w.alloc (.cells #[] 9)) from (Kp.refl w).alloc _)
  have HO := Lib.hid (World.ownsRow_made w #[] 0 (Nat.le_refl _) (by unfold maxLen; omega) (by rfl) : (w.alloc (.cells #[] 9)).ownsRow w.heap.size 9 1 (.slice (some ⟨w.heap.size, 0, none⟩) 0 0) 0 [])
  have CA : Hid (∀ W, Kp w W → Calls Try.prog 10 #[.slice aa As.length ac] W fun e w' => ∃ ad c K, e = .returned (.slice ad As.length c) ∧ LiesAll w' A0 R As ad c K ∧ Kp W w') := Lib.hid (fun W k => (c_owns R As aa ac K W (hA.keep k) hlA).mono (fun e w' ⟨ad, c, K, e1, e2, e3⟩ => ⟨ad, c, K, e1, LiesAll.weak e2 (A0_le _), e3⟩))
  have CB : Hid (∀ W, Kp w W → Calls Try.prog 10 #[.slice ba Bs.length bc] W fun e w' => ∃ ad c K, e = .returned (.slice ad Bs.length c) ∧ LiesAll w' A0 R' Bs ad c K ∧ Kp W w') := Lib.hid (fun W k => (c_owns R' Bs ba bc J W (hB.keep k) hlB).mono (fun e w' ⟨ad, c, K, e1, e2, e3⟩ => ⟨ad, c, K, e1, LiesAll.weak e2 (A0_le _), e3⟩))
  have CU : Hid (∀ (na : Option Addr) (nc : Nat) (S : Sel) (aa : Option Addr) (ac : Nat) (K : Nat → Hd) (ba : Option Addr) (bc : Nat) (J : Nat → Hd) (W : World), tab W S 9 na L.length nc 1 (fun i => [.string (L.getD i ByteArray.empty)]) → LiesAll W A0 R As aa ac K → LiesAll W A0 R' Bs ba bc J → Calls Try.prog 9 #[.slice na L.length nc, .slice aa As.length ac, .slice ba Bs.length bc] W fun e w' => ∃ ad c K kd kc, e = .returned (.tuple #[.slice ad 0 c, .slice kd 0 kc, .int .i64 q]) ∧ Kp W w' ∧ LiesAll w' (From W.heap.size) 9 (uRes L As Bs) ad c K ∧ tab w' A0 4 kd 0 kc 1 (fun i => [.bool (kb (uRes L As Bs) i)])) := Lib.hid (fun na nc S aa ac K ba bc J W h1 h2 h3 => (c_Unify L na nc S R R' As Bs aa ac ba bc K J W h1 hL hlL h2 hlA h3 hlB (fun _ => by omega)).mono (fun e w' ⟨ad, c, K, kd, kc, e1, e2, e3, e4⟩ => ⟨ad, c, K, kd, kc, by rw [e1, HQ.out, HN.out], e2, e3, by rw [HN.out] at e4; exact e4.weak (A0_le _)⟩))
  clear ht hL hA hB
  clear hq h0 hqa
  go_enter Try.func3, Try.ntmps3
  go_wp2_with (first | ((with_reducible show wpList _ _ _ (⟨some 17, _, _, _, _, _⟩ :: _) _ _); refine wpList_append_tab (d := 17) _ _ 22 rfl w.heap.size 9 i2 _ 1 16 Try.underlying22 hs hx0 hx1 hx2 rfl (by decide) _ 0 _ (by rfl) HO.out w _ _ _ _ _ (by rfl) HT.out KS.out (fun _ => rfl) (fun _ u hu => by (rw [List.mem_singleton] at hu; subst hu; rfl)) (by unfold maxLen; omega) (by omega) (by simp) ?_; intro v1 w1 ho1 hg1; rw [Nat.zero_add, List.nil_append] at ho1; obtain ⟨na1, nc1, hv1, _, ht1, _⟩ := tab_of_owns ho1 (fun _ => rfl); subst hv1; have HT1 := Lib.hid ht1; have K1 := Lib.hid (KS.out.grown hg1 (fun k hk => by cases hk; exact Nat.le_refl _)); clear ht1 ho1 hg1) | (go_at_call 10; (with_reducible refine (CA.out _ K1.out).mono ?_); rintro e w2 ⟨aa1, ac1, KA1, rfl, hl1, hk2⟩; have HL1 := Lib.hid hl1; have K12 := Lib.hid hk2; have K2 := Lib.hid (K1.out.trans hk2); clear hl1 hk2) | (go_at_call 10; (with_reducible refine (CB.out _ K2.out).mono ?_); rintro e w3 ⟨ba1, bc1, KB1, rfl, hl2, hk3⟩; have HL2 := Lib.hid hl2; have K23 := Lib.hid hk3; have K3 := Lib.hid (K2.out.trans hk3); clear hl2 hk3) | (go_at_call 9; (with_reducible refine (CU.out _ _ _ _ _ _ _ _ _ _ (HT1.out.keep (K12.out.trans K23.out)) (HL1.out.keep K23.out) HL2.out).mono ?_); rintro e w4 ⟨ad, c, KR, kd, kc, rfl, hk4, hl4, ht4⟩; have K34 := Lib.hid hk4; have K4 := Lib.hid (K3.out.trans hk4); have HL4 := Lib.hid hl4; have HT4 := Lib.hid ht4; clear hk4 hl4 ht4) | (go_at_call 11; (with_reducible refine (CFD.out _ K4.out).mono ?_); rintro e w5 ⟨rfl, hk5⟩; have K5 := Lib.hid (K4.out.trans hk5); clear hk5) | (go_at_call 12; (with_reducible refine (c_answers w5).mono ?_); rintro e w6 ⟨rfl, hk6⟩; have K6 := Lib.hid (K5.out.trans hk6); clear hk6))
  go_ret
  exact ⟨rfl, K6.out⟩
set_option maxHeartbeats 12800000 in
set_option maxRecDepth 100000 in
theorem finds_yes (L : List ByteArray) (na : Option Addr) (nc : Nat) (R : Nat) (As : List Ty) (aa : Option Addr) (ac : Nat) (K : Nat → Hd) (R' : Nat) (Bs : List Ty) (ba : Option Addr) (bc : Nat) (J : Nat → Hd) (w : World)
    (ht : tab w A0 9 na L.length nc 1 (fun i => [.string (L.getD i ByteArray.empty)])) (hlc : L.length ≤ nc) (hL : ∀ s, s ∈ L → s.size ≤ 140737488351232) (hlL : L.length * 16 ≤ 140737488351232) (hnL : L.length ≤ 1048576)
    (hA : LiesAll w A0 R As aa ac K) (hlA : As.length * 104 ≤ 140737488351232) (hnA : As.length ≤ 1048576) (hB : LiesAll w A0 R' Bs ba bc J) (hlB : Bs.length * 104 ≤ 140737488351232) (hnB : Bs.length ≤ 1048576) (h0 : uE L As Bs = 0) (sA : allS As = true) (sB : allS Bs = true) (σ : St) (hf : found L As Bs = some σ) :
    Calls Try.prog 3 #[.slice na L.length nc, .slice aa As.length ac, .slice ba Bs.length bc] w fun e w' => e = .returned (.bool true) ∧ Kp w w' := by
  have HQ := Lib.hid h0
  have HN := Lib.hid (show (uRes L As Bs).length = L.length by rw [uRes_ok h0, uArgs_len])
  have HFN := Lib.hid (found_fine sA sB hf)
  have HKB := Lib.hid (fun (n : Nat) (s : ByteArray) (hn : n < L.length) (hs : L.getD n ByteArray.empty = s) => kb_known (found_fine sA sB hf) hf h0 hn hs)
  have HUR := Lib.hid (show uRes L As Bs = L.map (fun s => (σ s).getD tzC) by rw [uRes_ok h0, uArgs_at hf])
  have HSN := Lib.hid (fun (i : Nat) (X : Ty) (hX : (uRes L As Bs)[i]? = some X) => (show (look 9 X).2.2 = true ∨ X = tzC from by
    rw [HUR.out, List.getElem?_map] at hX
    cases hl : L[i]? with
    | none => rw [hl] at hX; cases hX
    | some s =>
      rw [hl] at hX
      have e : (σ s).getD tzC = X := Option.some.inj hX
      cases hs : σ s with
      | none => rw [hs] at e; exact .inr e.symm
      | some T => rw [hs] at e; exact .inl (by rw [← (show T = X from e)]; exact (HFN.out s T hs).2)))
  have CFD := Lib.hid (fun W (k : Kp w W) => (c_Find L na nc A0 R R' As Bs aa ac ba bc K J W (ht.keep k) hlc hlL (by omega) (hA.keep k) hlA (hB.keep k) hlB).mono (fun e w' hp => (show ∃ bb bT bK, e = .returned (.tuple #[.pointer (some ⟨bb, 0, none⟩), .int .i64 0, .int .i64 0]) ∧ BdE bb bT bK L na nc σ w' ∧ Kp W w' from by
    obtain ⟨bb, bT, bK, σ', e1, e2, e3, e4⟩ := hp.yes h0
    rw [hf] at e2
    cases e2
    exact ⟨bb, bT, bK, e1, e3, e4⟩)))
  obtain ⟨i2, hs, hx0, hx1, hx2⟩ := info_parts infoS
  have HT := Lib.hid ht
  have HL := Lib.hid hL
  have HA := Lib.hid hA
  have HB := Lib.hid hB
  have KS := Lib.hid (show Kp w (w.alloc (.cells #[] 9)) from (Kp.refl w).alloc _)
  have HO := Lib.hid (World.ownsRow_made w #[] 0 (Nat.le_refl _) (by unfold maxLen; omega) (by rfl) : (w.alloc (.cells #[] 9)).ownsRow w.heap.size 9 1 (.slice (some ⟨w.heap.size, 0, none⟩) 0 0) 0 [])
  have CA : Hid (∀ W, Kp w W → Calls Try.prog 10 #[.slice aa As.length ac] W fun e w' => ∃ ad c K, e = .returned (.slice ad As.length c) ∧ LiesAll w' A0 R As ad c K ∧ Kp W w') := Lib.hid (fun W k => (c_owns R As aa ac K W (hA.keep k) hlA).mono (fun e w' ⟨ad, c, K, e1, e2, e3⟩ => ⟨ad, c, K, e1, LiesAll.weak e2 (A0_le _), e3⟩))
  have CB : Hid (∀ W, Kp w W → Calls Try.prog 10 #[.slice ba Bs.length bc] W fun e w' => ∃ ad c K, e = .returned (.slice ad Bs.length c) ∧ LiesAll w' A0 R' Bs ad c K ∧ Kp W w') := Lib.hid (fun W k => (c_owns R' Bs ba bc J W (hB.keep k) hlB).mono (fun e w' ⟨ad, c, K, e1, e2, e3⟩ => ⟨ad, c, K, e1, LiesAll.weak e2 (A0_le _), e3⟩))
  have CU : Hid (∀ (na : Option Addr) (nc : Nat) (S : Sel) (aa : Option Addr) (ac : Nat) (K : Nat → Hd) (ba : Option Addr) (bc : Nat) (J : Nat → Hd) (W : World), tab W S 9 na L.length nc 1 (fun i => [.string (L.getD i ByteArray.empty)]) → LiesAll W A0 R As aa ac K → LiesAll W A0 R' Bs ba bc J → Calls Try.prog 9 #[.slice na L.length nc, .slice aa As.length ac, .slice ba Bs.length bc] W fun e w' => ∃ ad c K kd kc, e = .returned (.tuple #[.slice ad L.length c, .slice kd L.length kc, .int .i64 0]) ∧ Kp W w' ∧ LiesAll w' (From W.heap.size) 9 (uRes L As Bs) ad c K ∧ tab w' A0 4 kd L.length kc 1 (fun i => [.bool (kb (uRes L As Bs) i)])) := Lib.hid (fun na nc S aa ac K ba bc J W h1 h2 h3 => (c_Unify L na nc S R R' As Bs aa ac ba bc K J W h1 hL hlL h2 hlA h3 hlB (fun _ => by omega)).mono (fun e w' ⟨ad, c, K, kd, kc, e1, e2, e3, e4⟩ => ⟨ad, c, K, kd, kc, by rw [e1, HQ.out, HN.out], e2, e3, by rw [HN.out] at e4; exact e4.weak (A0_le _)⟩))
  clear ht hL hA hB
  clear h0 hf sA sB
  go_enter Try.func3, Try.ntmps3
  go_wp2_with (first | ((with_reducible show wpList _ _ _ (⟨some 17, _, _, _, _, _⟩ :: _) _ _); refine wpList_append_tab (d := 17) _ _ 22 rfl w.heap.size 9 i2 _ 1 16 Try.underlying22 hs hx0 hx1 hx2 rfl (by decide) _ 0 _ (by rfl) HO.out w _ _ _ _ _ (by rfl) HT.out KS.out (fun _ => rfl) (fun _ u hu => by (rw [List.mem_singleton] at hu; subst hu; rfl)) (by unfold maxLen; omega) (by omega) (by simp) ?_; intro v1 w1 ho1 hg1; rw [Nat.zero_add, List.nil_append] at ho1; obtain ⟨na1, nc1, hv1, _, ht1, _⟩ := tab_of_owns ho1 (fun _ => rfl); subst hv1; have HT1 := Lib.hid ht1; have K1 := Lib.hid (KS.out.grown hg1 (fun k hk => by cases hk; exact Nat.le_refl _)); clear ht1 ho1 hg1) | (go_at_call 10; (with_reducible refine (CA.out _ K1.out).mono ?_); rintro e w2 ⟨aa1, ac1, KA1, rfl, hl1, hk2⟩; have HL1 := Lib.hid hl1; have K12 := Lib.hid hk2; have K2 := Lib.hid (K1.out.trans hk2); clear hl1 hk2) | (go_at_call 10; (with_reducible refine (CB.out _ K2.out).mono ?_); rintro e w3 ⟨ba1, bc1, KB1, rfl, hl2, hk3⟩; have HL2 := Lib.hid hl2; have K23 := Lib.hid hk3; have K3 := Lib.hid (K2.out.trans hk3); clear hl2 hk3) | (go_at_call 9; (with_reducible refine (CU.out _ _ _ _ _ _ _ _ _ _ (HT1.out.keep (K12.out.trans K23.out)) (HL1.out.keep K23.out) HL2.out).mono ?_); rintro e w4 ⟨ad, c, KR, kd, kc, rfl, hk4, hl4, ht4⟩; have K34 := Lib.hid hk4; have K4 := Lib.hid (K3.out.trans hk4); have HL4 := Lib.hid hl4; have HT4 := Lib.hid ht4; clear hk4 hl4 ht4) | (go_at_call 11; (with_reducible refine (CFD.out _ K4.out).mono ?_); rintro e w5 ⟨bb, bT, bK, rfl, hbe, hk5⟩; have J45 := Lib.hid hk5; have K5 := Lib.hid (K4.out.trans hk5); have BE := Lib.hid hbe; clear hk5 hbe) | (go_at_call 12; (with_reducible refine (c_answers w5).mono ?_); rintro e w6 ⟨rfl, hk6⟩; have J56 := Lib.hid hk6; have K6 := Lib.hid (K5.out.trans hk6); have c1 := hk6.cellv BE.out.c1; have c1l : bb < w6.heap.size := lt_of_cell c1; obtain ⟨JJ, hty⟩ := (BE.out.keep hk6).types; have HTY := Lib.hid (HUR.out.symm ▸ hty); clear hk6 hty) | (go_at_call 13; refine (sameall_any (uRes L As Bs) 9 9 ad (some ⟨bT, 0, none⟩) c L.length KR JJ L.length L.length w6 HN.out HN.out HSN.out ((LiesAll.weak HL4.out (A0_le _)).keep (J45.out.trans J56.out)) HTY.out (by rw [HN.out]; omega)).mono ?_; rintro e w7 ⟨rfl, hk7⟩; have J67 := Lib.hid hk7; have K7 := Lib.hid (K6.out.trans hk7); clear hk7))
  clear c1
  go_loopw [13] (fun i wr => ∃ n : Nat, n ≤ L.length ∧ i = .int .i64 n ∧ Kp w7 wr) (fun i _ => L.length - (intOf i).toNat)
  case atStart => exact ⟨0, Nat.zero_le _, rfl, Kp.refl _⟩
  case round =>
    obtain ⟨n, hn, rfl, hkr⟩ := hrel
    have HKR := Lib.hid hkr
    have K47 := Lib.hid (J45.out.trans (J56.out.trans (J67.out.trans hkr)))
    have BW := Lib.hid (BE.out.keep (J56.out.trans (J67.out.trans hkr)))
    clear hkr
    by_cases hlt : n < L.length
    · obtain ⟨sn, hsn⟩ : ∃ sn, L.getD n ByteArray.empty = sn := ⟨_, rfl⟩
      have hkb := (HKB.out n sn hlt hsn).1
      obtain ⟨kb1, ko, hkd, hkc⟩ := HT4.out.at (by omega)
      subst hkd
      have x0 : wr.cell? ⟨kb1, ko + n, none⟩ = some (.bool (σ sn).isSome) := by
        have := K47.out.cellv (rangeAt_head (hkc n hlt))
        rw [Nat.mul_one] at this
        rw [this, ← hkb]
      have y0 : wr.cell? ⟨bK, n, none⟩ = some (.bool (σ sn).isSome) := (BW.out.row n sn hlt hsn).2
      have c2 := BW.out.c2
      have x0l : kb1 < wr.heap.size := lt_of_cell x0
      have y0l : bK < wr.heap.size := lt_of_cell y0
      have c2l : bb < wr.heap.size := lt_of_cell c2
      have j1 : (0 : Int) ≤ n := by omega
      have j2 : (n : Int) < L.length := by omega
      obtain ⟨bv, hbv⟩ : ∃ bv, (σ sn).isSome = bv := ⟨_, rfl⟩
      rw [hbv] at x0 y0
      have hbb : (bv != bv) = false := by simp
      clear hkb hbv hsn hkc
      go_wp2_with fail
      go_quiet (fail)
      go_wp2_with fail
      go_roundw
      case rel => exact ⟨n + 1, by omega, by go_num, (HKR.out).drewN _⟩
      case measure => simp [intOf]; omega
    · obtain rfl : n = L.length := by omega
      have hz : ¬ ((L.length : Int) < (L.length : Int)) := by omega
      go_wp2_with fail
      go_ret
      exact ⟨rfl, K7.out.trans HKR.out⟩
theorem law_UnifyFinds (L : List ByteArray) (na : Option Addr) (nc : Nat) (R : Nat) (As : List Ty) (aa : Option Addr) (ac : Nat) (K : Nat → Hd) (R' : Nat) (Bs : List Ty) (ba : Option Addr) (bc : Nat) (J : Nat → Hd) (w : World)
    (ht : tab w A0 9 na L.length nc 1 (fun i => [.string (L.getD i ByteArray.empty)])) (hlc : L.length ≤ nc) (hL : ∀ s, s ∈ L → s.size ≤ 140737488351232) (hlL : L.length * 16 ≤ 140737488351232) (hnL : L.length ≤ 1048576)
    (hA : LiesAll w A0 R As aa ac K) (hlA : As.length * 104 ≤ 140737488351232) (hnA : As.length ≤ 1048576) (hB : LiesAll w A0 R' Bs ba bc J) (hlB : Bs.length * 104 ≤ 140737488351232) (hnB : Bs.length ≤ 1048576) :
    Calls Try.prog 3 #[.slice na L.length nc, .slice aa As.length ac, .slice ba Bs.length bc] w fun e w' => e = .returned (.bool true) ∧ Kp w w' := by
  by_cases h0 : uE L As Bs = 0
  · obtain ⟨s1, s2, hnd, hln, σ, hf⟩ := uE_facts h0
    exact finds_yes L na nc R As aa ac K R' Bs ba bc J w ht hlc hL hlL hnL hA hlA hnA hB hlB hnB h0 s1 s2 σ hf
  · exact finds_no L na nc R As aa ac K R' Bs ba bc J w ht hlc hL hlL hnL hA hlA hnA hB hlB hnB h0
end Go.Proofs.Ytfjflfokmihcpaa
