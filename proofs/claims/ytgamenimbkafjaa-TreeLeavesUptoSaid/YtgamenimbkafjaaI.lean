/- The walk through a node's nodes, as an iterator, whatever the loop's body that keeps the cells that it does not own. -/
import Derived.RangeFuncNested
import Derived.RangeFuncBound
import Derived.RangeFuncCalls
import Derived.RangeFuncLeaves
import Derived.Shelf.Abstract
import Derived.Shelf.RegionOpen
import Derived.WalkKit
import Derived.OwnWalkIn
import Derived.TacticsInMore
import Derived.LoopNIn
import Derived.LoopIn
import Derived.Test.YtgamenimbkafjaaT1
namespace Go.Proofs.Ytgamenimbkafjaa
open Go.RowKit Go.Shelf
set_option linter.unusedVariables false
set_option linter.unusedSimpArgs false
attribute [local go_sem] Oper.semAt_some

theorem room_of_none {F : Fence} (hd : F.depth = none) (k : Nat) : F.room k := fun d h => by rw [hd] at h; cases h
theorem RoundIn.anyDepth {F : Fence} (hd : F.depth = none) {m m' : Nat} {P : Program} {l : Nat} {f : FuncId} {tmps : Array Value} {assign body : Code} {w : World} {R : Ending → World → Prop}
    (h : RoundIn F m P l f tmps assign body w R) : RoundIn F m' P l f tmps assign body w R := ⟨h.1, fun c cs _ => h.2 c cs (room_of_none hd _)⟩
theorem YieldAt.anyDepth {F : Fence} (hd : F.depth = none) {m : Nat} (m' : Nat) {P : Program} {l : Nat} {args : Array Value} {W : World} {R : Ending → World → Prop} (h : YieldAt F m P l args W R) : YieldAt F m' P l args W R := by
  obtain ⟨fn, tmps, assign, body, hy, hR⟩ := h
  exact ⟨fn, tmps, assign, body, hy, RoundIn.anyDepth hd hR⟩
/-- No cell has turned but those in blocks of C. -/
structure Cel (C : Nat → Prop) (W W' : World) : Prop where
  cell : ∀ (p : Addr) (v : Value), ¬ C p.block → W.cell? p = some v → W'.cell? p = some v
  size : W.heap.size ≤ W'.heap.size
theorem Cel.refl (C : Nat → Prop) (W : World) : Cel C W W := ⟨fun _ _ _ h => h, Nat.le_refl _⟩
theorem Cel.trans {C : Nat → Prop} {a b c : World} (h : Cel C a b) (k : Cel C b c) : Cel C a c := ⟨fun p v hp hc => k.cell p v hp (h.cell p v hp hc), Nat.le_trans h.size k.size⟩
theorem Kp.cel {C : Nat → Prop} {a b : World} (h : Kp a b) : Cel C a b := ⟨fun p v _ hc => h.cellv hc, h.sz⟩
theorem Cel.putObj {C : Nat → Prop} (W : World) (l : Nat) (o o' : Obj) (h : W.heap[l]? = some o) (hc : o.isCells = false) : Cel C W (W.putObj l o') :=
  ⟨fun p v _ hp => cell_kept hp (grownBy_putObj' W l o') (fun r e => by cases e; exact ⟨o, h, hc⟩), by simp⟩
theorem Cel.range {C : Nat → Prop} {a b : World} (h : Cel C a b) {k o : Nat} {cs : List Value} (hk : ¬ C k) (hc : a.rangeAt k o cs) : b.rangeAt k o cs := fun j v hv => h.cell _ _ hk (hc j v hv)
/-- A node outside C. -/
abbrev Out (C : Nat → Prop) : Sel := ⟨False, fun b => ¬ C b⟩
theorem Lies.cel {C : Nat → Prop} {w w' : World} (hk : Cel C w w') : ∀ {r : Nat} {T : Nd} {h : Hn}, Lies w (Out C) r T h → Lies w' (Out C) r T h
  | 0, _, _, h => h
  | r + 1, _, _, ⟨K, t, hh⟩ => ⟨K, { t with tl := ⟨t.tl.1, fun hn => by
      obtain ⟨b, o, ha, hB, hl, _, hr⟩ := t.tl.2 hn
      exact ⟨b, o, ha, hB, Nat.lt_of_lt_of_le hl hk.size, fun h => h.elim, fun i hi => hk.range hB (hr i hi)⟩⟩ }, fun i X hX => Lies.cel hk (hh i X hX)⟩
/-- The nodes with their depths, in order. -/
def flatN : Nat → Int → Nd → List (Int × Nd)
  | 0, _, _ => []
  | r + 1, d, T => (d, T) :: T.kids.flatMap (flatN r (wrap64 (d + 1)))
/-- What a round is handed: a depth and a node that lay there when the loop began. -/
abbrev Item (w0 : World) (C : Nat → Prop) (R : Nat) (M : Int × Nd → Prop) := { x : Int × Nd × Hn // Lies w0 (Out C) R x.2.1 x.2.2 ∧ M (x.1, x.2.1) }
def Item.pr {w0 : World} {C : Nat → Prop} {R : Nat} {M : Int × Nd → Prop} (x : Item w0 C R M) : Int × Nd := (x.1.1, x.1.2.1)
abbrev Item.enc {w0 : World} {C : Nat → Prop} {R : Nat} {M : Int × Nd → Prop} (x : Item w0 C R M) : Array Value := #[.int .i64 x.1.1, x.1.2.2.val]
theorem flat_len_le {β : Type} {f : Nd → List β} : ∀ {l : List Nd} {m : Nat} {X : Nd}, l[m]? = some X → ((l.take m).flatMap f).length + (f X).length ≤ (l.flatMap f).length
  | [], m, X, h => by simp at h
  | a :: l, 0, X, h => by simp at h; subst h; simp
  | a :: l, m + 1, X, h => by
    have := flat_len_le (f := f) (l := l) (m := m) (X := X) (by simpa using h)
    simp only [List.take_succ_cons, List.flatMap_cons, List.length_append]
    omega
theorem flat_next {β : Type} {f : Nd → List β} {l : List Nd} {m : Nat} {X : Nd} (h : l[m]? = some X) : (l.take (m + 1)).flatMap f = (l.take m).flatMap f ++ f X := by
  rw [List.take_add_one, h]; simp
theorem flat_pre {β : Type} {f : Nd → List β} {l : List Nd} {m : Nat} {X : Nd} (h : l[m]? = some X) : (l.take m).flatMap f ++ f X <+: l.flatMap f := by
  rw [← flat_next h]
  conv => rhs; rw [← List.take_append_drop (m + 1) l]
  rw [List.flatMap_append]
  exact List.prefix_append _ _
theorem abide {β : Type} {B : Nat} {J : β → World → Prop} (hJ : AbidesFrom B J) {s : β} {a b : World} (h : J s a) (k : Kp a b) : J s b :=
  hJ s a b none h ⟨k.os, k.tape, k.output, k.size, fun i hi _ => k.block i hi⟩ (fun r e => by cases e)
theorem box_one {W : World} {v : Value} {t : TypeId} {W' : World} (hk : Kp (W.alloc (.cells #[v] t)) W') : W'.cell? ⟨W.heap.size, 0, none⟩ = some v :=
  hk.cellv (by rw [cell_of_row _ _ _ _ _ _ (heap_alloc_new _ _)]; rfl)
set_option maxRecDepth 100000 in
set_option maxHeartbeats 4000000 in
theorem walk_in (F : Fence) (hd : F.depth = none) (hf : F.fn 44) (hro : F.round = none) (l N R B : Nat) (w0 : World) (C : Nat → Prop) (M : Int × Nd → Prop) (hC : ∀ b, C b → b < w0.heap.size) (J Jx : List (Item w0 C R M) → World → Prop) (hJ : AbidesFrom B J)
    (hY : ∀ m pre (x : Item w0 C R M) W, J pre W → pre.length < N → YieldAt F m Try.prog l x.enc W fun e W' =>
      (e = .returned (.bool true) ∧ J (pre ++ [x]) W' ∧ Cel C W W') ∨ (e = .returned (.bool false) ∧ Jx (pre ++ [x]) W')) (bp bw : Nat) (hbp : ¬ C bp) (hbw : ¬ C bw) :
    ∀ (r : Nat) (T : Nd) (h : Hn) (d : Int) (n : Nat) (pre : List (Item w0 C R M)) (W : World), r ≤ R → Lies w0 (Out C) r T h → (∀ y, y ∈ flatN r d T → M y) → Cel C w0 W → W.cell? ⟨bp, 0, none⟩ = some (.func (.yield l) #[] #[]) →
      W.cell? ⟨bw, 0, none⟩ = some (.func (.func 44) #[] #[.pointer (some ⟨bp, 0, none⟩), .pointer (some ⟨bw, 0, none⟩)]) → J pre W → pre.length + (flatN r d T).length ≤ N →
      CallsIn F n Try.prog 44 #[.int .i64 d, h.val, .pointer (some ⟨bp, 0, none⟩), .pointer (some ⟨bw, 0, none⟩)] W fun e W' =>
        (e = .returned (.bool true) ∧ ∃ ys : List (Item w0 C R M), ys.map Item.pr = flatN r d T ∧ J (pre ++ ys) W' ∧ Cel C W W') ∨ (e = .returned (.bool false) ∧ ∃ ys : List (Item w0 C R M), ys.map Item.pr <+: flatN r d T ∧ Jx (pre ++ ys) W')
  | 0, _, _, _, _, _, _, _, hl, _, _, _, _, _, _ => hl.elim
  | r + 1, T, h, d, n, pre, W, hr, hl, hM, hcel, hcp, hcw, hj, hN => by
    have hdd : ∀ k : Nat, (F.depth.isSome = true → 1 ≤ k) := fun k h => by rw [hd] at h; cases h
    have hl0 := hl
    obtain ⟨K, t, hh⟩ := hl
    have HES := Lib.hid t.es
    have HT := Lib.hid t
    have HH := Lib.hid hh
    clear t hh
    obtain ⟨k, tx, nn, at_, la, ll, lc⟩ := h
    simp only at HES
    -- the round for this node
    obtain ⟨x0, hx1, hx2⟩ : ∃ x0 : Item w0 C R M, x0.pr = (d, T) ∧ x0.enc = #[.int .i64 d, .agg #[.int .i64 k, .string tx, .int .u64 nn, .int .i64 at_, .slice la ll lc]] := ⟨⟨(d, T, ⟨k, tx, nn, at_, la, ll, lc⟩), hl0.mono hr, hM _ (by simp [flatN])⟩, rfl, rfl⟩
    have kbox : Kp W (W.alloc (.cells #[.int .i64 k, .string tx, .int .u64 nn, .int .i64 at_, .slice la ll lc] 25)) := (Kp.refl W).alloc _
    have hy := hY (n - 1) pre x0 _ (abide hJ hj kbox) (by simp only [flatN, List.length_cons] at hN; omega)
    rw [hx2] at hy
    obtain ⟨u0, u1, u2, u3, u4, _⟩ := boxed (w := W) (h := ⟨k, tx, nn, at_, la, ll, lc⟩) (e := 25) (Kp.refl _)
    simp only at u0 u1 u2 u3 u4
    have hcp1 := kbox.cellv hcp
    have hcw1 := kbox.cellv hcw
    obtain ⟨fn, tmps, assign, body, hyr, hR⟩ := hy
    refine callsIn_of_wp Try.func44 rfl hf ?_ hro
    simp only [Try.ntmps44, List.size_toArray, List.length_cons, List.length_nil, Nat.reduceAdd, Nat.reduceSub, Array.replicate_succ, Array.replicate_zero, List.push_toArray, List.append_toArray, List.nil_append, List.cons_append]
    have HX1 := Lib.hid hx1
    have HCEL := Lib.hid hcel
    have HR := Lib.hid hR
    have hbl0 : ll * 64 ≤ 140737488351232 := HT.out.bl
    have hnb : ¬ C W.heap.size := fun hc => by have := hC _ hc; have := hcel.size; omega
    have HY := Lib.hid hY
    have HJ := Lib.hid hJ
    clear hx1 hx2 hl0 hY hcel hR hJ
    have IH := Lib.hid (fun (X : Nd) (g : Hn) (pre' : List (Item w0 C R M)) (W' : World) (hX : Lies w0 (Out C) r X g) (hMX : ∀ y, y ∈ flatN r (wrap64 (d + 1)) X → M y) => walk_in F hd hf hro l N R B w0 C M hC J Jx HJ.out HY.out bp bw hbp hbw r X g (wrap64 (d + 1)) (n - 1) pre' W' (by omega) hX hMX)
    have HM := Lib.hid hM
    clear hM
    gi_wp2_with (first | ((try refine ⟨hdd _, ?_⟩); refine HR.out.mono ?_; rintro e W2 (⟨rfl, hJ2, hc2⟩ | ⟨rfl, hx2⟩); (try (have v4 := hc2.cell ⟨W.heap.size, 4, none⟩ _ hnb u4; have vw := hc2.cell ⟨bw, 0, none⟩ _ hbw hcw1; have vp := hc2.cell ⟨bp, 0, none⟩ _ hbp hcp1; have KC2 := Lib.hid hc2; have HJ2 := Lib.hid hJ2; clear hc2 hJ2))))
    · have HCW := Lib.hid ((HCEL.out.trans kbox.cel).trans KC2.out)
      have CSZ := Lib.hid (show w0.heap.size ≤ W2.heap.size from HCW.out.size)
      gi_loopw [17] (fun i wr => ∃ (m : Nat) (ys : List (Item w0 C R M)), m ≤ ll ∧ i = .int .i64 m ∧ Hid (ys.map Item.pr = (T.kids.take m).flatMap (flatN r (wrap64 (d + 1)))) ∧ Hid (J (pre ++ x0 :: ys) wr) ∧ Cel C W2 wr) (fun i _ => ll - (intOf i).toNat)
      case atStart => exact ⟨0, [], Nat.zero_le _, rfl, Lib.hid rfl, HJ2, Cel.refl _ _⟩
      case round =>
        obtain ⟨m, ys, hm, rfl, HYS, HJS, hcr⟩ := hrel
        by_cases hlt : m < ll
        · obtain ⟨X, hX⟩ : ∃ X, T.kids[m]? = some X := ⟨_, List.getElem?_eq_getElem (by have := HES.out; omega)⟩
          obtain ⟨ta, to, hla, hta, hlt2, _, hra⟩ := HT.out.tl.2 (show 0 < ll by omega)
          simp only at hla
          subst hla
          obtain ⟨x0', x1, x2, x3, x4⟩ := node_at (hcr.range hta (HCW.out.range hta (hra m hlt)))
          have yw := hcr.cell ⟨bw, 0, none⟩ _ hbw vw
          have yp := hcr.cell ⟨bp, 0, none⟩ _ hbp vp
          have kb2 : Kp wr (wr.alloc (.cells #[.int .i64 (K m).k, .string (K m).tx, .int .u64 (K m).n, .int .i64 (K m).at_, .slice (K m).la (K m).ll (K m).lc] 25)) := (Kp.refl wr).alloc _
          have zw := kb2.cellv yw
          have zp := kb2.cellv yp
          have hbl := lt_of_cell yw
          have hbt := lt_of_cell x0'
          have HXX := Lib.hid hX
          have HCR := Lib.hid hcr
          have HKB := Lib.hid kb2
          have hlen : (pre ++ x0 :: ys).length + (flatN r (wrap64 (d + 1)) X).length ≤ N := by
            have h1 := congrArg List.length HYS.out
            rw [List.length_map] at h1
            have h2 : ((T.kids.take m).flatMap (flatN r (wrap64 (d + 1)))).length + (flatN r (wrap64 (d + 1)) X).length ≤ (T.kids.flatMap (flatN r (wrap64 (d + 1)))).length := flat_len_le hX
            simp only [flatN, List.length_cons] at hN
            simp only [List.length_append, List.length_cons]
            omega
          have CI := Lib.hid (IH.out X (K m) (pre ++ x0 :: ys) _ (HH.out m X hX) (fun y hy => HM.out y (by rw [flatN]; exact List.mem_cons_of_mem _ (List.mem_flatMap.2 ⟨X, List.mem_of_getElem? hX, hy⟩))) (((HCW.out.trans hcr)).trans kb2.cel) zp zw (abide HJ.out HJS.out kb2) hlen)
          have j1 : (0 : Int) ≤ m := by omega
          have j2 : (m : Int) < ll := by omega
          clear hra hX hcr kb2 hlen
          gi_wp2_with (first | ((try refine ⟨hdd _, ?_⟩); gi_at_call 44; (with_reducible refine CI.out.mono ?_); rintro e W3 (⟨rfl, ys2, h1, h2, h3⟩ | ⟨rfl, ys2, h1, h2⟩)))
          · go_roundw
            case rel => exact ⟨m + 1, ys ++ ys2, by omega, by go_num, Lib.hid (by rw [List.map_append, HYS.out, h1, flat_next HXX.out]), Lib.hid (by simpa using h2), (HCR.out.trans HKB.out.cel).trans h3⟩
            case measure => simp [intOf]; omega
          · go_ret
            refine .inr ⟨rfl, x0 :: (ys ++ ys2), ?_, by simpa using h2⟩
            obtain ⟨z, hz⟩ := h1
            obtain ⟨z2, hz2⟩ := flat_pre (f := flatN r (wrap64 (d + 1))) HXX.out
            refine ⟨z ++ z2, ?_⟩
            simp only [List.map_cons, List.map_append, HX1.out, HYS.out, flatN, List.cons_append, List.append_assoc]
            rw [← hz2, ← hz]
            simp
        · obtain rfl : m = ll := by omega
          gi_wp2
          go_ret
          refine .inl ⟨rfl, x0 :: ys, ?_, HJS.out, (kbox.cel.trans KC2.out).trans hcr⟩
          have h1 := HYS.out
          rw [List.take_of_length_le (by have := HES.out; omega)] at h1
          simp only [List.map_cons, HX1.out, flatN, h1]
    · gi_wp2
      go_ret
      exact .inr ⟨rfl, [x0], ⟨T.kids.flatMap (flatN r (wrap64 (d + 1))), by simp only [List.map_cons, List.map_nil, HX1.out, flatN]; rfl⟩, hx2⟩
end Go.Proofs.Ytgamenimbkafjaa
