/- The walk through a node's nodes, as an iterator, where the loop's body owns rows that grow. No condition but what is handed in. -/
import Derived.Test.YtgamenimbkafjaaJ
import Derived.Test.YtgamenimbkafjaaK
namespace Go.Proofs.Ytgamenimbkafjaa
open Go.RowKit Go.Shelf
set_option linter.unusedVariables false
set_option linter.unusedSimpArgs false
attribute [local go_sem] Oper.semAt_some

/-- What a body owns: fixed blocks, and the blocks of the rows whose headers lie at fixed places. -/
structure Dyn where
  C : Nat → Prop
  Q : Addr → Prop
  n0 : Nat
  hC : ∀ b, C b → b < n0
  hQ : ∀ q, Q q → q.block < n0
def Dyn.At (D : Dyn) (W : World) (b : Nat) : Prop := D.C b ∨ ∃ q v, D.Q q ∧ W.cell? q = some v ∧ v.ownBlock = some b
def Dyn.WF (D : Dyn) (W : World) : Prop := ∀ b, D.At W b → b < W.heap.size
/-- No cell has turned but those that the body owns; and what it owns it had, or is new. -/
structure Cef (D : Dyn) (W W' : World) : Prop where
  size : W.heap.size ≤ W'.heap.size
  cell : D.n0 ≤ W.heap.size → ∀ (p : Addr) (v : Value), ¬ D.At W p.block → W.cell? p = some v → W'.cell? p = some v
  keep : D.n0 ≤ W.heap.size → ∀ b, D.At W' b → D.At W b ∨ W.heap.size ≤ b
  wf : D.n0 ≤ W.heap.size → D.WF W → D.WF W'
theorem Cef.refl (D : Dyn) (W : World) : Cef D W W := ⟨Nat.le_refl _, fun _ _ _ _ h => h, fun _ _ h => .inl h, fun _ h => h⟩
theorem Cef.notAt {D : Dyn} {a b : World} (h : Cef D a b) (hn : D.n0 ≤ a.heap.size) {x : Nat} (hx : x < a.heap.size) (ha : ¬ D.At a x) : ¬ D.At b x := fun hb => by
  rcases h.keep hn x hb with h | h
  · exact ha h
  · omega
theorem Cef.trans {D : Dyn} {a b c : World} (h : Cef D a b) (k : Cef D b c) : Cef D a c :=
  ⟨Nat.le_trans h.size k.size, fun hn p v hp hc => k.cell (Nat.le_trans hn h.size) p v (h.notAt hn (lt_of_cell hc) hp) (h.cell hn p v hp hc), fun hn x hx => by
    rcases k.keep (Nat.le_trans hn h.size) x hx with hx | hx
    · exact h.keep hn x hx
    · exact .inr (Nat.le_trans h.size hx), fun hn hw => k.wf (Nat.le_trans hn h.size) (h.wf hn hw)⟩
theorem cell_blk {a b : World} {q : Addr} (h : b.heap[q.block]? = a.heap[q.block]?) : b.cell? q = a.cell? q := World.cell?_of_block h
theorem Kp.at {D : Dyn} {a b : World} (h : Kp a b) (hn : D.n0 ≤ a.heap.size) {x : Nat} (hb : D.At b x) : D.At a x := by
  rcases hb with hb | ⟨q, v, hq, hv, ho⟩
  · exact .inl hb
  · exact .inr ⟨q, v, hq, (cell_blk (h.blk (Nat.lt_of_lt_of_le (D.hQ q hq) hn))).symm.trans hv, ho⟩
theorem Kp.cef {D : Dyn} {a b : World} (h : Kp a b) : Cef D a b := ⟨h.sz, fun _ p v _ hc => h.cellv hc, fun hn x hx => .inl (h.at hn hx), fun hn hw x hx => Nat.lt_of_lt_of_le (hw x (h.at hn hx)) h.sz⟩
theorem Cef.putObj {D : Dyn} (W : World) (l : Nat) (o o' : Obj) (hl : D.n0 ≤ l) (h : W.heap[l]? = some o) (hc : o.isCells = false) : Cef D W (W.putObj l o') :=
by
  have back : D.n0 ≤ W.heap.size → ∀ x, D.At (W.putObj l o') x → D.At W x := fun hn x hx => by
    rcases hx with hb | ⟨q, v, hq, hv, ho⟩
    · exact .inl hb
    · refine .inr ⟨q, v, hq, (cell_blk ?_).symm.trans hv, ho⟩
      exact (grownBy_putObj' W l o').block _ (Nat.lt_of_lt_of_le (D.hQ q hq) hn) (fun e => by have := D.hQ q hq; cases e; omega)
  exact ⟨by simp, fun _ p v _ hp => cell_kept hp (grownBy_putObj' W l o') (fun r e => by cases e; exact ⟨o, h, hc⟩), fun hn x hx => .inl (back hn x hx), fun hn hw x hx => by have := hw x (back hn x hx); simpa using this⟩
theorem Cef.range {D : Dyn} {a b : World} (h : Cef D a b) (hn : D.n0 ≤ a.heap.size) {k o : Nat} {cs : List Value} (hk : ¬ D.At a k) (hc : a.rangeAt k o cs) : b.rangeAt k o cs := fun j v hv => h.cell hn _ _ hk (hc j v hv)
theorem Lies.cef {D : Dyn} {w0 w w' : World} (h0 : Cef D w0 w) (hn : D.n0 ≤ w0.heap.size) (hk : Cef D w w') : ∀ {r : Nat} {T : Nd} {h : Hn}, Lies w0 (Out (D.At w0)) r T h → Lies w' (Out (D.At w0)) r T h
  | 0, _, _, h => h
  | r + 1, _, _, ⟨K, t, hh⟩ => ⟨K, { t with tl := ⟨t.tl.1, fun hp => by
      obtain ⟨b, o, ha, hB, hl, _, hr⟩ := t.tl.2 hp
      exact ⟨b, o, ha, hB, Nat.lt_of_lt_of_le hl (Nat.le_trans h0.size hk.size), fun h => h.elim, fun i hi => (h0.trans hk).range hn hB (hr i hi)⟩⟩ }, fun i X hX => Lies.cef h0 hn hk (hh i X hX)⟩
/-- What a round is handed: a depth and a node that lay there when the loop began. -/
abbrev Itm (w0 : World) (D : Dyn) (R : Nat) (M : Int × Nd → Prop) := Item w0 (D.At w0) R M
set_option maxRecDepth 100000 in
set_option maxHeartbeats 4000000 in
theorem walk_inD (F : Fence) (hd : F.depth = none) (hf : F.fn 44) (hro : F.round = none) (l N R B : Nat) (w0 : World) (D : Dyn) (hn0 : D.n0 ≤ w0.heap.size) (M : Int × Nd → Prop) (J Jx : List (Item w0 (D.At w0) R M) → World → Prop) (hwf : D.WF w0) (hJ : AbidesFrom B J)
    (hY : ∀ m pre (x : Item w0 (D.At w0) R M) W, J pre W → pre.length < N → YieldAt F m Try.prog l x.enc W fun e W' =>
      (e = .returned (.bool true) ∧ J (pre ++ [x]) W' ∧ Cef D W W') ∨ (e = .returned (.bool false) ∧ Jx (pre ++ [x]) W')) (bp bw : Nat) :
    ∀ (r : Nat) (T : Nd) (h : Hn) (d : Int) (n : Nat) (pre : List (Item w0 (D.At w0) R M)) (W : World), r ≤ R → Lies w0 (Out (D.At w0)) r T h → (∀ y, y ∈ flatN r d T → M y) → Cef D w0 W → ¬ D.At W bp → ¬ D.At W bw → W.cell? ⟨bp, 0, none⟩ = some (.func (.yield l) #[] #[]) →
      W.cell? ⟨bw, 0, none⟩ = some (.func (.func 44) #[] #[.pointer (some ⟨bp, 0, none⟩), .pointer (some ⟨bw, 0, none⟩)]) → J pre W → pre.length + (flatN r d T).length ≤ N →
      CallsIn F n Try.prog 44 #[.int .i64 d, h.val, .pointer (some ⟨bp, 0, none⟩), .pointer (some ⟨bw, 0, none⟩)] W fun e W' =>
        (e = .returned (.bool true) ∧ ∃ ys : List (Item w0 (D.At w0) R M), ys.map Item.pr = flatN r d T ∧ J (pre ++ ys) W' ∧ Cef D W W') ∨ (e = .returned (.bool false) ∧ ∃ ys : List (Item w0 (D.At w0) R M), ys.map Item.pr <+: flatN r d T ∧ Jx (pre ++ ys) W')
  | 0, _, _, _, _, _, _, _, hl, _, _, _, _, _, _, _, _ => hl.elim
  | r + 1, T, h, d, n, pre, W, hr, hl, hM, hcel, hbp, hbw, hcp, hcw, hj, hN => by
    have hdd : ∀ k : Nat, (F.depth.isSome = true → 1 ≤ k) := fun k h => by rw [hd] at h; cases h
    have hl0 := hl
    obtain ⟨K, t, hh⟩ := hl
    have HES := Lib.hid t.es
    have HT := Lib.hid t
    have HH := Lib.hid hh
    clear t hh
    obtain ⟨k, tx, nn, at_, la, ll, lc⟩ := h
    simp only at HES
    -- the round for this node
    obtain ⟨x0, hx1, hx2⟩ : ∃ x0 : Item w0 (D.At w0) R M, x0.pr = (d, T) ∧ x0.enc = #[.int .i64 d, .agg #[.int .i64 k, .string tx, .int .u64 nn, .int .i64 at_, .slice la ll lc]] := ⟨⟨(d, T, ⟨k, tx, nn, at_, la, ll, lc⟩), hl0.mono hr, hM _ (by simp [flatN])⟩, rfl, rfl⟩
    have kbox : Kp W (W.alloc (.cells #[.int .i64 k, .string tx, .int .u64 nn, .int .i64 at_, .slice la ll lc] 25)) := (Kp.refl W).alloc _
    have hy := hY (n - 1) pre x0 _ (abide hJ hj kbox) (by simp only [flatN, List.length_cons] at hN; omega)
    rw [hx2] at hy
    obtain ⟨u0, u1, u2, u3, u4, _⟩ := boxed (w := W) (h := ⟨k, tx, nn, at_, la, ll, lc⟩) (e := 25) (Kp.refl _)
    simp only at u0 u1 u2 u3 u4
    have hcp1 := kbox.cellv hcp
    have hcw1 := kbox.cellv hcw
    have hnW : D.n0 ≤ W.heap.size := Nat.le_trans hn0 hcel.size
    have hbpl := lt_of_cell hcp
    have hbwl := lt_of_cell hcw
    have hnbW : ¬ D.At W W.heap.size := fun hc => by have := hcel.wf hn0 hwf _ hc; omega
    have NB := Lib.hid (fun hc => hnbW (kbox.at hnW hc))
    have NP := Lib.hid (fun hc => hbp (kbox.at hnW hc))
    have NW := Lib.hid (fun hc => hbw (kbox.at hnW hc))
    have hnW1 : D.n0 ≤ (W.alloc (.cells #[.int .i64 k, .string tx, .int .u64 nn, .int .i64 at_, .slice la ll lc] 25)).heap.size := Nat.le_trans hnW kbox.sz
    have hlp1 := lt_of_cell hcp1
    have hlw1 := lt_of_cell hcw1
    have HNW1 := Lib.hid hnW1
    have HNW := Lib.hid hnW
    clear hnW1 hnW hnbW
    obtain ⟨fn, tmps, assign, body, hyr, hR⟩ := hy
    refine callsIn_of_wp Try.func44 rfl hf ?_ hro
    simp only [Try.ntmps44, List.size_toArray, List.length_cons, List.length_nil, Nat.reduceAdd, Nat.reduceSub, Array.replicate_succ, Array.replicate_zero, List.push_toArray, List.append_toArray, List.nil_append, List.cons_append]
    have HX1 := Lib.hid hx1
    have HCEL := Lib.hid hcel
    have HR := Lib.hid hR
    have hbl0 : ll * 64 ≤ 140737488351232 := HT.out.bl
    have HY := Lib.hid hY
    have HJ := Lib.hid hJ
    clear hx1 hx2 hl0 hY hcel hR hJ
    have IH := Lib.hid (fun (X : Nd) (g : Hn) (pre' : List (Item w0 (D.At w0) R M)) (W' : World) (hX : Lies w0 (Out (D.At w0)) r X g) (hMX : ∀ y, y ∈ flatN r (wrap64 (d + 1)) X → M y) => walk_inD F hd hf hro l N R B w0 D hn0 M J Jx hwf HJ.out HY.out bp bw r X g (wrap64 (d + 1)) (n - 1) pre' W' (by omega) hX hMX)
    have HM := Lib.hid hM
    clear hM
    gi_wp2_with (first | ((try refine ⟨hdd _, ?_⟩); refine HR.out.mono ?_; rintro e W2 (⟨rfl, hJ2, hc2⟩ | ⟨rfl, hx2⟩); (try (have v4 := hc2.cell HNW1.out ⟨W.heap.size, 4, none⟩ _ NB.out u4; have vw := hc2.cell HNW1.out ⟨bw, 0, none⟩ _ NW.out hcw1; have vp := hc2.cell HNW1.out ⟨bp, 0, none⟩ _ NP.out hcp1; have KC2 := Lib.hid hc2; have HJ2 := Lib.hid hJ2; clear hc2 hJ2))))
    · have HCW := Lib.hid ((HCEL.out.trans kbox.cef).trans KC2.out)
      have CSZ := Lib.hid (show w0.heap.size ≤ W2.heap.size from HCW.out.size)
      have NP2 := Lib.hid (KC2.out.notAt HNW1.out hlp1 NP.out)
      have NW2 := Lib.hid (KC2.out.notAt HNW1.out hlw1 NW.out)
      have HN2 := Lib.hid (Nat.le_trans hn0 HCW.out.size)
      gi_loopw [17] (fun i wr => ∃ (m : Nat) (ys : List (Item w0 (D.At w0) R M)), m ≤ ll ∧ i = .int .i64 m ∧ Hid (ys.map Item.pr = (T.kids.take m).flatMap (flatN r (wrap64 (d + 1)))) ∧ Hid (J (pre ++ x0 :: ys) wr) ∧ Cef D W2 wr) (fun i _ => ll - (intOf i).toNat)
      case atStart => exact ⟨0, [], Nat.zero_le _, rfl, Lib.hid rfl, HJ2, Cef.refl _ _⟩
      case round =>
        obtain ⟨m, ys, hm, rfl, HYS, HJS, hcr⟩ := hrel
        by_cases hlt : m < ll
        · obtain ⟨X, hX⟩ : ∃ X, T.kids[m]? = some X := ⟨_, List.getElem?_eq_getElem (by have := HES.out; omega)⟩
          obtain ⟨ta, to, hla, hta, hlt2, _, hra⟩ := HT.out.tl.2 (show 0 < ll by omega)
          simp only at hla
          subst hla
          obtain ⟨x0', x1, x2, x3, x4⟩ := node_at ((HCW.out.trans hcr).range hn0 hta (hra m hlt))
          have yw := hcr.cell HN2.out ⟨bw, 0, none⟩ _ NW2.out vw
          have yp := hcr.cell HN2.out ⟨bp, 0, none⟩ _ NP2.out vp
          have kb2 : Kp wr (wr.alloc (.cells #[.int .i64 (K m).k, .string (K m).tx, .int .u64 (K m).n, .int .i64 (K m).at_, .slice (K m).la (K m).ll (K m).lc] 25)) := (Kp.refl wr).alloc _
          have zw := kb2.cellv yw
          have zp := kb2.cellv yp
          have hbl := lt_of_cell yw
          have hbt := lt_of_cell x0'
          have NP3 := Lib.hid (fun hc => hcr.notAt HN2.out (lt_of_cell vp) NP2.out (kb2.at (Nat.le_trans HN2.out hcr.size) hc))
          have NW3 := Lib.hid (fun hc => hcr.notAt HN2.out (lt_of_cell vw) NW2.out (kb2.at (Nat.le_trans HN2.out hcr.size) hc))
          have HXX := Lib.hid hX
          have HCR := Lib.hid hcr
          have HKB := Lib.hid kb2
          have hlen : (pre ++ x0 :: ys).length + (flatN r (wrap64 (d + 1)) X).length ≤ N := by
            have h1 := congrArg List.length HYS.out
            rw [List.length_map] at h1
            have h2 : ((T.kids.take m).flatMap (flatN r (wrap64 (d + 1)))).length + (flatN r (wrap64 (d + 1)) X).length ≤ (T.kids.flatMap (flatN r (wrap64 (d + 1)))).length := flat_len_le hX
            simp only [flatN, List.length_cons] at hN
            simp only [List.length_append, List.length_cons]
            omega
          have CI := Lib.hid (IH.out X (K m) (pre ++ x0 :: ys) _ (HH.out m X hX) (fun y hy => HM.out y (by rw [flatN]; exact List.mem_cons_of_mem _ (List.mem_flatMap.2 ⟨X, List.mem_of_getElem? hX, hy⟩))) (((HCW.out.trans hcr)).trans kb2.cef) NP3.out NW3.out zp zw (abide HJ.out HJS.out kb2) hlen)
          have j1 : (0 : Int) ≤ m := by omega
          have j2 : (m : Int) < ll := by omega
          clear hra hX hcr kb2 hlen
          gi_wp2_with (first | ((try refine ⟨hdd _, ?_⟩); gi_at_call 44; (with_reducible refine CI.out.mono ?_); rintro e W3 (⟨rfl, ys2, h1, h2, h3⟩ | ⟨rfl, ys2, h1, h2⟩)))
          · go_roundw
            case rel => exact ⟨m + 1, ys ++ ys2, by omega, by go_num, Lib.hid (by rw [List.map_append, HYS.out, h1, flat_next HXX.out]), Lib.hid (by simpa using h2), (HCR.out.trans HKB.out.cef).trans h3⟩
            case measure => simp [intOf]; omega
          · go_ret
            refine .inr ⟨rfl, x0 :: (ys ++ ys2), ?_, by simpa using h2⟩
            obtain ⟨z, hz⟩ := h1
            obtain ⟨z2, hz2⟩ := flat_pre (f := flatN r (wrap64 (d + 1))) HXX.out
            refine ⟨z ++ z2, ?_⟩
            simp only [List.map_cons, List.map_append, HX1.out, HYS.out, flatN, List.cons_append, List.append_assoc]
            rw [← hz2, ← hz]
            simp
        · obtain rfl : m = ll := by omega
          gi_wp2
          go_ret
          refine .inl ⟨rfl, x0 :: ys, ?_, HJS.out, (kbox.cef.trans KC2.out).trans hcr⟩
          have h1 := HYS.out
          rw [List.take_of_length_le (by have := HES.out; omega)] at h1
          simp only [List.map_cons, HX1.out, flatN, h1]
    · gi_wp2
      go_ret
      exact .inr ⟨rfl, [x0], ⟨T.kids.flatMap (flatN r (wrap64 (d + 1))), by simp only [List.map_cons, List.map_nil, HX1.out, flatN]; rfl⟩, hx2⟩
set_option maxRecDepth 100000 in
set_option maxHeartbeats 4000000 in
theorem each1_inD (F : Fence) (hd : F.depth = none) (n : Nat) (hf : F.fn 43) (hf2 : F.fn 44) (hro : F.round = none) (l R B bN : Nat) (w0 : World) (D : Dyn) (hn0 : D.n0 ≤ w0.heap.size) (M : Int × Nd → Prop) (T : Nd) (h : Hn) (hl : Lies w0 (Out (D.At w0)) R T h) (hM : ∀ y, y ∈ flatN R 0 T → M y)
    (J Jx : List (Item w0 (D.At w0) R M) → World → Prop) (hwf : D.WF w0) (hJ : AbidesFrom B J)
    (hY : ∀ m pre (x : Item w0 (D.At w0) R M) W, J pre W → pre.length < (flatN R 0 T).length → YieldAt F m Try.prog l x.enc W fun e W' =>
      (e = .returned (.bool true) ∧ J (pre ++ [x]) W' ∧ Cef D W W') ∨ (e = .returned (.bool false) ∧ Jx (pre ++ [x]) W'))
    (W : World) (hW : Cef D w0 W) (hN : W.rangeAt bN 0 h.cells) (hj : J [] W) :
    CallsIn F n Try.prog 43 #[.func (.yield l) #[] #[], .pointer (some ⟨bN, 0, none⟩)] W fun e W' => (∃ v, e = .returned v) ∧
      ((∃ ys : List (Item w0 (D.At w0) R M), ys.map Item.pr = flatN R 0 T ∧ J ys W') ∨ (∃ pre : List (Item w0 (D.At w0) R M), pre.map Item.pr <+: flatN R 0 T ∧ Jx pre W')) := by
  have hdd : ∀ k : Nat, (F.depth.isSome = true → 1 ≤ k) := fun k h => by rw [hd] at h; cases h
  obtain ⟨k, tx, nn, at_, la, ll, lc⟩ := h
  obtain ⟨n0, n1, n2, n3, n4⟩ := node_at hN
  have hbl := lt_of_cell n0
  have hsz := hW.size
  have hWF := hW.wf hn0 hwf
  have hnW : D.n0 ≤ W.heap.size := Nat.le_trans hn0 hW.size
  have NK := Lib.hid (fun (W1 : World) (hk : Kp W W1) (b : Nat) (hb : W.heap.size ≤ b) (hc : D.At W1 b) => (show False by have := hWF _ (hk.at hnW hc); omega))
  have HN := Lib.hid hN
  have HW := Lib.hid hW
  have WI := Lib.hid (fun W1 n => walk_inD F hd hf2 hro l (flatN R 0 T).length R B w0 D hn0 M J Jx hwf hJ hY W.heap.size (W.heap.size + 1) R T ⟨k, tx, nn, at_, la, ll, lc⟩ 0 n [] W1 (Nat.le_refl _) hl hM)
  have HJ := Lib.hid hJ
  clear hN hW hJ hY hl
  refine callsIn_of_wp Try.func43 rfl hf ?_ hro
  simp only [Try.ntmps43, List.size_toArray, List.length_cons, List.length_nil, Nat.reduceAdd, Nat.reduceSub, Array.replicate_succ, Array.replicate_zero, List.push_toArray, List.append_toArray, List.nil_append, List.cons_append]
  gi_wp2
  refine (WI.out _ _ (HW.out.trans (Kp.cef (by (repeat (first | exact Kp.refl _ | refine Kp.alloc ?_ _ | refine Kp.setCell ?_ (by simp) _))))) (fun hc => NK.out _ (by (repeat (first | exact Kp.refl _ | refine Kp.alloc ?_ _ | refine Kp.setCell ?_ (by simp) _))) _ (Nat.le_refl _) hc) (fun hc => NK.out _ (by (repeat (first | exact Kp.refl _ | refine Kp.alloc ?_ _ | refine Kp.setCell ?_ (by simp) _))) _ (by omega) hc) (by simp [go_sem]) (by simp [go_sem]) (abide HJ.out hj (by (repeat (first | exact Kp.refl _ | refine Kp.alloc ?_ _ | refine Kp.setCell ?_ (by simp) _)))) (by simp)).mono ?_
  rintro e W2 (⟨rfl, ys, h1, h2, h3⟩ | ⟨rfl, ys, h1, h2⟩)
  · gi_wp2
    go_end0
    exact ⟨⟨_, rfl⟩, .inl ⟨ys, h1, by simpa using h2⟩⟩
  · gi_wp2
    go_end0
    exact ⟨⟨_, rfl⟩, .inr ⟨ys, h1, by simpa using h2⟩⟩
theorem each_stopsD (F : Fence) (hd : F.depth = none) (n : Nat) (hf : F.fn 43) (hf2 : F.fn 44) (hro : F.round = none) (R bN : Nat) (w0 w : World) (D : Dyn) (hn0 : D.n0 ≤ w0.heap.size) (M : Int × Nd → Prop) (T : Nd) (h : Hn) (hl : Lies w0 (Out (D.At w0)) R T h) (hM : ∀ y, y ∈ flatN R 0 T → M y)
    (hw : Cef D w0 w) (hwf : D.WF w0) (hN : w.rangeAt bN 0 h.cells) :
    SeqStopsK F n Try.prog 43 #[.pointer (some ⟨bN, 0, none⟩)] (Item.enc (w0 := w0) (C := D.At w0) (R := R) (M := M)) (Cef D) (fun ys => ys.map Item.pr = flatN R 0 T) (fun pre => pre.map Item.pr <+: flatN R 0 T) (flatN R 0 T).length w := fun l J Jx W hW hJ hJx hY hj =>
  each1_inD F hd n hf hf2 hro l R W.heap.size bN w0 D hn0 M T h hl hM J Jx hwf hJ (fun m pre x W1 hj hl => YieldAt.anyDepth hd m (hY pre x W1 hj hl)) W (hw.trans (Kp.cef hW)) (Kp.range hW hN) hj
theorem cefK_b {D : Dyn} {w : World} (hw : D.n0 ≤ w.heap.size) (W : World) (l : Nat) (o o' : Obj) (hl : w.heap.size ≤ l) (h : W.heap[l]? = some o) (hc : o.isCells = false) (_ : o.isWalk = false) : Cef D W (W.putObj l o') := Cef.putObj W l o o' (Nat.le_trans hw hl) h hc
end Go.Proofs.Ytgamenimbkafjaa
