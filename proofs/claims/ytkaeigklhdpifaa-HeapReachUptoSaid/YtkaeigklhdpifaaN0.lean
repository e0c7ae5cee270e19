/- The law's names: what All gives, as a list. Condition: All hands back an iterator over a row that lies below what is made later, of at most 65536 numbers. -/
import Derived.Test.YtkaeigklhdpifaaA6
import Derived.RangeFuncBox
import Derived.RangeFuncWrites
import Derived.RangeFuncLeaves
import Derived.Shelf.Abstract
import Derived.OwnWalkIn
import Derived.TacticsInMore
import Derived.LoopNIn
import Derived.LoopIn
namespace Go.Proofs.Ytkaeigklhdpifaa
open Go.RowKit Go.Shelf Go.Maps Go.Sort
attribute [local go_sem] Oper.semAt_some
set_option linter.unusedVariables false
set_option linter.unusedSimpArgs false
theorem take_snoc {l : List Int} {k : Nat} {x : Int} (h : l[k]? = some x) : l.take (k + 1) = l.take k ++ [x] := by rw [List.take_add_one, h]; rfl
set_option maxRecDepth 100000 in
set_option maxHeartbeats 2000000 in
theorem vals1 (F : Fence) (n : Nat) (h7 : F.fn 58) (hro : F.round = none) (hn : 1 ≤ n) (l Bs n₀ : Nat) (ad : Option Addr) (cap : Nat) (zs : List Int) (hreach : zs.length * 8 ≤ 140737488351232) (J Jx : List Int → World → Prop)
    (hY : ∀ pre x W, J pre W → pre.length < zs.length → YieldAt F (n - 1) Try.prog l #[.int .i64 x] W fun e W' =>
      (e = .returned (.bool true) ∧ J (pre ++ [x]) W' ∧ Below n₀ W W') ∨ (e = .returned (.bool false) ∧ Jx (pre ++ [x]) W'))
    (W : World) (hBs : W.cell? ⟨Bs, 0, none⟩ = some (.slice ad zs.length cap)) (hc : ∀ j x, zs[j]? = some x → ∃ b o, ad = some ⟨b, o, none⟩ ∧ b < n₀ ∧ W.cell? ⟨b, o + j, none⟩ = some (.int .i64 x)) (h0 : J [] W) :
    CallsIn F n Try.prog 58 #[.func (.yield l) #[] #[], .pointer (some ⟨Bs, 0, none⟩)] W fun e W' => (∃ v, e = .returned v) ∧ (J zs W' ∨ ∃ pre, pre <+: zs ∧ Jx pre W') := by
  have HC := Lib.hid hc
  clear hc
  refine callsIn_of_wp Try.func58 rfl h7 ?_ hro
  simp only [Try.ntmps58, List.size_toArray, List.length_cons, List.length_nil, Nat.reduceAdd, Nat.reduceSub, Array.replicate_succ, Array.replicate_zero, List.push_toArray, List.append_toArray, List.nil_append, List.cons_append]
  gi_wp2
  gi_loopw [7] (fun i wr => ∃ k : Nat, k ≤ zs.length ∧ i = .int .i64 k ∧ J (zs.take k) wr ∧ Below n₀ W wr)
    (fun i _ => zs.length - (intOf i).toNat)
  case atStart => exact ⟨0, Nat.zero_le _, rfl, h0, Below.refl _ _⟩
  case round =>
    obtain ⟨k, hk, rfl, hJs, hnx⟩ := hrel
    by_cases hlt : k < zs.length
    · obtain ⟨x, hx⟩ : ∃ x, zs[k]? = some x := ⟨_, List.getElem?_eq_getElem hlt⟩
      obtain ⟨b, o, rfl, hb, hcx⟩ := HC.out k x hx
      have hcx' := (hnx.cell (p := ⟨b, o + k, none⟩) hb).trans hcx
      obtain ⟨fn, tmps, assign, body, hy, hR⟩ := hY _ x wr hJs (by rw [List.length_take]; omega)
      have HX := Lib.hid hx
      clear hx
      gi_wp2
      refine hR.mono ?_
      rintro e W3 (⟨rfl, hJ3, hk3⟩ | ⟨rfl, hJx3⟩)
      · gi_wp2
        go_roundw
        case rel => exact ⟨k + 1, by omega, by simp, by rw [take_snoc HX.out]; exact hJ3, hnx.trans hk3⟩
        case measure => simp [intOf]; omega
      · gi_wp2
        refine bodyPost_ret (results_none rfl _ _ _) rfl ?_
        exact ⟨⟨_, rfl⟩, .inr ⟨_, by rw [← take_snoc HX.out]; exact List.take_prefix _ _, hJx3⟩⟩
    · obtain rfl : k = zs.length := by omega
      gi_wp2
      go_end0
      exact ⟨⟨_, rfl⟩, .inl (by rw [List.take_of_length_le (Nat.le_refl _)] at hJs; exact hJs)⟩
/-- The row of an iterator's box. -/
theorem vals_stops (F : Fence) (n : Nat) (h7 : F.fn 58) (hro : F.round = none) (hn : 1 ≤ n) (Bs n₀ : Nat) (u : Value) (zs : List Int) (hreach : zs.length * 8 ≤ 140737488351232) (w : World) (hBs : Bs < w.heap.size) (hn₀ : n₀ ≤ w.heap.size)
    (hc : w.cell? ⟨Bs, 0, none⟩ = some u) (w0 : World) (B : Sel) (hI : IL w0 B zs u) (h0 : w0.heap.size ≤ n₀) (hk : Kp w0 w) :
    SeqStopsK F n Try.prog 58 #[.pointer (some ⟨Bs, 0, none⟩)] (fun x : Int => #[Value.int .i64 x]) (Below n₀) (fun ys => ys = zs) (fun pre => pre <+: zs) zs.length w := fun l J Jx W hW _ _ hY hJ => by
  obtain ⟨ad, c, C, rfl, hlc, hby, hC, htab, hx⟩ := hI
  have hc' := (hW.cell (p := ⟨Bs, 0, none⟩) hBs).trans hc
  refine (vals1 F n h7 hro hn l Bs n₀ ad c zs hreach J Jx hY W hc' (fun j x hj => ?_) hJ).mono ?_
  · have hl := (List.getElem?_eq_some_iff.1 hj).1
    obtain ⟨b, o, ha, hr⟩ := htab.at (by omega)
    have hrj := hr j hl
    rw [(hx j x hj).1, Nat.mul_one] at hrj
    have e0 := rangeAt_head hrj
    have hb := lt_of_cell e0
    exact ⟨b, o, ha, Nat.lt_of_lt_of_le hb h0, (hW.cell (p := ⟨b, o + j, none⟩) (Nat.lt_of_lt_of_le hb hk.sz)).trans (hk.cellv e0)⟩
  · rintro e W' ⟨he, h | ⟨pre, h1, h2⟩⟩
    · exact ⟨he, .inl ⟨_, rfl, h⟩⟩
    · exact ⟨he, .inr ⟨pre, h1, h2⟩⟩
set_option maxRecDepth 100000 in
theorem nil_no (W : World) (kb : Nat) : (binOp BinOp.eql 87 (.func (.func 58) #[] #[.pointer (some ⟨kb, 0, none⟩)]) .nilFunc).run Try.prog W = .ok (.bool false) W := by
  first
  | rfl
  | (simp [binOp, go_sem]; done)
theorem at_alloc0 {w : World} {o x : Obj} {b : Nat} (h : w.heap[b]? = some x) : (w.alloc o).heap[b]? = some x := (heap_alloc_old w o b (row_lt h)).trans h
theorem at_grown0 {w w' : World} {r : Option Nat} {x : Obj} {b : Nat} (g : w.grownBy w' r) (h : w.heap[b]? = some x) (hn : some b ≠ r) : w'.heap[b]? = some x := (g.block b (row_lt h) hn).trans h
theorem new_one (W : World) (v : Value) (e : TypeId) : ∀ j u, [v][j]? = some u → (W.alloc (.cells #[v] e)).cell? ((⟨W.heap.size, 0, none⟩ : Addr).add j) = some u := fun j u hu => by
  rw [Addr.add_mid, Nat.zero_add, cell_of_row _ W.heap.size j #[v] e (0, 0) (heap_alloc_new _ _)]
  simpa using hu
/-- One number is appended within a round. -/
theorem wpListIn_append_num {F : Fence} {n : Nat} {P : Program} {w1 : World} {ops : Array Oper} {rest : List Oper} {a : Act} {Q : Exit → Act → World → Prop} {d : Tmp} {op : Op} {ty' : TypeId} {pos : String} {af : Array Edge} (s x : Operand) (t : TypeId)
    (hop : op = .call { callee := .builtin .append, args := #[s, x], argTypes := #[t, t] })
    (base : Nat) (e : TypeId) (i : TypeInfo) (z : Value) (bytes : Nat) (h1 : P.underlying t = some (.slice e)) (h2 : P.info? e = some i) (h3 : i.zero = some z) (h4 : i.size = 1) (h5 : i.bytes = bytes) (h6 : z.cells.size = 1)
    (v : Value) (k : Nat) (xs : List Value) (hs : a.eval s = v) (hown : w1.ownsRow base e 1 v k xs) (y : Int) (e' : TypeId) (hx : a.eval x = .slice (some ⟨w1.heap.size, 0, none⟩) 1 1) (b1 : k + 1 ≤ maxLen) (b2 : (k + 1) * bytes ≤ 140737488355328) (b3 : base ≤ w1.heap.size)
    (hK : ∀ v' w', w'.ownsRow base e 1 v' (k + 1) (xs ++ [.int .i64 y]) → (w1.alloc (.cells #[.int .i64 y] e')).grownBy w' v.ownBlock → wpListIn F n P ops Q rest (a.put (some d) v') w') :
    wpListIn F n P ops Q (⟨some d, op, ty', pos, af, none⟩ :: rest) a (w1.alloc (.cells #[.int .i64 y] e')) := by
  subst hop
  exact wpListIn_append_own (w1.alloc (.cells #[.int .i64 y] e')) rfl s x t rfl base e i z 1 bytes h1 h2 h3 h4 h5 h6 (by omega) v k xs hs (hown.alloc _) ⟨w1.heap.size, 0, none⟩ 1 1 [.int .i64 y] hx rfl (new_one w1 _ _) (fun u hu => by rw [List.mem_singleton] at hu; subst hu; rfl) b1 b2 (by simp; omega) (fun v' w' h h' _ => hK v' w' h h')
/-- What names has gathered. -/
structure GatI (w3 w4 : World) (pre : List Int) (W : World) : Prop where
  row : ∃ v, W.heap[w3.heap.size]? = some (.cells #[v] 33 (0, 0)) ∧ W.ownsRow w4.heap.size 3 1 v pre.length (pre.map encZ)
  kp : Kp w3 W
theorem GatI.grown {w3 w4 A B : World} {pre : List Int} {row : Option Nat} (h : GatI w3 w4 pre A) (h0 : w3.heap.size < w4.heap.size) (hg : A.grownBy B row) (hr : ∀ r, row = some r → w4.heap.size ≤ r ∧ ∃ o : Obj, A.heap[r]? = some o ∧ o.isCells = false) : GatI w3 w4 pre B where
  row := by
    obtain ⟨v, h1, h2⟩ := h.row
    refine ⟨v, (hg.block _ (row_lt h1) (fun e => by have := (hr _ e.symm).1; omega)).trans h1, own_turn h2 (fun g hgg => hg.block g (h2.lt g hgg).2 (fun e => ?_))⟩
    obtain ⟨_, o, ho, hc⟩ := hr g e.symm
    obtain ⟨cur, hcu⟩ := own_cells h2 hgg
    rw [hcu] at ho; cases ho; cases hc
  kp := h.kp.grown hg (fun k e => by have := (hr k e).1; omega)
theorem gat_put {w3 w4 W w5 : World} {pre : List Int} {x : Int} {v : Value} {a5 : Option Addr} {c5 n5 : Nat} (hz : w3.heap.size < w4.heap.size) (hb : W.heap[w3.heap.size]? = some (.cells #[v] 33 (0, 0))) (ho : W.ownsRow w4.heap.size 3 1 v pre.length (pre.map encZ)) (hk : Kp w3 W)
    (hg : (W.alloc (.cells #[.int .i64 x] 3)).grownBy w5 v.ownBlock) (ho5 : w5.ownsRow w4.heap.size 3 1 (.slice a5 n5 c5) (pre.length + 1) (pre.map encZ ++ [.int .i64 x])) :
    KeepsFrom w4.heap.size W (w5.setCell ⟨w3.heap.size, 0, none⟩ (.slice a5 n5 c5)) ∧ Below w3.heap.size W (w5.setCell ⟨w3.heap.size, 0, none⟩ (.slice a5 n5 c5)) ∧ GatI w3 w4 (pre ++ [x]) (w5.setCell ⟨w3.heap.size, 0, none⟩ (.slice a5 n5 c5)) := by
  have hset : ∀ j, j ≠ w3.heap.size → (w5.setCell ⟨w3.heap.size, 0, none⟩ (.slice a5 n5 c5)).heap[j]? = w5.heap[j]? := fun j hj => Below.heap_setCell _ _ _ _ hj
  have hsz := hg.size
  simp at hsz
  have hb5 := at_grown0 hg (at_alloc0 hb) (fun e => by have := (ho.lt _ e.symm).1; omega)
  have b1 : Below w3.heap.size W (w5.setCell ⟨w3.heap.size, 0, none⟩ (.slice a5 n5 c5)) := ((((Below.refl w3.heap.size W).alloc hk.sz _).grown hg (by simp; have := hk.sz; omega) (fun k e => by have := (ho.lt k e).1; omega))).setCell (p := ⟨w3.heap.size, 0, none⟩) (Nat.le_refl _) _
  refine ⟨⟨by rw [World.size_setCell]; omega, fun k o hk4 hko hc => ?_⟩, b1, ⟨⟨.slice a5 n5 c5, ?_, ?_⟩, Below.trans hk b1⟩⟩
  · rw [hset k (by omega)]
    refine at_grown0 hg (at_alloc0 hko) (fun e => ?_)
    obtain ⟨cur, hcu⟩ := own_cells ho e.symm
    rw [hcu] at hko; cases hko; cases hc
  · exact heap_setCell_same w5 _ 0 _ _ _ hb5
  · rw [List.length_append, List.length_singleton, List.map_append, List.map_singleton]
    exact own_turn ho5 (fun g hgg => hset g (by have := (ho5.lt g hgg).1; omega))
set_option maxRecDepth 100000 in
set_option maxHeartbeats 4000000 in
theorem c_names0 (n : Nat) (hn : 4 ≤ n) (arg : Value) (zs : List Int) (hz : zs.length ≤ 65536) (hi : ∀ x ∈ zs, i64 x) (w : World)
    (hAll : ∀ w1, Kp w w1 → Calls Try.prog 46 #[arg] w1 fun e w' => ∃ b u, e = .returned (.func (.func 58) #[] #[.pointer (some ⟨b, 0, none⟩)]) ∧ w'.cell? ⟨b, 0, none⟩ = some u ∧ b < w'.heap.size ∧ IL w' (From w1.heap.size) zs u ∧ Kp w1 w') :
    CallsIn Fence.wide n Try.prog 24 #[arg] w fun e w' => ∃ u, e = .returned (.tuple #[u, .bool true]) ∧ IL w' (From w.heap.size) zs u ∧ Kp w w' := by
  have hn1 : 1 ≤ n := by omega
  have AL := Lib.hid (fun (W : World) (m : Nat) (hk : Kp w W) => (callsIn_wide (n := m)).2 (hAll W hk))
  clear hAll
  have HI := Lib.hid hi
  clear hi
  have hro : Fence.wide.round = none := rfl
  have hnil := nil_no
  refine callsIn_of_wp_marks Try.func24 rfl trivial ?_ hro
  simp only [Try.ntmps24, List.size_toArray, List.length_cons, List.length_nil, Nat.reduceAdd, Nat.reduceSub, Array.replicate_succ, Array.replicate_zero, List.push_toArray, List.append_toArray, List.nil_append, List.cons_append]
  gi_wp2_with (first | ((try refine ⟨trivial, ?_⟩); gi_at_call 46; refine (AL.out _ (n - 1) (by (repeat (first | with_reducible exact Kp.refl _ | refine Kp.alloc ?_ _)))).mono ?_; rintro e w3 ⟨b, u, rfl, hbc, hbz, hil, hk3⟩; have HIL := Lib.hid hil; have HBC := Lib.hid hbc; have K3 := Lib.hid hk3; clear hil hbc hk3))
  obtain ⟨w4, hw4⟩ : ∃ w4, w3.alloc (.cells #[.slice none 0 0] 33) = w4 := ⟨_, rfl⟩
  have hsz : w4.heap.size = w3.heap.size + 1 := by rw [← hw4]; simp
  have hk4 : Kp w3 w4 := by rw [← hw4]; exact (Kp.refl w3).alloc _
  have hb4 : w4.heap[w3.heap.size]? = some (.cells #[.slice none 0 0] 33 (0, 0)) := by rw [← hw4]; exact heap_alloc_new _ _
  rw [hw4]
  clear hw4
  have hI0 : GatI w3 w4 [] w4 := ⟨⟨_, hb4, World.ownsRow_nil _ _ _ _⟩, hk4⟩
  have hbz4 : b < w4.heap.size := by omega
  have hbc4 := hk4.cellv HBC.out
  have HK4 := Lib.hid hk4
  have h2z : w.heap.size + 1 < w3.heap.size := by have := K3.out.sz; simp at this; omega
  have z2 : w3.heap[w.heap.size]? = some (.cells #[.slice none 0 0] 33 (0, 0)) := K3.out.blk (by simp; omega) |>.trans (at_alloc0 (heap_at rfl))
  have z3 : w3.heap[w.heap.size + 1]? = some (.cells #[.bool false] 4 (0, 0)) := K3.out.blk (by simp) |>.trans (heap_at (by simp))
  have Z2 := Lib.hid z2
  have Z3 := Lib.hid z3
  have hszle : w3.heap.size + 1 ≤ w4.heap.size := by omega
  have hszge : w4.heap.size ≤ w3.heap.size + 1 := by omega
  have HSZ := Lib.hid hsz
  clear z2 z3 hb4 hk4 hsz
  refine wpIn_rangeFunc_ownG hro hn1 (gf := 58) (lb := #[.pointer (some ⟨b, 0, none⟩)]) rfl trivial (enters_of Try.func58 (by kernel_rfl) rfl)
    (vals_stops Fence.wide (n - 1) trivial rfl (by omega) b w3.heap.size u zs (by omega) w4 hbz4 (by omega) hbc4 w3 _ HIL.out (Nat.le_refl _) HK4.out) belowK_t (belowK_b (by omega)) (Below.refl _ _) (fun _ => rfl)
    (fun pre W => GatI w3 w4 pre W) (fun _ _ _ => False)
    (fun pre A B' row hs hg hr => hs.grown (by omega) hg hr) (fun _ _ _ _ _ hs _ _ => hs) hI0
    (fun x => { tmps := #[arg, undef, .pointer (some ⟨w.heap.size, 0, none⟩), .pointer (some ⟨w.heap.size + 1, 0, none⟩), .func (.func 58) #[] #[.pointer (some ⟨b, 0, none⟩)], .pointer (some ⟨w3.heap.size, 0, none⟩), .int .i64 x, arg, .func (.func 58) #[] #[.pointer (some ⟨b, 0, none⟩)], .func (.func 58) #[] #[.pointer (some ⟨b, 0, none⟩)], .bool false, .func (.func 58) #[] #[.pointer (some ⟨b, 0, none⟩)], .int .i64 x, undef, undef, undef, undef, undef, undef, undef, undef], defers := [] }) ?assign ?body ?done ?stop
  case assign =>
    intro l x W K hK
    gi_wp2
    exact hK
  case body =>
    rintro l pre x W hI hlen
    obtain ⟨v, hb, ho⟩ := hI.row
    obtain ⟨av, cv, rfl⟩ := own_slice ho
    have c0 := row_cell hb 0
    simp only [List.getElem?_toArray, List.getElem?_cons_zero] at c0
    have f0 := frozen_of_row _ _ 0 _ _ hb
    have hbl := row_lt hb
    have HBB := Lib.hid hb
    have HO := Lib.hid ho
    have HKP := Lib.hid hI.kp
    have hpl : pre.length + 1 ≤ 65536 := by omega
    obtain ⟨i4, hq, hq0, hq1, hq2⟩ := info_parts infoI
    have hW4 : w4.heap.size ≤ W.heap.size := by omega
    have d1 : decide ((65536 : Int) < ((pre.length : Nat) : Int) + 1) = false := decide_eq_false (by omega)
    clear hb ho hI
    gi_wp2_with (first | ((with_reducible show wpListIn _ _ _ _ _ (⟨some 16, _, _, _, _, _⟩ :: _) _ _); refine wpListIn_append_num (d := 16) _ _ 33 rfl w4.heap.size 3 i4 _ 8 Try.underlying33 hq hq0 hq1 hq2 rfl (.slice av pre.length cv) pre.length _ (by rfl) HO.out x 3 (by rfl) (by unfold maxLen; omega) (by omega) (by omega) ?_; intro v2 w5 ho5 hg5; obtain ⟨a5, c5', rfl⟩ := own_slice ho5; have HO5 := Lib.hid ho5; have HG5 := Lib.hid hg5; have hb5 := at_grown0 hg5 (at_alloc0 HBB.out) (fun e => by have := (HO.out.lt _ e.symm).1; omega); have HB5 := Lib.hid hb5; have c5 := row_cell hb5 0; simp only [List.getElem?_toArray, List.getElem?_cons_zero] at c5; have f5 := frozen_of_row _ _ 0 _ _ hb5; have hbl5 := row_lt hb5; clear ho5 hg5 hb5))
    exact gat_put (by omega) HBB.out HO.out HKP.out HG5.out HO5.out
  case done =>
    rintro D ys W hD rfl hI hK
    obtain ⟨v, hb, ho⟩ := hI.row
    obtain ⟨a5, c5, rfl⟩ := own_slice ho
    have c0 := row_cell hb 0
    simp only [List.getElem?_toArray, List.getElem?_cons_zero] at c0
    have kp := hI.kp
    have y2 := (kp.blk (row_lt Z2.out)).trans Z2.out
    have y3 := (kp.blk (row_lt Z3.out)).trans Z3.out
    have d2 := row_cell y2 0
    have d3 := row_cell y3 0
    simp only [List.getElem?_toArray, List.getElem?_cons_zero] at d2 d3
    have g2 := frozen_of_row _ _ 0 _ _ y2
    have g3 := frozen_of_row _ _ 0 _ _ y3
    have HO := Lib.hid ho
    have KP := Lib.hid kp
    have HKK := Lib.hid hK
    have HY2 := Lib.hid y2
    have HY3 := Lib.hid y3
    have wz1 : w.heap.size + 1 < W.heap.size := row_lt y3
    clear hI ho kp y2 y3 hK
    gi_wp2
    obtain ⟨WE, hWE⟩ : ∃ WE, (W.setCell ⟨w.heap.size, 0, none⟩ (.slice a5 ys.length c5)).setCell ⟨w.heap.size + 1, 0, none⟩ (.bool true) = WE := ⟨_, rfl⟩
    have so : ∀ b, b ≠ w.heap.size → b ≠ w.heap.size + 1 → WE.heap[b]? = W.heap[b]? := fun b h1 h2 => by
      rw [← hWE]
      exact (Below.heap_setCell _ _ _ _ h2).trans (Below.heap_setCell _ _ _ _ h1)
    have x2 : WE.heap[w.heap.size]? = some (.cells #[.slice a5 ys.length c5] 33 (0, 0)) := by
      rw [← hWE]
      exact (Below.heap_setCell _ _ _ _ (by show w.heap.size ≠ w.heap.size + 1; omega)).trans (heap_setCell_same W _ 0 _ _ _ HY2.out)
    have x3 : WE.heap[w.heap.size + 1]? = some (.cells #[.bool true] 4 (0, 0)) := by
      rw [← hWE]
      exact heap_setCell_same _ _ 0 _ _ _ ((Below.heap_setCell _ _ _ _ (by show w.heap.size + 1 ≠ w.heap.size; omega)).trans HY3.out)
    have hKE : WE.heap[D]? = some (.deferred (some [])) := (so D (by omega) (by omega)).trans HKK.out
    have c2 := row_cell x2 0
    have c3 := row_cell x3 0
    simp only [List.getElem?_toArray, List.getElem?_cons_zero] at c2 c3
    have gk := grownBy_putObj' WE D (.deferred none)
    have gr : ∀ r, some D = some r → ∃ o : Obj, WE.heap[r]? = some o ∧ o.isCells = false := fun r e => by cases e; exact ⟨_, hKE, rfl⟩
    have k2 := cell_kept c2 gk gr
    have k3 := cell_kept c3 gk gr
    have l1 := HO.out.lt
    rw [hWE]
    refine ⟨by simp, .inl ⟨_, _, rfl, run_takeDeferred hKE, ?_⟩⟩
    have hkw : Kp w W := (K3.out.back ((((Kp.refl w).alloc _).alloc _))).trans KP.out
    have hkE : Kp w WE := by
      rw [← hWE]
      exact (hkw.setCell (Nat.le_refl _) _).setCell (by show w.heap.size ≤ w.heap.size + 1; omega) _
    refine ⟨.tuple #[.slice a5 ys.length c5, .bool true], by simp [results, Try.results24, go_sem, k2, k3], _, rfl, ?_, Below.trans hkE (belowK_b (w := w) (Nat.le_refl _) _ D _ _ (by omega) hKE rfl rfl)⟩
    have o1 : (WE.putObj D (.deferred none)).ownsRow w4.heap.size 3 1 (.slice a5 ys.length c5) ys.length (ys.map encZ) := own_turn HO.out (fun g hg => by
      have hl := l1 g hg
      obtain ⟨cur, hcu⟩ := own_cells HO.out hg
      refine (gk.block g ?_ (fun e => ?_)).trans (so g (by omega) (by omega))
      · rw [← hWE]; simp; exact hl.2
      · cases e
        rw [hcu] at HKK
        cases HKK.out)
    exact RL.weak goodI (il_of_own o1 HI.out (by omega)) (From_le (by omega))
  case stop =>
    rintro D c pre W _ _ h _
    exact h.elim
theorem Ok.names_len65 {S : Hs} {bud : Nat} (h : Ok S bud) : (S.map (·.nm)).length ≤ 65536 := by rw [List.length_map]; exact h.len
theorem c_names {N : Nat → Prop} {p bud : Nat} {S : Hs} (w : World) (h : HP w N p bud S) (ok : Ok S bud) :
    Calls Try.prog 24 #[.pointer (some ⟨p, 0, none⟩)] w fun e w' => ∃ u, e = .returned (.tuple #[u, .bool true]) ∧ IL w' (From w.heap.size) (S.map (·.nm)) u ∧ Kp w w' :=
  callsIn_wide.1 (c_names0 4 (Nat.le_refl _) _ _ ok.names_len65 ok.i64s w (fun w1 hk => c_All w1 (h.keep hk) ok))
theorem c_namesN (w : World) : Calls Try.prog 24 #[.pointer none] w fun e w' => ∃ u, e = .returned (.tuple #[u, .bool true]) ∧ IL w' (From w.heap.size) [] u ∧ Kp w w' :=
  callsIn_wide.1 (c_names0 4 (Nat.le_refl _) _ _ (by simp) (by intro x hx; cases hx) w (fun w1 hk => (c_AllN w1).mono (fun e w' ⟨b, he, hc, hz, hkk⟩ => ⟨b, _, he, hc, hz, il_nil _ _, hkk⟩)))
end Go.Proofs.Ytkaeigklhdpifaa
