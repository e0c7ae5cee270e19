/- A region that appends a boxed node to a boxed row, in whichever order: the element's place is made first and written afterwards. Condition: the row is the call's own. -/
import Derived.Test.YtgamenimbkafjaaWi
import Derived.Test.YtgamenimbkafjaaWb
import Derived.Test.YtgamenimbkafjaaH3
namespace Go.Proofs.Ytgamenimbkafjaa
open Go.RowKit Go.Shelf
set_option linter.unusedVariables false
set_option linter.unusedSimpArgs false

/-- Elements from o on. -/
def putAt (cur : Array Value) : Nat → List Value → Array Value
  | _, [] => cur
  | o, v :: vs => putAt (cur.setIfInBounds o v) (o + 1) vs
theorem putAt_size : ∀ (vs : List Value) (cur : Array Value) (o : Nat), (putAt cur o vs).size = cur.size
  | [], _, _ => rfl
  | v :: vs, cur, o => by rw [putAt, putAt_size vs]; simp
theorem putAt_at : ∀ (vs : List Value) (cur : Array Value) (o i : Nat), o + vs.length ≤ cur.size → (putAt cur o vs)[i]? = if o ≤ i ∧ i < o + vs.length then vs[i - o]? else cur[i]?
  | [], cur, o, i, _ => by rw [putAt, if_neg (by intro hh; simp at hh; omega)]
  | v :: vs, cur, o, i, h => by
    simp only [List.length_cons] at h ⊢
    rw [putAt, putAt_at vs _ (o + 1) i (by simp; omega)]
    by_cases e : i = o
    · subst e
      rw [if_neg (by omega), if_pos (by omega), Array.getElem?_setIfInBounds, if_pos rfl, if_pos (by omega)]
      simp
    · by_cases h1 : o + 1 ≤ i ∧ i < o + 1 + vs.length
      · rw [if_pos h1, if_pos (by omega), show i - o = (i - (o + 1)) + 1 by omega, List.getElem?_cons_succ]
      · rw [if_neg h1, if_neg (by omega), Array.getElem?_setIfInBounds, if_neg (Ne.symm e)]
theorem heap_putAt (g : Nat) (e : TypeId) : ∀ (vs : List Value) (o : Nat) (w : World) (cur : Array Value), w.heap[g]? = some (.cells cur e (0, 0)) → (w.setCells g o vs).heap[g]? = some (.cells (putAt cur o vs) e (0, 0))
  | [], _, _, _, h => h
  | v :: vs, o, w, cur, h => by
    rw [World.setCells, putAt]
    exact heap_putAt g e vs (o + 1) _ _ (heap_setCell_same w g o cur e v h)
/-- A row's last element is written. -/
theorem row_write {w : World} {B : Nat} {e : TypeId} {g cap n : Nat} {xs ys zs : List Value} (h : w.ownsRow B e 5 (.slice (some ⟨g, 0, none⟩) (n + 1) cap) (n + 1) (xs ++ ys)) (hx : xs.length = n * 5) (hy : ys.length = 5) (hz : zs.length = 5) :
    (w.setCells g (n * 5) zs).ownsRow B e 5 (.slice (some ⟨g, 0, none⟩) (n + 1) cap) (n + 1) (xs ++ zs) ∧ w.there g (n * 5) 5 := by
  rcases h.2 with ⟨hv, _⟩ | ⟨g', cap', cur, hv, hB, hg, h1, h2, h3, h4⟩
  · cases hv
  · cases hv
    have hsz : n * 5 + zs.length ≤ cur.size := by omega
    refine ⟨⟨by simp [hx, hz]; omega, .inr ⟨g, cap, putAt cur (n * 5) zs, rfl, hB, heap_putAt g e zs _ w cur hg, h1, h2, by rw [putAt_size]; exact h3, ?_⟩⟩, fun j hj => ⟨?_, frozen_of_row _ _ _ _ _ hg⟩⟩
    · apply List.ext_getElem?
      intro i
      rw [List.getElem?_take, Array.getElem?_toList, putAt_at zs cur _ i hsz]
      have h5 := congrArg (fun l => l[i]?) h4
      simp only [List.getElem?_take, Array.getElem?_toList] at h5
      by_cases hi : i < (n + 1) * 5
      · rw [if_pos hi] at h5 ⊢
        by_cases h6 : n * 5 ≤ i
        · rw [if_pos (by omega), List.getElem?_append_right (by omega), hx]
        · rw [if_neg (by omega), h5, List.getElem?_append_left (by omega), List.getElem?_append_left (by omega)]
      · rw [if_neg hi, List.getElem?_eq_none (by simp [hx, hz]; omega)]
    · rw [cell_of_row _ _ _ _ _ _ hg, Array.getElem?_eq_getElem (by omega)]
      rfl
def oa_0 : Oper := { dst := some 20, op := Op.load 23 (Operand.tmp 8), type := 23, pos := "law.go:25", after := #[], guard := none }
def oa_1 : Oper := { dst := some 21, op := Op.load 25 (Operand.tmp 11), type := 25, pos := "law.go:25", after := #[], guard := none }
def oa_2 : Oper := { dst := some 22, op := Op.call { callee := Callee.builtin Builtin.len, args := #[Operand.tmp 20], argTypes := #[23] }, type := 3, pos := "law.go:25", after := #[{ on := 0, ground := Ground.data }], guard := none }
def oa_3 : Oper := { dst := some 23, op := Op.buildSlice 23 1 #[(0, Operand.const (Value.agg #[Value.int IntKind.i64 0, Value.string { data := #[] }, Value.int IntKind.u64 0, Value.int IntKind.i64 0, Value.slice none 0 0]))], type := 23, pos := "law.go:25", after := #[], guard := none }
def oa_4 : Oper := { dst := some 24, op := Op.call { callee := Callee.builtin Builtin.append, args := #[Operand.tmp 20, Operand.tmp 23], argTypes := #[23, 23] }, type := 23, pos := "law.go:25", after := #[{ on := 0, ground := Ground.data }, { on := 3, ground := Ground.data }, { on := 0, ground := Ground.phase }, { on := 1, ground := Ground.phase }, { on := 2, ground := Ground.phase }, { on := 3, ground := Ground.phase }], guard := none }
def oa_5 : Oper := { dst := some 25, op := Op.indexAddr 23 (Operand.tmp 24) (Operand.tmp 22), type := 0, pos := "law.go:25", after := #[{ on := 4, ground := Ground.data }, { on := 2, ground := Ground.data }, { on := 0, ground := Ground.phase }, { on := 1, ground := Ground.phase }, { on := 2, ground := Ground.phase }, { on := 3, ground := Ground.phase }, { on := 4, ground := Ground.phase }, { on := 7, ground := Ground.gcOnly Departure.appendInPlace }], guard := none }
def oa_6 : Oper := { dst := none, op := Op.store 25 (Operand.tmp 25) (Operand.tmp 21), type := 0, pos := "law.go:25", after := #[{ on := 5, ground := Ground.data }, { on := 1, ground := Ground.data }, { on := 4, ground := Ground.chain }, { on := 0, ground := Ground.phase }, { on := 1, ground := Ground.phase }, { on := 2, ground := Ground.phase }, { on := 3, ground := Ground.phase }, { on := 4, ground := Ground.phase }, { on := 7, ground := Ground.gcOnly Departure.appendInPlace }], guard := none }
def oa_7 : Oper := { dst := none, op := Op.store 23 (Operand.tmp 8) (Operand.tmp 24), type := 0, pos := "law.go:25", after := #[{ on := 4, ground := Ground.data }, { on := 4, ground := Ground.chain }, { on := 6, ground := Ground.textOnly Departure.appendInPlace }, { on := 0, ground := Ground.phase }, { on := 1, ground := Ground.phase }, { on := 2, ground := Ground.phase }, { on := 3, ground := Ground.phase }, { on := 4, ground := Ground.phase }, { on := 5, ground := Ground.textOnly Departure.appendInPlace }, { on := 6, ground := Ground.textOnly Departure.appendInPlace }], guard := none }
def rgA : Array Oper := #[oa_0, oa_1, oa_2, oa_3, oa_4, oa_5, oa_6, oa_7]
def WA : List Nat := [20, 21, 22, 23, 24, 25]
abbrev zeroN : List Value := [.int .i64 0, .string ⟨#[]⟩, .int .u64 0, .int .i64 0, .slice none 0 0]
/-- What has come up. -/
structure GA (wB : World) (B bx : Nat) (vn : Value) (n : Nat) (xs : List Value) (h : Hn) (u : Nat → Bool) (v : Nat → Value) (w : World) : Prop where
  kp : u 4 = false → Kp wB w
  f0 : u 0 = true → v 20 = vn
  f1 : u 1 = true → v 21 = h.val
  f2 : u 2 = true → v 22 = .int .i64 n
  f3 : u 3 = true → ∃ g, v 23 = .slice (some ⟨g, 0, none⟩) 1 1 ∧ (u 4 = false → w.heap[g]? = some (.cells zeroN.toArray 25 (0, 0)))
  f4 : u 4 = true → (u 0 = true ∧ u 1 = true ∧ u 2 = true ∧ u 3 = true) ∧ ∃ g cap ys y, v 24 = .slice (some ⟨g, 0, none⟩) (n + 1) cap ∧ w.ownsRow B 25 5 (.slice (some ⟨g, 0, none⟩) (n + 1) cap) (n + 1) (xs ++ ys) ∧
    Two wB w vn.ownBlock (some bx) ∧ New wB vn.ownBlock (some g) ∧ ys.length = 5 ∧ (u 6 = true → ys = h.cells) ∧ w.heap[bx]? = some (.cells #[y] 23 (0, 0)) ∧ (u 7 = true → y = v 24)
  f5 : u 5 = true → u 4 = true ∧ ∀ g cap, v 24 = .slice (some ⟨g, 0, none⟩) (n + 1) cap → v 25 = .pointer (some ⟨g, n * 5, none⟩)
  f6 : u 6 = true → u 5 = true
  f7 : u 7 = true → u 4 = true
theorem GA.early {wB : World} {B bx : Nat} {vn : Value} {n : Nat} {xs : List Value} {h : Hn} {u : Nat → Bool} {v : Nat → Value} {w : World} (G : GA wB B bx vn n xs h u v w) (hu : u 0 = false ∨ u 1 = false ∨ u 2 = false ∨ u 3 = false ∨ u 4 = false) : u 4 = false ∧ u 5 = false ∧ u 6 = false ∧ u 7 = false := by
  have h4 : u 4 = false := by
    cases e : u 4 with
    | false => rfl
    | true =>
      obtain ⟨⟨a, b, c, d⟩, _⟩ := G.f4 e
      rcases hu with h | h | h | h | h <;> simp_all
  have h5 : u 5 = false := by
    cases e : u 5 with
    | false => rfl
    | true => have := (G.f5 e).1; rw [h4] at this; cases this
  refine ⟨h4, h5, ?_, ?_⟩
  · cases e : u 6 with
    | false => rfl
    | true => have := G.f6 e; rw [h5] at this; cases this
  · cases e : u 7 with
    | false => rfl
    | true => have := G.f7 e; rw [h4] at this; cases this
theorem stepIn_store {F : Fence} {n : Nat} {P : Program} {Q : Exit → Act → World → Prop} {o : Oper} {a : Act} {w w' : World} {K : Act → World → Prop} (hF : ∀ f, F.fn f) (ty : TypeId) (x y : Operand) (ho : o.op = .store ty x y)
    (hrun : (Instr.storeAt ty (a.eval x) (a.eval y)).run P w = .ok () w') (h : K (a.put o.dst undef) w') : o.wpIn F n P a w K Q := by
  refine ⟨fun f _ => hF f, ?_⟩
  rw [Oper.semAt_eq _ _ _ (fun c => by rw [ho]; simp)]
  unfold execOp
  simp only [ho, Sem.run_bind, hrun, Result.andThen_ok]
  exact h
theorem two_setCell (w : World) (p : Addr) (v : Value) (b : Option Nat) : Two w (w.setCell p v) (some p.block) b := ⟨rfl, rfl, rfl, by simp, fun k hk h1 _ => Below.heap_setCell _ _ _ _ (fun e => h1 (by rw [e]))⟩
theorem two_setCells (g : Nat) (b : Option Nat) : ∀ (vs : List Value) (o : Nat) (w : World), Two w (w.setCells g o vs) (some g) b
  | [], _, w => Two.refl w _ _
  | v :: vs, o, w => by
    rw [World.setCells]
    exact (two_setCell w ⟨g, o, none⟩ v b).trans (New.refl _ _) (New.refl _ _) (two_setCells g b vs (o + 1) _)
theorem no' {b : Bool} {p : Prop} (h : b = true) (e : b = false) : p := by rw [h] at e; cases e
theorem no {b : Bool} {p : Prop} (h : b = false) (e : b = true) : p := by rw [h] at e; cases e
set_option maxRecDepth 100000 in
set_option maxHeartbeats 3200000 in
theorem regA (m l2 : Nat) (a0 : Act) (w : World) {id : Nat} {Q : Exit → Act → World → Prop} (B bx q : Nat) (vn : Value) (n : Nat) (xs : List Value) (h : Hn) (hz : ∀ k ∈ WA, k < a0.tmps.size)
    (e8 : a0.eval (.tmp 8) = .pointer (some ⟨bx, 0, none⟩)) (hbx : w.heap[bx]? = some (.cells #[vn] 23 (0, 0))) (hB : bx < B) (hBw : B ≤ w.heap.size)
    (e11 : a0.eval (.tmp 11) = .pointer (some ⟨q, 0, none⟩)) (rq : w.rangeAt q 0 h.cells) (hown : w.ownsRow B 25 5 vn n xs) (hn : n + 1 ≤ 1099511627777)
    (hend : ∀ (v : Nat → Value) (g cap : Nat) (w2 : World), w2.ownsRow B 25 5 (.slice (some ⟨g, 0, none⟩) (n + 1) cap) (n + 1) (xs ++ h.cells) → Two w w2 vn.ownBlock (some bx) → New w vn.ownBlock (some g) →
      w2.heap[bx]? = some (.cells #[.slice (some ⟨g, 0, none⟩) (n + 1) cap] 23 (0, 0)) → Q .normal (WA.foldl (fun b k => b.put (some k) (v k)) a0) w2) :
    (Code.region id rgA true).wpIn (Fence.wide.inRound l2) m Try.prog Q a0 w := by
  obtain ⟨i0, hi, hz0, hz1, hz2⟩ := info_parts infoN
  have HEND := Lib.hid hend
  clear hend
  have hF : ∀ f, (Fence.wide.inRound l2).fn f := fun _ => trivial
  have hlt := hown.lt
  refine wpIn_region_inv (by kernel_rfl) (fun u a w1 => ∃ v, Slots a0 WA v a ∧ GA w B bx vn n xs h u v w1) (edges_back (by kernel_rfl)) ⟨_, Slots.start a0 _, ?_⟩ ?_ ?_
  · exact ⟨fun _ => (Kp.refl w).drew, (fun e => by cases e), (fun e => by cases e), (fun e => by cases e), (fun e => by cases e), (fun e => by cases e), (fun e => by cases e), (fun e => by cases e), (fun e => by cases e)⟩
  · intro i o u a w1 ho hl hd ⟨v, hS, hG⟩
    match i, ho, hl with
    | 0, ho, hl =>
      obtain rfl : oa_0 = o := Option.some.inj ho
      obtain ⟨u4, u5, u6, u7⟩ := hG.early (.inl hl)
      refine stepIn_go ho rfl ?_
      have x8 := (hS.old (k := 8) (by decide)).trans e8
      have x8' : a.tmps[8]?.getD undef = .pointer (some ⟨bx, 0, none⟩) := by rw [← Array.getD_eq_getD_getElem?]; exact x8
      have hc := row_cell (((hG.kp u4).blk (Array.getElem?_eq_some_iff.1 hbx).1).trans hbx) 0
      simp only [List.getElem?_toArray, List.getElem?_cons_zero] at hc
      refine stepIn_val hF (w' := w1) vn (fun c => by simp [oa_0]) (by simp [execOp, oa_0, x8', Instr.loadAt, Instr.sureAddr, go_sem, hc]) ⟨_, hS.put (by decide) hz _, ?_⟩
      exact ⟨hG.kp, fun _ => rfl, hG.f1, hG.f2, hG.f3, no u4, no u5, no u6, no u7⟩
    | 1, ho, hl =>
      obtain rfl : oa_1 = o := Option.some.inj ho
      obtain ⟨u4, u5, u6, u7⟩ := hG.early (.inr (.inl hl))
      refine stepIn_go ho rfl ?_
      have x4 := (hS.old (k := 11) (by decide)).trans e11
      refine stepIn_val hF (w' := w1) h.val (fun c => by simp [oa_1]) ?_ ⟨_, hS.put (by decide) hz _, ?_⟩
      · have := run_loadAt_mid (P := Try.prog) w1 q 0 25 h.cells _ ((hG.kp u4).range rq) Try.underlying25 rfl rfl
        simp [execOp, oa_1, x4, this]
      · exact ⟨hG.kp, hG.f0, fun _ => rfl, hG.f2, hG.f3, no u4, no u5, no u6, no u7⟩
    | 2, ho, hl =>
      obtain rfl : oa_2 = o := Option.some.inj ho
      obtain ⟨u4, u5, u6, u7⟩ := hG.early (.inr (.inr (.inl hl)))
      refine stepIn_go ho rfl ?_
      have x0 := (hS.ev 20 (by decide)).trans (hG.f0 (hd ⟨0, .data⟩ (by simp [oa_2]) rfl))
      have x0' : a.tmps[20]?.getD undef = vn := by rw [← Array.getD_eq_getD_getElem?]; exact x0
      refine stepIn_val hF (w' := w1) (.int .i64 n) (fun c => by simp [oa_2]) ?_ ⟨_, hS.put (by decide) hz _, ?_⟩
      · rcases hown.2 with ⟨e, rfl⟩ | ⟨g, cap, cur, e, _⟩
        · rw [e] at x0'
          simp [execOp, oa_2, x0', go_sem]
        · rw [e] at x0'
          simp [execOp, oa_2, x0', go_sem]
      · exact ⟨hG.kp, hG.f0, hG.f1, fun _ => rfl, hG.f3, no u4, no u5, no u6, no u7⟩
    | 3, ho, hl =>
      obtain rfl : oa_3 = o := Option.some.inj ho
      obtain ⟨u4, u5, u6, u7⟩ := hG.early (.inr (.inr (.inr (.inl hl))))
      refine stepIn_go ho rfl ?_
      have hrun := run_buildSlice (P := Try.prog) w1 23 25 1 #[(0, .agg zeroN.toArray)] zeroN.toArray i0 _ Try.underlying23 hi hz0 (by rw [hz1]; decide) (by rw [hz1]; decide) (by rw [hz1]; kernel_rfl)
      refine stepIn_val hF (w' := w1.alloc (.cells zeroN.toArray 25)) (.slice (some ⟨w1.heap.size, 0, none⟩) 1 1) (fun c => by simp [oa_3]) (by have hr : (Instr.buildSlice 23 1 #[(0, a.eval (Operand.const (Value.agg #[Value.int IntKind.i64 0, Value.string { data := #[] }, Value.int IntKind.u64 0, Value.int IntKind.i64 0, Value.slice none 0 0])))]).run Try.prog w1 = _ := hrun; simp [execOp, oa_3, hr]) ⟨_, hS.put (by decide) hz _, ?_⟩
      exact ⟨fun _ => (hG.kp u4).alloc _, hG.f0, hG.f1, hG.f2, fun _ => ⟨w1.heap.size, rfl, fun _ => heap_alloc_new _ _⟩, no u4, no u5, no u6, no u7⟩
    | 4, ho, hl =>
      obtain rfl : oa_4 = o := Option.some.inj ho
      obtain ⟨u4, u5, u6, u7⟩ := hG.early (.inr (.inr (.inr (.inr hl))))
      refine stepIn_go ho rfl ?_
      have d0 := hd ⟨0, .data⟩ (by simp [oa_4]) rfl
      have d3 := hd ⟨3, .data⟩ (by simp [oa_4]) rfl
      have d1 := hd ⟨1, .phase⟩ (by simp [oa_4]) rfl
      have d2 := hd ⟨2, .phase⟩ (by simp [oa_4]) rfl
      obtain ⟨g3, e3, r3⟩ := hG.f3 d3
      have hk := hG.kp u4
      have x20 := (hS.ev 20 (by decide)).trans (hG.f0 d0)
      have x23 := (hS.ev 23 (by decide)).trans e3
      obtain ⟨v', w', hrun, o1, g1, hnil, hat⟩ := run_append_own_at (P := Try.prog) w1 B 23 23 25 i0 _ 5 64 Try.underlying23 hi hz0 hz1 hz2 rfl (by omega) vn n xs (own_keep hown hk) ⟨g3, 0, none⟩ 1 1 zeroN (by rfl)
        (fun j y hj => by rw [Addr.add_mid, Nat.zero_add, row_cell (r3 u4)]; simpa using hj) (by intro y hy; simp at hy; rcases hy with rfl | rfl | rfl | rfl | rfl <;> rfl) (by unfold maxLen; omega) (by omega) (Nat.le_trans hBw hk.sz)
      refine stepIn_val hF (w' := w') v' (fun c => by simp [oa_4]) (by simp [execOp, oa_4, resolve, invoke, builtin, x20, x23, hrun, Result.andThen]) ⟨_, hS.put (by decide) hz _, ?_⟩
      obtain ⟨g, cap, rfl⟩ : ∃ g cap, v' = .slice (some ⟨g, 0, none⟩) (n + 1) cap := by
        rcases o1.2 with ⟨_, h0⟩ | ⟨g, cap, cur, e, _⟩
        · omega
        · exact ⟨g, cap, e⟩
      have hbx1 := (hk.blk (Array.getElem?_eq_some_iff.1 hbx).1).trans hbx
      have hb' := (g1.block bx (Array.getElem?_eq_some_iff.1 hbx1).1 (fun e => by have := (hlt _ e.symm).1; omega)).trans hbx1
      refine ⟨fun e => absurd e (by simp [up1]), fun _ => hG.f0 d0, fun _ => hG.f1 d1, fun _ => hG.f2 d2, fun _ => ⟨g3, e3, fun e => absurd e (by simp [up1])⟩, fun _ => ⟨⟨d0, d1, d2, d3⟩, g, cap, zeroN, vn, rfl, o1, (hk.two _ _).trans (New.refl _ _) (New.refl _ _) (grown_two g1 _), ?_, rfl, no u6, hb', no u7⟩, no u5, no u6, no u7⟩
      rcases hat with hat | hat
      · exact .inl hat
      · refine .inr ⟨g, rfl, ?_⟩
        have : g = w1.heap.size := by simpa [Value.ownBlock] using hat
        rw [this]; exact hk.sz
    | 5, ho, hl =>
      obtain rfl : oa_5 = o := Option.some.inj ho
      refine stepIn_go ho rfl ?_
      have d4 := hd ⟨4, .data⟩ (by simp [oa_5]) rfl
      have d2 := hd ⟨2, .data⟩ (by simp [oa_5]) rfl
      obtain ⟨_, g, cap, ys, y, e24, _⟩ := hG.f4 d4
      have x24 := (hS.ev 24 (by decide)).trans e24
      have x22 := (hS.ev 22 (by decide)).trans (hG.f2 d2)
      have hrun : (Instr.indexAt 23 (.slice (some ⟨g, 0, none⟩) (n + 1) cap) (.int .i64 (n : Int))).run Try.prog w1 = .ok (.pointer (some ⟨g, n * 5, none⟩)) w1 := by
        have he : Try.prog.elem 23 = 25 := by simp [Program.elem, Try.underlying23]
        rw [run_indexAt_slice w1 23 _ (n + 1) cap .i64 n (by rw [he]; exact Try.underlying23), if_pos ⟨by omega, by omega⟩, he]
        simp [sizeOf, typeInfo, hi, hz1, Result.andThen, Addr.add_mid]
      refine stepIn_val hF (w' := w1) (.pointer (some ⟨g, n * 5, none⟩)) (fun c => by simp [oa_5]) (by simp [execOp, oa_5, x24, x22, hrun, Result.andThen]) ⟨_, hS.put (by decide) hz _, ?_⟩
      exact ⟨hG.kp, hG.f0, hG.f1, hG.f2, hG.f3, hG.f4, fun _ => ⟨d4, fun g' cap' e' => by have e2 : v 24 = _ := e'; rw [e24] at e2; cases e2; rfl⟩, fun _ => rfl, hG.f7⟩
    | 6, ho, hl =>
      obtain rfl : oa_6 = o := Option.some.inj ho
      refine stepIn_go ho rfl ?_
      have d5 := hd ⟨5, .data⟩ (by simp [oa_6]) rfl
      have d1 := hd ⟨1, .data⟩ (by simp [oa_6]) rfl
      have d4 := (hG.f5 d5).1
      obtain ⟨hall, g, cap, ys, y, e24, o1, t1, n1, hy5, h6, hb, h7⟩ := hG.f4 d4
      have x25 := (hS.ev 25 (by decide)).trans ((hG.f5 d5).2 g cap e24)
      have x21 := (hS.ev 21 (by decide)).trans (hG.f1 d1)
      obtain ⟨o2, ht⟩ := row_write (zs := h.cells) o1 hown.1 hy5 rfl
      have hgb : bx ≠ g := by have := (o1.lt g rfl).1; omega
      refine stepIn_store hF 25 _ _ rfl (w' := w1.setCells g (n * 5) h.cells) (by rw [x25, x21]; exact run_storeAt_mid (P := Try.prog) w1 g (n * 5) 25 h.cells.toArray ht (by rw [hi]; simp [hz1]) (all_oneCell_toArray h.one)) ⟨v, hS, ?_⟩
      exact ⟨no' d4, hG.f0, hG.f1, hG.f2, fun e => ⟨(hG.f3 e).choose, (hG.f3 e).choose_spec.1, no' d4⟩, fun _ => ⟨hall, g, cap, h.cells, y, e24, o2, t1.trans n1 (New.refl _ _) (two_setCells g _ _ _ _), n1, rfl, fun _ => rfl, (World.heap_setCells_other w1 g _ _ (Array.getElem?_eq_some_iff.1 hb).1 hgb).trans hb, h7⟩, hG.f5, fun _ => d5, hG.f7⟩
    | 7, ho, hl =>
      obtain rfl : oa_7 = o := Option.some.inj ho
      refine stepIn_go ho rfl ?_
      have d4 := hd ⟨4, .data⟩ (by simp [oa_7]) rfl
      obtain ⟨hall, g, cap, ys, y, e24, o1, t1, n1, hy5, h6, hb, h7⟩ := hG.f4 d4
      have x24 := (hS.ev 24 (by decide)).trans e24
      have x8 := (hS.old (k := 8) (by decide)).trans e8
      have hgb : g ≠ bx := by have := (o1.lt g rfl).1; omega
      have hc := row_cell hb 0
      simp only [List.getElem?_toArray, List.getElem?_cons_zero] at hc
      have hf := frozen_of_row _ _ 0 _ _ hb
      refine stepIn_store hF 23 _ _ rfl (w' := w1.setCell ⟨bx, 0, none⟩ (.slice (some ⟨g, 0, none⟩) (n + 1) cap)) (by rw [x8, x24]; simp [Instr.storeAt, Instr.sureAddr, go_sem, hc, hf]) ⟨v, hS, ?_⟩
      have o2 : (w1.setCell ⟨bx, 0, none⟩ (.slice (some ⟨g, 0, none⟩) (n + 1) cap)).ownsRow B 25 5 (.slice (some ⟨g, 0, none⟩) (n + 1) cap) (n + 1) (xs ++ ys) := by
        refine ⟨o1.1, ?_⟩
        rcases o1.2 with hv | ⟨g', cap', cur, hv, hg0, hgg, rest⟩
        · exact .inl hv
        · cases hv
          exact .inr ⟨g, cap, cur, rfl, hg0, (Below.heap_setCell _ _ _ _ hgb).trans hgg, rest⟩
      exact ⟨no' d4, hG.f0, hG.f1, hG.f2, fun e => ⟨(hG.f3 e).choose, (hG.f3 e).choose_spec.1, no' d4⟩, fun _ => ⟨hall, g, cap, ys, _, e24, o2, t1.trans n1 (New.refl _ _) ((two_setCell w1 ⟨bx, 0, none⟩ _ (some g)).swap), n1, hy5, h6, row_set hb, fun _ => e24.symm⟩, hG.f5, hG.f6, fun _ => d4⟩
    | k + 8, ho, hl => exact absurd ho (by simp [rgA])
  · intro u a w1 hall ⟨v, hS, hG⟩
    obtain ⟨_, g, cap, ys, y, e24, o1, t1, n1, hy5, h6, hb, h7⟩ := hG.f4 (hall 4 (by decide))
    rw [hS.refit hz]
    have e6 := h6 (hall 6 (by decide))
    have e7 := h7 (hall 7 (by decide))
    subst e6
    rw [e7, e24] at hb
    exact HEND.out v g cap w1 o1 t1 n1 hb
end Go.Proofs.Ytgamenimbkafjaa
