/- The region of UnifyBack in which Unify is called. Condition: the type, the names and the filled type lie in memory. -/
import Derived.Test.YtfjflfokmihcpaaVc
import Derived.Test.YtfjflfokmihcpaaInv
import Derived.Deep.AppendLies
namespace Go.Proofs.Ytfjflfokmihcpaa
open Go.RowKit
set_option linter.unusedVariables false
set_option linter.unusedSimpArgs false
/-- A table is appended to a row of the call's own, at a step of a region that draws its order. -/
theorem step_append_tab {P : Program} {w : World} {ops : Array Oper} {o : Oper} {a : Act} {K : Act → World → Prop} {Q : Exit → Act → World → Prop} {E : Prop} (hgd : o.guard = none) (s x : Operand) (t : TypeId)
    (ho : o.op = .call { callee := .builtin .append, args := #[s, x], argTypes := #[t, t] })
    (base : Nat) (e : TypeId) (i : TypeInfo) (z : Value) (size bytes : Nat) (ht : P.underlying t = some (.slice e)) (hi : P.info? e = some i) (hz : i.zero = some z)
    (hsize : i.size = size) (hby : i.bytes = bytes) (hzs : z.cells.size = size) (hsz : 0 < size)
    (v : Value) (n : Nat) (xs : List Value) (hs : a.eval s = v) (hown : w.ownsRow base e size v n xs)
    (w0 : World) (B : Sel) (ad : Option Addr) (m c : Nat) (C : Nat → List Value) (hx : a.eval x = .slice ad m c) (htab : tab w0 B e ad m c size C) (hk : Kp w0 w) (hC : ∀ i, (C i).length = size) (h1 : ∀ i, ∀ u ∈ C i, u.oneCell' = true)
    (h63 : n + m ≤ maxLen) (hbytes : (n + m) * bytes ≤ 140737488355328) (hbase : base ≤ w.heap.size)
    (h : ∀ v' w', w'.ownsRow base e size v' (n + m) (xs ++ flat C m) → w.grownBy w' v.ownBlock → K (a.put o.dst v') w') :
    if Region.wanted o (yielded ops a.tmps) = true then Oper.wp P o a w K Q else E := by
  have hw : Region.wanted o (yielded ops a.tmps) = true := by simp [Region.wanted, hgd]
  rw [if_pos hw]
  cases ad with
  | none =>
    obtain ⟨rfl, rfl⟩ := htab.1 rfl
    have hrun := run_append_owned_none (P := P) (w := w) base t o.type e i size ht hi v n xs hown
    unfold Oper.wp
    simp [execOp, ho, resolve, invoke, builtin, hs, hx, hrun, Result.andThen]
    exact h v w (by simpa [flat] using hown) (World.grownBy.refl w _)
  | some ad =>
    refine wp_append_own w s x t ho base e i z size bytes ht hi hz hsize hby hzs hsz v n xs hs hown ad m c (flat C m) hx (flat_len hC m) ?_ (flat_mem h1 m) h63 hbytes hbase (fun v' w' a b _ => h v' w' a b)
    intro j u hu
    by_cases hm : 0 < m
    · obtain ⟨b, o, hb, hr⟩ := (htab.keep hk).at hm
      obtain rfl := Option.some.inj hb
      rw [Addr.add_mid]
      exact rangeAt_flat hC hr j u hu
    · obtain rfl : m = 0 := by omega
      simp [flat] at hu
theorem one_rowB {W : World} {x : Nat} {r : Nat} {T : Ty} {h : Hd} (hb : W.heap[x]? = some (.cells #[.int .i64 h.k, .string h.nm, .int .i64 h.con, .slice h.fa h.fl h.fc, .slice h.la h.ll h.lc, .slice h.ra h.rl h.rc] 42 (0, 0))) (hl : Lies W A0 r T h) : LiesAll W A0 r [T] (some ⟨x, 0, none⟩) 1 (fun _ => h) := by
  refine ⟨⟨fun h => (by cases h), fun _ => ⟨x, 0, rfl, trivial, (Array.getElem?_eq_some_iff.1 hb).1, fun h => h.elim, fun i hi j v hv => ?_⟩⟩, fun i X hX => ?_⟩
  · have hi0 : i = 0 := by simp only [List.length_singleton] at hi; omega
    subst hi0
    simp only [Nat.zero_mul, Nat.zero_add]
    rw [cell_of_row _ _ _ _ _ _ hb]
    simpa [Hd.cells] using hv
  · cases i with
    | zero => simp at hX; subst hX; exact hl
    | succ i => simp at hX
theorem own_cells0 {w : World} {base g : Nat} (hg : w.heap[g]? = some (.cells #[] 9 (0, 0))) (hb : base ≤ g) : w.ownsRow base 9 1 (.slice (some ⟨g, 0, none⟩) 0 0) 0 [] := ⟨rfl, .inr ⟨g, 0, #[], rfl, hb, hg, Nat.le_refl _, by unfold maxLen; omega, rfl, rfl⟩⟩
/-- A component of several results. -/
def tk : Value → Nat → Value
  | .tuple l, i => l.getD i undef
  | _, _ => undef
def ob_0 : Oper := { dst := some 35, op := Op.buildSlice 22 0 #[], type := 22, pos := "law.go:72", after := #[], guard := none }
def ob_1 : Oper := { dst := some 36, op := Op.move (Operand.tmp 1), type := 22, pos := "law.go:72", after := #[], guard := none }
def ob_2 : Oper := { dst := some 37, op := Op.call { callee := Callee.builtin Builtin.append, args := #[Operand.tmp 35, Operand.tmp 36], argTypes := #[22, 22] }, type := 22, pos := "law.go:72", after := #[{ on := 0, ground := Ground.data }, { on := 1, ground := Ground.data }], guard := none }
def ob_3 : Oper := { dst := some 38, op := Op.load 42 (Operand.tmp 3), type := 42, pos := "law.go:72", after := #[], guard := none }
def ob_4 : Oper := { dst := some 39, op := Op.buildSlice 23 1 #[(0, Operand.tmp 38)], type := 23, pos := "law.go:72", after := #[{ on := 3, ground := Ground.data }], guard := none }
def ob_5 : Oper := { dst := some 40, op := Op.call { callee := Callee.value (Operand.func 10), args := #[Operand.tmp 39], argTypes := #[23] }, type := 23, pos := "law.go:72", after := #[{ on := 4, ground := Ground.data }, { on := 2, ground := Ground.chain }], guard := none }
def ob_6 : Oper := { dst := some 41, op := Op.load 42 (Operand.tmp 7), type := 42, pos := "law.go:72", after := #[], guard := none }
def ob_7 : Oper := { dst := some 42, op := Op.buildSlice 23 1 #[(0, Operand.tmp 41)], type := 23, pos := "law.go:72", after := #[{ on := 6, ground := Ground.data }], guard := none }
def ob_8 : Oper := { dst := some 43, op := Op.call { callee := Callee.value (Operand.func 9), args := #[Operand.tmp 37, Operand.tmp 40, Operand.tmp 42], argTypes := #[22, 23, 23] }, type := 26, pos := "law.go:72", after := #[{ on := 2, ground := Ground.data }, { on := 5, ground := Ground.data }, { on := 7, ground := Ground.data }, { on := 5, ground := Ground.chain }], guard := none }
def ob_9 : Oper := { dst := some 34, op := Op.move (Operand.tmp 43), type := 26, pos := "law.go:72", after := #[{ on := 8, ground := Ground.data }], guard := none }
def ob_10 : Oper := { dst := some 44, op := Op.extract (Operand.tmp 34) 0, type := 23, pos := "law.go:72", after := #[{ on := 9, ground := Ground.data }], guard := none }
def ob_11 : Oper := { dst := some 45, op := Op.extract (Operand.tmp 34) 1, type := 24, pos := "law.go:72", after := #[{ on := 9, ground := Ground.data }, { on := 13, ground := Ground.gcOnly Departure.lateStores }], guard := none }
def ob_12 : Oper := { dst := some 46, op := Op.extract (Operand.tmp 34) 2, type := 25, pos := "law.go:72", after := #[{ on := 9, ground := Ground.data }, { on := 14, ground := Ground.gcOnly Departure.lateStores }], guard := none }
def ob_13 : Oper := { dst := some 9, op := Op.assign (Operand.tmp 44), type := 23, pos := "law.go:72", after := #[{ on := 10, ground := Ground.data }, { on := 8, ground := Ground.chain }, { on := 0, ground := Ground.phase }, { on := 1, ground := Ground.phase }, { on := 2, ground := Ground.phase }, { on := 3, ground := Ground.phase }, { on := 4, ground := Ground.phase }, { on := 5, ground := Ground.phase }, { on := 6, ground := Ground.phase }, { on := 7, ground := Ground.phase }, { on := 8, ground := Ground.phase }, { on := 9, ground := Ground.phase }, { on := 10, ground := Ground.phase }, { on := 11, ground := Ground.textOnly Departure.lateStores }, { on := 12, ground := Ground.textOnly Departure.lateStores }], guard := none }
def ob_14 : Oper := { dst := some 10, op := Op.assign (Operand.tmp 45), type := 24, pos := "law.go:72", after := #[{ on := 11, ground := Ground.data }, { on := 13, ground := Ground.chain }, { on := 0, ground := Ground.phase }, { on := 1, ground := Ground.phase }, { on := 2, ground := Ground.phase }, { on := 3, ground := Ground.phase }, { on := 4, ground := Ground.phase }, { on := 5, ground := Ground.phase }, { on := 6, ground := Ground.phase }, { on := 7, ground := Ground.phase }, { on := 8, ground := Ground.phase }, { on := 9, ground := Ground.phase }, { on := 10, ground := Ground.phase }, { on := 11, ground := Ground.phase }, { on := 12, ground := Ground.textOnly Departure.lateStores }, { on := 13, ground := Ground.phase }], guard := none }
def ob_15 : Oper := { dst := some 11, op := Op.assign (Operand.tmp 46), type := 25, pos := "law.go:72", after := #[{ on := 12, ground := Ground.data }, { on := 14, ground := Ground.chain }, { on := 0, ground := Ground.phase }, { on := 1, ground := Ground.phase }, { on := 2, ground := Ground.phase }, { on := 3, ground := Ground.phase }, { on := 4, ground := Ground.phase }, { on := 5, ground := Ground.phase }, { on := 6, ground := Ground.phase }, { on := 7, ground := Ground.phase }, { on := 8, ground := Ground.phase }, { on := 9, ground := Ground.phase }, { on := 10, ground := Ground.phase }, { on := 11, ground := Ground.phase }, { on := 12, ground := Ground.phase }, { on := 13, ground := Ground.phase }, { on := 14, ground := Ground.phase }], guard := none }
def rgB : Array Oper := #[ob_0, ob_1, ob_2, ob_3, ob_4, ob_5, ob_6, ob_7, ob_8, ob_9, ob_10, ob_11, ob_12, ob_13, ob_14, ob_15]
def WB : List Nat := [35, 36, 37, 38, 39, 40, 41, 42, 43, 34, 44, 45, 46, 9, 10, 11]
structure GB (wB : World) (L : List ByteArray) (na : Option Addr) (nc : Nat) (T X : Ty) (h h2 : Hd) (l : Nat → Bool) (v : Nat → Value) (w : World) : Prop where
  kp : Kp wB w
  f0 : l 0 = true → ∃ g, v 35 = .slice (some ⟨g, 0, none⟩) 0 0 ∧ wB.heap.size ≤ g ∧ g < w.heap.size ∧ (l 2 = false → w.heap[g]? = some (.cells #[] 9 (0, 0)))
  f1 : l 1 = true → v 36 = .slice na L.length nc
  f2 : l 2 = true → ∃ a c, v 37 = .slice a L.length c ∧ tab w A0 9 a L.length c 1 (fun i => [.string (L.getD i ByteArray.empty)])
  f3 : l 3 = true → v 38 = h.val
  f4 : l 4 = true → ∃ x, v 39 = .slice (some ⟨x, 0, none⟩) 1 1 ∧ w.heap[x]? = some (.cells #[.int .i64 h.k, .string h.nm, .int .i64 h.con, .slice h.fa h.fl h.fc, .slice h.la h.ll h.lc, .slice h.ra h.rl h.rc] 42 (0, 0)) ∧ (∀ g, l 0 = true → v 35 = .slice (some ⟨g, 0, none⟩) 0 0 → g ≠ x)
  f5 : l 5 = true → l 2 = true ∧ ∃ a c K, v 40 = .slice a 1 c ∧ LiesAll w A0 9 [T] a c K
  f6 : l 6 = true → v 41 = h2.val
  f7 : l 7 = true → ∃ x, v 42 = .slice (some ⟨x, 0, none⟩) 1 1 ∧ w.heap[x]? = some (.cells #[.int .i64 h2.k, .string h2.nm, .int .i64 h2.con, .slice h2.fa h2.fl h2.fc, .slice h2.la h2.ll h2.lc, .slice h2.ra h2.rl h2.rc] 42 (0, 0)) ∧ (∀ g, l 0 = true → v 35 = .slice (some ⟨g, 0, none⟩) 0 0 → g ≠ x)
  f8 : l 8 = true → l 2 = true ∧ ∃ a c K kd kc, v 43 = .tuple #[.slice a L.length c, .slice kd L.length kc, .int .i64 0] ∧ LiesAll w A0 9 (uRes L [T] [X]) a c K ∧ tab w A0 4 kd L.length kc 1 (fun i => [.bool (kb (uRes L [T] [X]) i)])
  f9 : l 9 = true → l 8 = true ∧ v 34 = v 43
  f10 : l 10 = true → l 8 = true ∧ v 44 = tk (v 43) 0
  f11 : l 11 = true → l 8 = true ∧ v 45 = tk (v 43) 1
  f12 : l 12 = true → l 8 = true ∧ v 46 = tk (v 43) 2
  f13 : l 13 = true → l 8 = true ∧ v 9 = tk (v 43) 0
  f14 : l 14 = true → l 8 = true ∧ v 10 = tk (v 43) 1
  f15 : l 15 = true → l 8 = true ∧ v 11 = tk (v 43) 2
theorem GB.keep {wB : World} {L : List ByteArray} {na : Option Addr} {nc : Nat} {T X : Ty} {h h2 : Hd} {l : Nat → Bool} {v : Nat → Value} {w w' : World} (G : GB wB L na nc T X h h2 l v w) (k : Kp w w') : GB wB L na nc T X h h2 l v w' where
  kp := G.kp.trans k
  f0 := fun e => let ⟨g, a, b, c, d⟩ := G.f0 e; ⟨g, a, b, Nat.lt_of_lt_of_le c k.sz, fun q => (k.blk c).trans (d q)⟩
  f1 := G.f1
  f2 := fun e => let ⟨a, c, p, q⟩ := G.f2 e; ⟨a, c, p, q.keep k⟩
  f3 := G.f3
  f4 := fun e => let ⟨x, a, b, c⟩ := G.f4 e; ⟨x, a, (k.blk (Array.getElem?_eq_some_iff.1 b).1).trans b, c⟩
  f5 := fun e => let ⟨z, a, c, K, p, q⟩ := G.f5 e; ⟨z, a, c, K, p, q.keep k⟩
  f6 := G.f6
  f7 := fun e => let ⟨x, a, b, c⟩ := G.f7 e; ⟨x, a, (k.blk (Array.getElem?_eq_some_iff.1 b).1).trans b, c⟩
  f8 := fun e => let ⟨z, a, c, K, kd, kc, p, q, r⟩ := G.f8 e; ⟨z, a, c, K, kd, kc, p, q.keep k, r.keep k⟩
  f9 := G.f9
  f10 := G.f10
  f11 := G.f11
  f12 := G.f12
  f13 := G.f13
  f14 := G.f14
  f15 := G.f15
set_option maxRecDepth 100000 in
set_option maxHeartbeats 3200000 in
theorem regB (a0 : Act) (w wB w0 : World) {id : Nat} {Q : Exit → Act → World → Prop} (L : List ByteArray) (na : Option Addr) (nc : Nat) (S : Sel) (T X : Ty) (h h2 : Hd) (bT bX : Nat) (hz : ∀ k ∈ WB, k < a0.tmps.size) (hk : Kp wB w)
    (eT : a0.eval (.tmp 3) = .pointer (some ⟨bT, 0, none⟩)) (rT : wB.heap[bT]? = some (.cells #[.int .i64 h.k, .string h.nm, .int .i64 h.con, .slice h.fa h.fl h.fc, .slice h.la h.ll h.lc, .slice h.ra h.rl h.rc] 42 (0, 0))) (eX : a0.eval (.tmp 7) = .pointer (some ⟨bX, 0, none⟩)) (rX : wB.heap[bX]? = some (.cells #[.int .i64 h2.k, .string h2.nm, .int .i64 h2.con, .slice h2.fa h2.fl h2.fc, .slice h2.la h2.ll h2.lc, .slice h2.ra h2.rl h2.rc] 42 (0, 0))) (eN : a0.eval (.tmp 1) = .slice na L.length nc)
    (hN : tab w0 S 9 na L.length nc 1 (fun i => [.string (L.getD i ByteArray.empty)])) (hk0 : Kp w0 wB) (hlL : L.length * 16 ≤ 140737488351232)
    (CO : ∀ (W : World) (x : Nat), W.heap[x]? = some (.cells #[.int .i64 h.k, .string h.nm, .int .i64 h.con, .slice h.fa h.fl h.fc, .slice h.la h.ll h.lc, .slice h.ra h.rl h.rc] 42 (0, 0)) → Kp wB W → Calls Try.prog 10 #[.slice (some ⟨x, 0, none⟩) 1 1] W fun e w' => ∃ ad c K, e = .returned (.slice ad 1 c) ∧ LiesAll w' A0 9 [T] ad c K ∧ Kp W w')
    (CU : ∀ (na : Option Addr) (nc : Nat) (ad : Option Addr) (c : Nat) (K : Nat → Hd) (x : Nat) (W : World), tab W A0 9 na L.length nc 1 (fun i => [.string (L.getD i ByteArray.empty)]) → LiesAll W A0 9 [T] ad c K → W.heap[x]? = some (.cells #[.int .i64 h2.k, .string h2.nm, .int .i64 h2.con, .slice h2.fa h2.fl h2.fc, .slice h2.la h2.ll h2.lc, .slice h2.ra h2.rl h2.rc] 42 (0, 0)) → Kp wB W → Calls Try.prog 9 #[.slice na L.length nc, .slice ad 1 c, .slice (some ⟨x, 0, none⟩) 1 1] W fun e w' => ∃ ad c KR kd kc, e = .returned (.tuple #[.slice ad L.length c, .slice kd L.length kc, .int .i64 0]) ∧ Kp W w' ∧ LiesAll w' A0 9 (uRes L [T] [X]) ad c KR ∧ tab w' A0 4 kd L.length kc 1 (fun i => [.bool (kb (uRes L [T] [X]) i)]))
    (hend : ∀ (v : Nat → Value) (w' : World), Kp wB w' → (∃ ad c KR kd kc, v 9 = .slice ad L.length c ∧ v 10 = .slice kd L.length kc ∧ v 11 = .int .i64 0 ∧ LiesAll w' A0 9 (uRes L [T] [X]) ad c KR ∧ tab w' A0 4 kd L.length kc 1 (fun i => [.bool (kb (uRes L [T] [X]) i)])) → Q .normal (WB.foldl (fun b k => b.put (some k) (v k)) a0) w') :
    (Code.region id rgB true).wp Try.prog Q a0 w := by
  have HEND := Lib.hid hend
  have HCO := Lib.hid CO
  have HCU := Lib.hid CU
  clear hend CO CU
  obtain ⟨i2, hs, hx0, hx1, hx2⟩ := info_parts infoS
  refine wp_region_inv (by kernel_rfl) (fun l a w => ∃ v, Slots a0 WB v a ∧ GB wB L na nc T X h h2 l v w) (edges_back (by kernel_rfl)) ⟨_, Slots.start a0 _, ?_⟩ ?_ ?_
  · exact ⟨hk.drew, (fun e => by cases e), (fun e => by cases e), (fun e => by cases e), (fun e => by cases e), (fun e => by cases e), (fun e => by cases e), (fun e => by cases e), (fun e => by cases e), (fun e => by cases e), (fun e => by cases e), (fun e => by cases e), (fun e => by cases e), (fun e => by cases e), (fun e => by cases e), (fun e => by cases e), (fun e => by cases e)⟩
  · intro i o l a w1 ho hl hd ⟨v, hS, hG⟩
    match i, ho, hl with
    | 0, ho, hl =>
      obtain rfl : ob_0 = o := Option.some.inj ho
      refine wpOp_step ho (fun K hK => ?_)
      refine step_go rfl ?_
      refine step_val (.slice (some ⟨w1.heap.size, 0, none⟩) 0 0) (w' := w1.alloc (.cells #[] 9)) (by kernel_rfl) (hK _ _ ⟨_, hS.put (by decide) hz _, ?_⟩)
      have hG' := hG.keep ((Kp.refl w1).alloc (.cells #[] 9))
      exact ⟨hG'.kp, fun _ => ⟨w1.heap.size, rfl, hG.kp.sz, by simp, fun _ => heap_alloc_new _ _⟩, hG'.f1, hG'.f2, hG'.f3, fun e => let ⟨x, a, b, c⟩ := hG'.f4 e; ⟨x, a, b, fun g _ (y : Value.slice (some ⟨w1.heap.size, 0, none⟩) 0 0 = .slice (some ⟨g, 0, none⟩) 0 0) => by
        obtain ⟨x', a', b', _⟩ := hG.f4 e
        have hx : x = x' := by have := a.symm.trans a'; injection this with this; injection this with this; injection this
        have hg : w1.heap.size = g := by injection y with y; injection y with y; injection y
        have := (Array.getElem?_eq_some_iff.1 b').1
        omega⟩, hG'.f5, hG'.f6, fun e => let ⟨x, a, b, c⟩ := hG'.f7 e; ⟨x, a, b, fun g _ (y : Value.slice (some ⟨w1.heap.size, 0, none⟩) 0 0 = .slice (some ⟨g, 0, none⟩) 0 0) => by
        obtain ⟨x', a', b', _⟩ := hG.f7 e
        have hx : x = x' := by have := a.symm.trans a'; injection this with this; injection this with this; injection this
        have hg : w1.heap.size = g := by injection y with y; injection y with y; injection y
        have := (Array.getElem?_eq_some_iff.1 b').1
        omega⟩, hG'.f8, hG'.f9, hG'.f10, hG'.f11, hG'.f12, hG'.f13, hG'.f14, hG'.f15⟩
    | 1, ho, hl =>
      obtain rfl : ob_1 = o := Option.some.inj ho
      refine wpOp_step ho (fun K hK => ?_)
      refine step_go rfl ?_
      have e0 := (hS.old (k := 1) (by decide)).trans eN
      refine step_val (w' := w1) (.slice na L.length nc) (by simp [execOp, ob_1, e0]) (hK _ _ ⟨_, hS.put (by decide) hz _, ?_⟩)
      exact ⟨hG.kp, hG.f0, fun _ => rfl, hG.f2, hG.f3, hG.f4, hG.f5, hG.f6, hG.f7, hG.f8, hG.f9, hG.f10, hG.f11, hG.f12, hG.f13, hG.f14, hG.f15⟩
    | 2, ho, hl =>
      obtain rfl : ob_2 = o := Option.some.inj ho
      refine wpOp_step ho (fun K hK => ?_)
      obtain ⟨g, e0, g0, g1, g2⟩ := hG.f0 (hd ⟨0, .data⟩ (by simp [ob_2]) rfl)
      have x0 := (hS.ev 35 (by decide)).trans e0
      have x1 := (hS.ev 36 (by decide)).trans (hG.f1 (hd ⟨1, .data⟩ (by simp [ob_2]) rfl))
      refine step_append_tab rfl _ _ 22 rfl wB.heap.size 9 i2 _ 1 16 Try.underlying22 hs hx0 hx1 hx2 rfl (by decide) _ 0 [] x0 (own_cells0 (g2 hl) g0) w0 S _ _ _ _ x1 hN (hk0.trans hG.kp) (fun _ => rfl) (fun _ u hu => by rw [List.mem_singleton] at hu; subst hu; rfl) (by unfold maxLen; omega) (by omega) hG.kp.sz ?_
      intro v1 w6 ho1 hg6
      rw [Nat.zero_add, List.nil_append] at ho1
      obtain ⟨na2, nc2, hv1, _, ht1, _⟩ := tab_of_owns ho1 (fun _ => rfl)
      subst hv1
      refine hK _ _ ⟨_, hS.put (by decide) hz _, ?_⟩
      have ne : ∀ x, g ≠ x → some x ≠ (Value.slice (some ⟨g, 0, none⟩) 0 0).ownBlock := fun x hx e => hx (by simpa [Value.ownBlock] using e.symm)
      exact ⟨Kp.grown hG.kp hg6 (fun k hk => Option.some.inj (show some g = some k by simpa [Value.ownBlock] using hk) ▸ g0), fun _ => ⟨g, e0, g0, Nat.lt_of_lt_of_le g1 hg6.size, fun z => absurd (show true = false from z) (by decide)⟩, hG.f1, fun _ => ⟨na2, nc2, rfl, ht1.weak (A0_le _)⟩, hG.f3, fun e => let ⟨x, a, b, c⟩ := hG.f4 e; ⟨x, a, (hg6.block x (Array.getElem?_eq_some_iff.1 b).1 (ne x (c g (hd ⟨0, .data⟩ (by simp [ob_2]) rfl) e0))).trans b, c⟩, fun e => absurd ((hG.f5 e).1.symm.trans hl) (by decide), hG.f6, fun e => let ⟨x, a, b, c⟩ := hG.f7 e; ⟨x, a, (hg6.block x (Array.getElem?_eq_some_iff.1 b).1 (ne x (c g (hd ⟨0, .data⟩ (by simp [ob_2]) rfl) e0))).trans b, c⟩, fun e => absurd ((hG.f8 e).1.symm.trans hl) (by decide), fun e => absurd ((hG.f8 (hG.f9 e).1).1.symm.trans hl) (by decide), fun e => absurd ((hG.f8 (hG.f10 e).1).1.symm.trans hl) (by decide), fun e => absurd ((hG.f8 (hG.f11 e).1).1.symm.trans hl) (by decide), fun e => absurd ((hG.f8 (hG.f12 e).1).1.symm.trans hl) (by decide), fun e => absurd ((hG.f8 (hG.f13 e).1).1.symm.trans hl) (by decide), fun e => absurd ((hG.f8 (hG.f14 e).1).1.symm.trans hl) (by decide), fun e => absurd ((hG.f8 (hG.f15 e).1).1.symm.trans hl) (by decide)⟩
    | 3, ho, hl =>
      obtain rfl : ob_3 = o := Option.some.inj ho
      refine wpOp_step ho (fun K hK => ?_)
      refine step_go rfl ?_
      refine wp_load_row 42 _ rfl bT ((hS.old (by decide)).trans eT) 42 #[.int .i64 h.k, .string h.nm, .int .i64 h.con, .slice h.fa h.fl h.fc, .slice h.la h.ll h.lc, .slice h.ra h.rl h.rc] (0, 0) _ ((hG.kp.blk (Array.getElem?_eq_some_iff.1 rT).1).trans rT) Try.underlying42 rfl (by kernel_rfl) (hK _ _ ⟨_, hS.put (by decide) hz _, ?_⟩)
      exact ⟨hG.kp, hG.f0, hG.f1, hG.f2, fun _ => rfl, hG.f4, hG.f5, hG.f6, hG.f7, hG.f8, hG.f9, hG.f10, hG.f11, hG.f12, hG.f13, hG.f14, hG.f15⟩
    | 4, ho, hl =>
      obtain rfl : ob_4 = o := Option.some.inj ho
      refine wpOp_step ho (fun K hK => ?_)
      refine step_go rfl ?_
      have x0 := (hS.ev 38 (by decide)).trans (hG.f3 (hd ⟨3, .data⟩ (by simp [ob_4]) rfl))
      refine step_slice 23 42 1 _ rfl Try.underlying23 #[.int .i64 h.k, .string h.nm, .int .i64 h.con, .slice h.fa h.fl h.fc, .slice h.la h.ll h.lc, .slice h.ra h.rl h.rc] (pv := [(0, h.val)]) (by simp [x0]) (by kernel_rfl) (hK _ _ ⟨_, hS.put (by decide) hz _, ?_⟩)
      have hG' := hG.keep ((Kp.refl w1).alloc (.cells #[.int .i64 h.k, .string h.nm, .int .i64 h.con, .slice h.fa h.fl h.fc, .slice h.la h.ll h.lc, .slice h.ra h.rl h.rc] 42))
      exact ⟨hG'.kp, hG'.f0, hG'.f1, hG'.f2, hG'.f3, fun _ => ⟨w1.heap.size, rfl, heap_alloc_new _ _, fun g e y => by
        obtain ⟨g', a', _, b', _⟩ := hG.f0 e
        have hg : g = g' := by have := (show v 35 = _ from y).symm.trans a'; injection this with this; injection this with this; injection this
        omega⟩, hG'.f5, hG'.f6, hG'.f7, hG'.f8, hG'.f9, hG'.f10, hG'.f11, hG'.f12, hG'.f13, hG'.f14, hG'.f15⟩
    | 5, ho, hl =>
      obtain rfl : ob_5 = o := Option.some.inj ho
      refine wpOp_step ho (fun K hK => ?_)
      refine step_go rfl ?_
      obtain ⟨x, e0, e1, _⟩ := hG.f4 (hd ⟨4, .data⟩ (by simp [ob_5]) rfl)
      have x0 := (hS.ev 39 (by decide)).trans e0
      refine step_call rfl Try.func10 (by kernel_rfl) (by kernel_rfl) (vals := #[.slice (some ⟨x, 0, none⟩) 1 1]) (by simp [x0]) ((HCO.out w1 x e1 hG.kp).mono (fun e w' ⟨ad, c, K, k1, k2, k3⟩ => ⟨_, k1, hK _ _ ⟨_, hS.put (by decide) hz _, ?_⟩⟩))
      have hG' := hG.keep k3
      exact ⟨hG'.kp, hG'.f0, hG'.f1, hG'.f2, hG'.f3, hG'.f4, fun _ => ⟨(hd ⟨2, .chain⟩ (by simp [ob_5]) rfl), ad, c, K, rfl, k2⟩, hG'.f6, hG'.f7, hG'.f8, hG'.f9, hG'.f10, hG'.f11, hG'.f12, hG'.f13, hG'.f14, hG'.f15⟩
    | 6, ho, hl =>
      obtain rfl : ob_6 = o := Option.some.inj ho
      refine wpOp_step ho (fun K hK => ?_)
      refine step_go rfl ?_
      refine wp_load_row 42 _ rfl bX ((hS.old (by decide)).trans eX) 42 #[.int .i64 h2.k, .string h2.nm, .int .i64 h2.con, .slice h2.fa h2.fl h2.fc, .slice h2.la h2.ll h2.lc, .slice h2.ra h2.rl h2.rc] (0, 0) _ ((hG.kp.blk (Array.getElem?_eq_some_iff.1 rX).1).trans rX) Try.underlying42 rfl (by kernel_rfl) (hK _ _ ⟨_, hS.put (by decide) hz _, ?_⟩)
      exact ⟨hG.kp, hG.f0, hG.f1, hG.f2, hG.f3, hG.f4, hG.f5, fun _ => rfl, hG.f7, hG.f8, hG.f9, hG.f10, hG.f11, hG.f12, hG.f13, hG.f14, hG.f15⟩
    | 7, ho, hl =>
      obtain rfl : ob_7 = o := Option.some.inj ho
      refine wpOp_step ho (fun K hK => ?_)
      refine step_go rfl ?_
      have x0 := (hS.ev 41 (by decide)).trans (hG.f6 (hd ⟨6, .data⟩ (by simp [ob_7]) rfl))
      refine step_slice 23 42 1 _ rfl Try.underlying23 #[.int .i64 h2.k, .string h2.nm, .int .i64 h2.con, .slice h2.fa h2.fl h2.fc, .slice h2.la h2.ll h2.lc, .slice h2.ra h2.rl h2.rc] (pv := [(0, h2.val)]) (by simp [x0]) (by kernel_rfl) (hK _ _ ⟨_, hS.put (by decide) hz _, ?_⟩)
      have hG' := hG.keep ((Kp.refl w1).alloc (.cells #[.int .i64 h2.k, .string h2.nm, .int .i64 h2.con, .slice h2.fa h2.fl h2.fc, .slice h2.la h2.ll h2.lc, .slice h2.ra h2.rl h2.rc] 42))
      exact ⟨hG'.kp, hG'.f0, hG'.f1, hG'.f2, hG'.f3, hG'.f4, hG'.f5, hG'.f6, fun _ => ⟨w1.heap.size, rfl, heap_alloc_new _ _, fun g e y => by
        obtain ⟨g', a', _, b', _⟩ := hG.f0 e
        have hg : g = g' := by have := (show v 35 = _ from y).symm.trans a'; injection this with this; injection this with this; injection this
        omega⟩, hG'.f8, hG'.f9, hG'.f10, hG'.f11, hG'.f12, hG'.f13, hG'.f14, hG'.f15⟩
    | 8, ho, hl =>
      obtain rfl : ob_8 = o := Option.some.inj ho
      refine wpOp_step ho (fun K hK => ?_)
      refine step_go rfl ?_
      obtain ⟨na2, nc2, e0, t0⟩ := hG.f2 (hd ⟨2, .data⟩ (by simp [ob_8]) rfl)
      obtain ⟨_, ad, c, K, e1, l1⟩ := hG.f5 (hd ⟨5, .data⟩ (by simp [ob_8]) rfl)
      obtain ⟨x, e2, b2, _⟩ := hG.f7 (hd ⟨7, .data⟩ (by simp [ob_8]) rfl)
      have x0 := (hS.ev 37 (by decide)).trans e0
      have x1 := (hS.ev 40 (by decide)).trans e1
      have x2 := (hS.ev 42 (by decide)).trans e2
      refine step_call rfl Try.func9 (by kernel_rfl) (by kernel_rfl) (vals := #[.slice na2 L.length nc2, .slice ad 1 c, .slice (some ⟨x, 0, none⟩) 1 1]) (by simp [x0, x1, x2]) ((HCU.out na2 nc2 ad c K x w1 t0 l1 b2 hG.kp).mono (fun e w' ⟨ad, c, KR, kd, kc, k1, k3, k2, k4⟩ => ⟨_, k1, hK _ _ ⟨_, hS.put (by decide) hz _, ?_⟩⟩))
      have hG' := hG.keep k3
      exact ⟨hG'.kp, hG'.f0, hG'.f1, hG'.f2, hG'.f3, hG'.f4, hG'.f5, hG'.f6, hG'.f7, fun _ => ⟨(hd ⟨2, .data⟩ (by simp [ob_8]) rfl), ad, c, KR, kd, kc, rfl, k2, k4⟩, fun e => absurd ((hG.f9 e).1.symm.trans hl) (by decide), fun e => absurd ((hG.f10 e).1.symm.trans hl) (by decide), fun e => absurd ((hG.f11 e).1.symm.trans hl) (by decide), fun e => absurd ((hG.f12 e).1.symm.trans hl) (by decide), fun e => absurd ((hG.f13 e).1.symm.trans hl) (by decide), fun e => absurd ((hG.f14 e).1.symm.trans hl) (by decide), fun e => absurd ((hG.f15 e).1.symm.trans hl) (by decide)⟩
    | 9, ho, hl =>
      obtain rfl : ob_9 = o := Option.some.inj ho
      refine wpOp_step ho (fun K hK => ?_)
      refine step_go rfl ?_
      refine step_val (w' := w1) (v 43) (by simp [execOp, ob_9, (hS.ev 43 (by decide))]) (hK _ _ ⟨_, hS.put (by decide) hz _, ?_⟩)
      exact ⟨hG.kp, hG.f0, hG.f1, hG.f2, hG.f3, hG.f4, hG.f5, hG.f6, hG.f7, hG.f8, fun _ => ⟨(hd ⟨8, .data⟩ (by simp [ob_9]) rfl), rfl⟩, hG.f10, hG.f11, hG.f12, hG.f13, hG.f14, hG.f15⟩
    | 10, ho, hl =>
      obtain rfl : ob_10 = o := Option.some.inj ho
      refine wpOp_step ho (fun K hK => ?_)
      refine step_go rfl ?_
      obtain ⟨c0, e0⟩ := hG.f9 (hd ⟨9, .data⟩ (by simp [ob_10]) rfl)
      obtain ⟨_, ad, c, KR, kd, kc, e1, _⟩ := hG.f8 c0
      have x0 := ((hS.ev 34 (by decide)).trans e0).trans e1
      refine step_val (w' := w1) (tk (v 43) 0) (by simp [execOp, ob_10, x0, e1, tk, Instr.extract]) (hK _ _ ⟨_, hS.put (by decide) hz _, ?_⟩)
      exact ⟨hG.kp, hG.f0, hG.f1, hG.f2, hG.f3, hG.f4, hG.f5, hG.f6, hG.f7, hG.f8, hG.f9, fun _ => ⟨c0, rfl⟩, hG.f11, hG.f12, hG.f13, hG.f14, hG.f15⟩
    | 11, ho, hl =>
      obtain rfl : ob_11 = o := Option.some.inj ho
      refine wpOp_step ho (fun K hK => ?_)
      refine step_go rfl ?_
      obtain ⟨c0, e0⟩ := hG.f9 (hd ⟨9, .data⟩ (by simp [ob_11]) rfl)
      obtain ⟨_, ad, c, KR, kd, kc, e1, _⟩ := hG.f8 c0
      have x0 := ((hS.ev 34 (by decide)).trans e0).trans e1
      refine step_val (w' := w1) (tk (v 43) 1) (by simp [execOp, ob_11, x0, e1, tk, Instr.extract]) (hK _ _ ⟨_, hS.put (by decide) hz _, ?_⟩)
      exact ⟨hG.kp, hG.f0, hG.f1, hG.f2, hG.f3, hG.f4, hG.f5, hG.f6, hG.f7, hG.f8, hG.f9, hG.f10, fun _ => ⟨c0, rfl⟩, hG.f12, hG.f13, hG.f14, hG.f15⟩
    | 12, ho, hl =>
      obtain rfl : ob_12 = o := Option.some.inj ho
      refine wpOp_step ho (fun K hK => ?_)
      refine step_go rfl ?_
      obtain ⟨c0, e0⟩ := hG.f9 (hd ⟨9, .data⟩ (by simp [ob_12]) rfl)
      obtain ⟨_, ad, c, KR, kd, kc, e1, _⟩ := hG.f8 c0
      have x0 := ((hS.ev 34 (by decide)).trans e0).trans e1
      refine step_val (w' := w1) (tk (v 43) 2) (by simp [execOp, ob_12, x0, e1, tk, Instr.extract]) (hK _ _ ⟨_, hS.put (by decide) hz _, ?_⟩)
      exact ⟨hG.kp, hG.f0, hG.f1, hG.f2, hG.f3, hG.f4, hG.f5, hG.f6, hG.f7, hG.f8, hG.f9, hG.f10, hG.f11, fun _ => ⟨c0, rfl⟩, hG.f13, hG.f14, hG.f15⟩
    | 13, ho, hl =>
      obtain rfl : ob_13 = o := Option.some.inj ho
      refine wpOp_step ho (fun K hK => ?_)
      refine step_go rfl ?_
      obtain ⟨c0, e0⟩ := hG.f10 (hd ⟨10, .data⟩ (by simp [ob_13]) rfl)
      have x0 := (hS.ev 44 (by decide)).trans e0
      refine step_val (w' := w1) (tk (v 43) 0) (by simp [execOp, ob_13, x0]) (hK _ _ ⟨_, hS.put (by decide) hz _, ?_⟩)
      exact ⟨hG.kp, hG.f0, hG.f1, hG.f2, hG.f3, hG.f4, hG.f5, hG.f6, hG.f7, hG.f8, hG.f9, hG.f10, hG.f11, hG.f12, fun _ => ⟨c0, rfl⟩, hG.f14, hG.f15⟩
    | 14, ho, hl =>
      obtain rfl : ob_14 = o := Option.some.inj ho
      refine wpOp_step ho (fun K hK => ?_)
      refine step_go rfl ?_
      obtain ⟨c0, e0⟩ := hG.f11 (hd ⟨11, .data⟩ (by simp [ob_14]) rfl)
      have x0 := (hS.ev 45 (by decide)).trans e0
      refine step_val (w' := w1) (tk (v 43) 1) (by simp [execOp, ob_14, x0]) (hK _ _ ⟨_, hS.put (by decide) hz _, ?_⟩)
      exact ⟨hG.kp, hG.f0, hG.f1, hG.f2, hG.f3, hG.f4, hG.f5, hG.f6, hG.f7, hG.f8, hG.f9, hG.f10, hG.f11, hG.f12, hG.f13, fun _ => ⟨c0, rfl⟩, hG.f15⟩
    | 15, ho, hl =>
      obtain rfl : ob_15 = o := Option.some.inj ho
      refine wpOp_step ho (fun K hK => ?_)
      refine step_go rfl ?_
      obtain ⟨c0, e0⟩ := hG.f12 (hd ⟨12, .data⟩ (by simp [ob_15]) rfl)
      have x0 := (hS.ev 46 (by decide)).trans e0
      refine step_val (w' := w1) (tk (v 43) 2) (by simp [execOp, ob_15, x0]) (hK _ _ ⟨_, hS.put (by decide) hz _, ?_⟩)
      exact ⟨hG.kp, hG.f0, hG.f1, hG.f2, hG.f3, hG.f4, hG.f5, hG.f6, hG.f7, hG.f8, hG.f9, hG.f10, hG.f11, hG.f12, hG.f13, hG.f14, fun _ => ⟨c0, rfl⟩⟩
    | i + 16, ho, hl => exact absurd ho (by simp [rgB])
  · intro l a w1 hall ⟨v, hS, hG⟩
    obtain ⟨_, ad, c, KR, kd, kc, e1, e2, e3⟩ := hG.f8 (hall 8 (by decide))
    have p0 := (hG.f13 (hall 13 (by decide))).2
    have p1 := (hG.f14 (hall 14 (by decide))).2
    have p2 := (hG.f15 (hall 15 (by decide))).2
    rw [e1] at p0 p1 p2
    rw [hS.refit hz]
    exact HEND.out v w1 hG.kp ⟨ad, c, KR, kd, kc, p0, p1, p2, e2, e3⟩
end Go.Proofs.Ytfjflfokmihcpaa
