/- How a heap lies in memory, the program's and the reference's. No condition; no program is walked here. -/
import Derived.Test.YtkaeigklhdpifaaSh
import Derived.Test.YtkaeigklhdpifaaM0
import Derived.Maps.Ext
namespace Go.Proofs.Ytkaeigklhdpifaa
open Go.RowKit Go.Maps Go.Sort
set_option linter.unusedVariables false
set_option linter.unusedSimpArgs false

/-- But for the blocks of N nothing of what was there has turned. -/
structure Tr (N : Nat → Prop) (w w' : World) : Prop where
  os : w'.os = w.os
  tape : w'.tape = w.tape
  output : w'.output = w.output
  sz : w.heap.size ≤ w'.heap.size
  fr : Fr N w w'
theorem Tr.refl (N : Nat → Prop) (w : World) : Tr N w w := ⟨rfl, rfl, rfl, Nat.le_refl _, fun _ _ _ => rfl⟩
theorem Tr.of {N N' : Nat → Prop} {w w' : World} (h : Tr N w w') (hN : ∀ k, k < w.heap.size → N k → N' k) : Tr N' w w' := ⟨h.os, h.tape, h.output, h.sz, fun k hk hn => h.fr k hk (fun e => hn (hN k hk e))⟩
theorem Tr.trans {N N' : Nat → Prop} {a b c : World} (h : Tr N a b) (k : Tr N' b c) (hN : ∀ i, i < a.heap.size → N' i → N i) : Tr N a c :=
  ⟨k.os.trans h.os, k.tape.trans h.tape, k.output.trans h.output, Nat.le_trans h.sz k.sz, fun i hi hn => (k.fr i (Nat.lt_of_lt_of_le hi h.sz) (fun e => hn (hN i hi e))).trans (h.fr i hi hn)⟩
theorem Kp.tr {w w' : World} (h : Kp w w') (N : Nat → Prop) : Tr N w w' := ⟨h.os, h.tape, h.output, h.sz, fun k hk _ => h.blk hk⟩
theorem Tr.kp {N : Nat → Prop} {w w' : World} (h : Tr N w w') (hN : ∀ k, k < w.heap.size → ¬ N k) : Kp w w' := ⟨h.os, h.tape, h.output, h.sz, fun k hk => h.fr k hk (hN k hk)⟩
/-- Of an older world nothing turns. -/
theorem Tr.old {N : Nat → Prop} {a w w' : World} (h : Tr N w w') (ha : Kp a w) (hN : ∀ k, N k → a.heap.size ≤ k) : Kp a w' :=
  ⟨h.os.trans ha.os, h.tape.trans ha.tape, h.output.trans ha.output, Nat.le_trans ha.sz h.sz, fun i hi => (h.fr i (Nat.lt_of_lt_of_le hi ha.sz) (fun e => by have := hN i e; omega)).trans (ha.blk hi)⟩
theorem Tr.keep {N : Nat → Prop} {a b c : World} (h : Tr N a b) (k : Kp b c) : Tr N a c := h.trans (k.tr N) (fun _ _ e => e)
theorem Tr.set {N : Nat → Prop} {a b : World} (h : Tr N a b) {p : Addr} (hp : N p.block ∨ a.heap.size ≤ p.block) (v : Value) : Tr N a (b.setCell p v) :=
  ⟨h.os, h.tape, h.output, by rw [World.size_setCell]; exact h.sz, fun k hk hn => (Below.heap_setCell _ _ _ _ (fun e => by
    rcases hp with h1 | h1
    · exact hn (e ▸ h1)
    · omega)).trans (h.fr k hk hn)⟩
theorem Tr.grown {N : Nat → Prop} {a b c : World} {row : Option Nat} (h : Tr N a b) (hg : b.grownBy c row) (hr : ∀ k, row = some k → N k ∨ a.heap.size ≤ k) : Tr N a c :=
  ⟨hg.os.trans h.os, hg.tape.trans h.tape, hg.output.trans h.output, Nat.le_trans h.sz hg.size, fun k hk hn => (hg.block k (Nat.lt_of_lt_of_le hk h.sz) (fun e => by
    rcases hr k e.symm with h1 | h1
    · exact hn h1
    · omega)).trans (h.fr k hk hn)⟩
theorem Tr.row {N : Nat → Prop} {w w' : World} (h : Tr N w w') {b : Nat} {o : Obj} (hb : w.heap[b]? = some o) (hn : ¬ N b) : w'.heap[b]? = some o := (h.fr b (row_lt hb) hn).trans hb
theorem Tr.rl {α : Type} {e : TypeId} {m by_ : Nat} {L : Ly α} (g : Good m L) {N : Nat → Prop} {w w' : World} {B : Sel} {l : List α} {v : Value} (h : Tr N w w') (hl : RL e m by_ L w B l v) (hB : ∀ b, b < w.heap.size → B.S b → ¬ N b) : RL e m by_ L w' B l v := hl.turn g h.fr h.sz hB

/-! ### maps by their keys -/
abbrev DV := DataW Value
def RS : Value → Option (DV × List MemPlace)
  | .slice a n c => some (.held (.slice a n c), [])
  | _ => none
theorem RS_mk (a : Option Addr) (n c : Nat) : RS (.slice a n c) = some (.held (.slice a n c), []) := rfl
theorem RS_inv {v : Value} {y : DV × List MemPlace} (h : RS v = some y) : (∃ a n c, v = .slice a n c) ∧ y = (.held v, []) := by
  cases v <;> simp [RS] at h
  exact ⟨⟨_, _, _, rfl⟩, h.symm⟩
structure MapIs (D : DV) (F : Int → Option Value) : Prop where
  m : IsMap D
  hs : ∀ k : Int, Maps.has D (.int .i64 k) = (F k).isSome
  at' : ∀ k v, F k = some v → ∀ z, D.atKey (.int .i64 k) z = .held v
theorem ki_ne {j k : Int} (h : j ≠ k) : (Lit.int .i64 j) ≠ .int .i64 k := fun e => h (by cases e; rfl)
theorem MapIs.none {D : DV} {F : Int → Option Value} (h : MapIs D F) {k : Int} (hk : F k = Option.none) (z : DV) : D.atKey (.int .i64 k) z = z := atKey_of_not_has (by rw [h.hs, hk]; rfl) z
theorem MapIs.empty : MapIs (.map []) (fun _ => Option.none) := ⟨isMap_empty, fun k => rfl, fun k v h => by cases h⟩
theorem MapIs.put {D : DV} {F : Int → Option Value} (h : MapIs D F) (k : Int) (v : Value) : MapIs (D.put (.int .i64 k) (.held v)) (fun j => if j = k then some v else F j) := by
  refine ⟨h.m.put _ _, fun j => ?_, fun j u hj z => ?_⟩
  · by_cases e : j = k
    · subst e; rw [has_put_same h.m (show WideAt.IsKeyLit (.int .i64 j) from trivial)]; simp
    · rw [has_put_other (ki_ne e), h.hs, if_neg e]
  · by_cases e : j = k
    · subst e; rw [if_pos rfl] at hj; cases hj; exact atKey_put_same h.m (show WideAt.IsKeyLit (.int .i64 j) from trivial) _ _
    · rw [if_neg e] at hj; rw [atKey_put_other (ki_ne e)]; exact h.at' j u hj z
theorem MapIs.del {D : DV} {F : Int → Option Value} (h : MapIs D F) (k : Int) : MapIs (D.del (.int .i64 k)) (fun j => if j = k then Option.none else F j) := by
  refine ⟨h.m.del _, fun j => ?_, fun j u hj z => ?_⟩
  · by_cases e : j = k
    · subst e; rw [has_del_same]; simp
    · rw [has_del_other (ki_ne e), h.hs, if_neg e]
  · by_cases e : j = k
    · subst e; rw [if_pos rfl] at hj; cases hj
    · rw [if_neg e] at hj; rw [atKey_del_other (ki_ne e)]; exact h.at' j u hj z
abbrev KI : Keyed Try.prog 3 := int_keyed Try.underlying3
theorem keyI {k : Int} (h : i64 k) : keyOf Try.prog 3 (.int .i64 k) = some (.int .i64 k) := keyOf_int_mk Try.underlying3 (by unfold i64 at h; simp [Lit.wf, IntKind.min, IntKind.max, IntKind.signed, IntKind.bits]; omega)
/-- A map owned, by as many entries as it has. -/
def OM {H : Type} (R : Value → Option (DataW H × List MemPlace)) (w : World) (b : Nat) (D : DataW H) : Prop := w.ownsMap Try.prog 3 R b (Maps.size D) D
theorem OM.of {H : Type} {R : Value → Option (DataW H × List MemPlace)} {w : World} {b n : Nat} {D : DataW H} (h : w.ownsMap Try.prog 3 R b n D) : OM R w b D := by
  obtain ⟨es, clock, h1, h2, h3, h4⟩ := h
  refine ⟨es, clock, h1, h2, ?_, h4⟩
  rw [h4]
  simp [Maps.size, length_sorted]
theorem OM.tidy {H : Type} {R : Value → Option (DataW H × List MemPlace)} {w : World} {b : Nat} {D : DataW H} (h : OM R w b D) : Maps.Tidy D := by
  obtain ⟨es, h1, h2, _⟩ := World.ownsMap.entries h KI
  exact ⟨es, h1, h2⟩
theorem OM.turn {H : Type} {R : Value → Option (DataW H × List MemPlace)} {w w' : World} {b : Nat} {D : DataW H} (h : OM R w b D) (hb : w'.heap[b]? = w.heap[b]?) : OM R w' b D := by
  obtain ⟨es, clock, h1, h2, h3, h4⟩ := h
  exact ⟨es, clock, hb.trans h1, h2, h3, h4⟩
/-- The keys, sorted. -/
theorem keys_sorted {H : Type} {R : Value → Option (DataW H × List MemPlace)} {w : World} {b : Nat} {D : DataW H} (h : OM R w b D) {l ss : List Int} (hl : l.Pairwise fun a b => a < b) (hm : ∀ k : Int, Maps.has D (.int .i64 k) = true ↔ k ∈ l) (hs : ss.Perm (intKeys D)) : ss.mergeSort (fun x y => decide (x ≤ y)) = l := by
  obtain ⟨es, hD, hpw, _⟩ := World.ownsMap.entries h KI
  obtain ⟨es', hD', hko⟩ := World.ownsMap.keysOf h
  obtain rfl : es = es' := by rw [hD] at hD'; simpa using hD'
  subst hD
  have hp : l.Perm (intKeys (DataW.map es)) := perm_intKeys hpw (fun p hp => by obtain ⟨v, hv⟩ := hko p hp; obtain ⟨x, _, hx, _⟩ := Maps.keyOf_i64 Try.underlying3 hv; exact ⟨x, hx⟩) (hl.imp (fun h => by omega)) (fun x => (hm x).symm)
  have := mergeSort_of_perm_i (hs.trans hp.symm)
  show ss.mergeSort leI = l
  rw [this]
  exact List.mergeSort_of_pairwise (hl.imp (fun h => by simp only [leI, decide_eq_true_eq]; omega))

/-! ### the program's heap -/
def cellsV : List (Int × Bool) → List Value
  | [] => []
  | c :: l => .int .u64 c.1 :: .bool c.2 :: cellsV l
theorem cellsV_len : ∀ l, (cellsV l).length = l.length * 2
  | [] => rfl
  | c :: l => by simp [cellsV, cellsV_len l]; omega
theorem cellsV_at : ∀ (l : List (Int × Bool)) (i : Nat) (c : Int × Bool), l[i]? = some c → (cellsV l)[i * 2]? = some (.int .u64 c.1) ∧ (cellsV l)[i * 2 + 1]? = some (.bool c.2)
  | [], i, c, h => by simp at h
  | d :: l, 0, c, h => by simp at h; subst h; simp [cellsV]
  | d :: l, i + 1, c, h => by
    have := cellsV_at l i c (by simpa using h)
    rw [show (i + 1) * 2 = i * 2 + 1 + 1 by omega]
    simpa [cellsV] using this
theorem cellsV_set : ∀ (l : List (Int × Bool)) (i : Nat) (n : Int), i < l.length → (cellsV l).set (i * 2) (.int .u64 n) = cellsV (l.modify i fun c => (n, c.2))
  | [], i, n, h => by simp at h
  | d :: l, 0, n, h => by simp [cellsV]
  | d :: l, i + 1, n, h => by
    have := cellsV_set l i n (by simpa using h)
    rw [show (i + 1) * 2 = i * 2 + 1 + 1 by omega]
    simp [cellsV, this]
theorem cellsV_one : ∀ (l : List (Int × Bool)), ∀ u ∈ cellsV l, u.oneCell' = true
  | [], u, h => by cases h
  | c :: l, u, h => by
    rcases List.mem_cons.1 h with rfl | h
    · rfl
    · rcases List.mem_cons.1 h with rfl | h
      · rfl
      · exact cellsV_one l u h
theorem cellsV_new (refs : List Bool) : cellsV (refs.map fun r => (0, r)) = (refs.flatMap fun r => [.int .u64 0, .bool r]) := by
  induction refs with
  | nil => rfl
  | cons r l ih => simp [cellsV, ih]
/-- The value v is a slice of so many cells, in a block of its own. -/
def CV (w : World) (l : List (Int × Bool)) (v : Value) : Prop := w.ownsRow 0 75 2 v l.length (cellsV l)
theorem CV.slice {w : World} {l : List (Int × Bool)} {v : Value} (h : CV w l v) : ∃ a c, v = .slice a l.length c := by
  obtain ⟨_, ⟨rfl, h⟩ | ⟨g, cap, cur, rfl, _⟩⟩ := h
  · exact ⟨none, 0, by rw [h]⟩
  · exact ⟨_, _, rfl⟩
theorem CV.turn {w w' : World} {l : List (Int × Bool)} {v : Value} (h : CV w l v) (hk : ∀ g, v.ownBlock = some g → w'.heap[g]? = w.heap[g]?) : CV w' l v := by
  obtain ⟨hl, hv | ⟨gb, cap, cur, rfl, hB, hg, rest⟩⟩ := h
  · exact ⟨hl, .inl hv⟩
  · exact ⟨hl, .inr ⟨gb, cap, cur, rfl, hB, (hk gb rfl).trans hg, rest⟩⟩
/-- What the objects lie in. -/
structure HO (w : World) (N : Nat → Prop) (p mb : Nat) (S : Hs) (F : Int → Option Value) : Prop where
  dom : ∀ k, (F k).isSome = hasN S k
  ob : ∀ o ∈ S, ∃ v, F o.nm = some v ∧ CV w o.cs v
  inN : ∀ k v g, F k = some v → v.ownBlock = some g → N g ∧ g ≠ p ∧ g ≠ mb
  ap : ∀ j k u v g, j ≠ k → F j = some u → F k = some v → u.ownBlock = some g → v.ownBlock ≠ some g
/-- Names from 1 to tk are all there. -/
def Tk (S : Hs) (tk : Int) : Prop := 0 ≤ tk ∧ tk ≤ 65536 ∧ ∀ j : Int, 1 ≤ j → j ≤ tk → hasN S j = true
structure HP (w : World) (N : Nat → Prop) (p : Nat) (bud : Nat) (S : Hs) : Prop where
  np : N p
  lt : ∀ k, N k → k < w.heap.size
  box : ∃ tk mb D F, w.heap[p]? = some (.cells #[.int .i64 (bud : Int), .int .i64 (used S : Int), .int .i64 tk, .map (some mb)] 71 (0, 0)) ∧ N mb ∧ mb ≠ p ∧ Tk S tk ∧ OM RS w mb D ∧ MapIs D F ∧ Maps.size D = S.length ∧ HO w N p mb S F
theorem HO.turn {w w' : World} {N : Nat → Prop} {p mb : Nat} {S : Hs} {F : Int → Option Value} (h : HO w N p mb S F) (hk : ∀ g, N g → g ≠ p → g ≠ mb → w'.heap[g]? = w.heap[g]?) : HO w' N p mb S F :=
  ⟨h.dom, fun o ho => by
    obtain ⟨v, h1, h2⟩ := h.ob o ho
    exact ⟨v, h1, h2.turn (fun g hg => by obtain ⟨a, b, c⟩ := h.inN _ _ _ h1 hg; exact hk g a b c)⟩, h.inN, h.ap⟩
theorem HP.turn {w w' : World} {N : Nat → Prop} {p bud : Nat} {S : Hs} (h : HP w N p bud S) (hs : w.heap.size ≤ w'.heap.size) (hk : ∀ g, N g → w'.heap[g]? = w.heap[g]?) : HP w' N p bud S := by
  obtain ⟨hp, hl, tk, mb, D, F, h1, h2, h3, h4, h5, h6, h7, h8⟩ := h
  exact ⟨hp, fun k hk => Nat.lt_of_lt_of_le (hl k hk) hs, tk, mb, D, F, (hk p hp).trans h1, h2, h3, h4, h5.turn (hk mb h2), h6, h7, h8.turn (fun g a _ _ => hk g a)⟩
theorem HP.keep {w w' : World} {N : Nat → Prop} {p bud : Nat} {S : Hs} (h : HP w N p bud S) (hk : Kp w w') : HP w' N p bud S := h.turn hk.sz (fun g hg => hk.blk (h.lt g hg))
theorem HP.tr {w w' : World} {N M : Nat → Prop} {p bud : Nat} {S : Hs} (h : HP w N p bud S) (hk : Tr M w w') (hM : ∀ k, N k → ¬ M k) : HP w' N p bud S := h.turn hk.sz (fun g hg => hk.fr g (h.lt g hg) (hM g hg))

/-! ### the reference's heap -/
def numsV (l : List (Int × Bool)) : List Value := l.map fun c => .int .u64 c.1
def refsV (l : List (Int × Bool)) : List Value := l.map fun c => .bool c.2
def objC (S : Hs) (cv rv : Int → Value) (i : Nat) : List Value := match S[i]? with
  | some o => [.int .i64 o.nm, cv o.nm, rv o.nm]
  | none => [.int .i64 0, .slice none 0 0, .slice none 0 0]
def NV (w : World) (e : TypeId) (l : List Value) (v : Value) : Prop := w.ownsRow 0 e 1 v l.length l
theorem NV.turn {w w' : World} {e : TypeId} {l : List Value} {v : Value} (h : NV w e l v) (hk : ∀ g, v.ownBlock = some g → w'.heap[g]? = w.heap[g]?) : NV w' e l v := by
  obtain ⟨hl, hv | ⟨gb, cap, cur, rfl, hB, hg, rest⟩⟩ := h
  · exact ⟨hl, .inl hv⟩
  · exact ⟨hl, .inr ⟨gb, cap, cur, rfl, hB, (hk gb rfl).trans hg, rest⟩⟩
theorem NV.slice {w : World} {e : TypeId} {l : List Value} {v : Value} (h : NV w e l v) : ∃ a c, v = .slice a l.length c := by
  obtain ⟨_, ⟨rfl, h⟩ | ⟨g, cap, cur, rfl, _⟩⟩ := h
  · exact ⟨none, 0, by rw [h]⟩
  · exact ⟨_, _, rfl⟩
structure RO (w : World) (M : Nat → Prop) (q : Nat) (S : Hs) (cv rv : Int → Value) : Prop where
  ob : ∀ o ∈ S, NV w 31 (numsV o.cs) (cv o.nm) ∧ NV w 4 (refsV o.cs) (rv o.nm)
  one : ∀ k, (cv k).oneCell' = true ∧ (rv k).oneCell' = true
  inN : ∀ o ∈ S, ∀ g, ((cv o.nm).ownBlock = some g ∨ (rv o.nm).ownBlock = some g) → M g ∧ g ≠ q
  ap : ∀ a ∈ S, ∀ b ∈ S, ∀ g, a.nm ≠ b.nm → (cv a.nm).ownBlock = some g → (cv b.nm).ownBlock ≠ some g
structure RP (w : World) (M : Nat → Prop) (q : Nat) (bud : Nat) (S : Hs) : Prop where
  nq : M q
  lt : ∀ k, M k → k < w.heap.size
  box : ∃ v cv rv, w.heap[q]? = some (.cells #[v, .int .i64 (bud : Int)] 53 (0, 0)) ∧ (∀ g, v.ownBlock = some g → M g ∧ g ≠ q) ∧ w.ownsRow 0 50 3 v S.length (flat (objC S cv rv) S.length) ∧ RO w M q S cv rv
theorem RO.turn {w w' : World} {M : Nat → Prop} {q : Nat} {S : Hs} {cv rv : Int → Value} (h : RO w M q S cv rv) (hk : ∀ g, M g → g ≠ q → w'.heap[g]? = w.heap[g]?) : RO w' M q S cv rv :=
  ⟨fun o ho => ⟨(h.ob o ho).1.turn (fun g hg => by obtain ⟨a, b⟩ := h.inN o ho g (.inl hg); exact hk g a b), (h.ob o ho).2.turn (fun g hg => by obtain ⟨a, b⟩ := h.inN o ho g (.inr hg); exact hk g a b)⟩, h.one, h.inN, h.ap⟩
theorem own_turn {w w' : World} {B n m : Nat} {e : TypeId} {v : Value} {xs : List Value} (h : w.ownsRow B e m v n xs) (hk : ∀ k, v.ownBlock = some k → w'.heap[k]? = w.heap[k]?) : w'.ownsRow B e m v n xs := by
  obtain ⟨hl, hv | ⟨gb, cap, cur, rfl, hB, hg, rest⟩⟩ := h
  · exact ⟨hl, .inl hv⟩
  · exact ⟨hl, .inr ⟨gb, cap, cur, rfl, hB, (hk gb rfl).trans hg, rest⟩⟩
theorem RP.turn {w w' : World} {M : Nat → Prop} {q bud : Nat} {S : Hs} (h : RP w M q bud S) (hs : w.heap.size ≤ w'.heap.size) (hk : ∀ g, M g → w'.heap[g]? = w.heap[g]?) : RP w' M q bud S := by
  obtain ⟨hq, hl, v, cv, rv, h1, h2, h3, h4⟩ := h
  exact ⟨hq, fun k hk => Nat.lt_of_lt_of_le (hl k hk) hs, v, cv, rv, (hk q hq).trans h1, h2, own_turn h3 (fun g hg => hk g (h2 g hg).1), h4.turn (fun g a _ => hk g a)⟩
theorem RP.keep {w w' : World} {M : Nat → Prop} {q bud : Nat} {S : Hs} (h : RP w M q bud S) (hk : Kp w w') : RP w' M q bud S := h.turn hk.sz (fun g hg => hk.blk (h.lt g hg))
theorem RP.tr {w w' : World} {N M : Nat → Prop} {q bud : Nat} {S : Hs} (h : RP w M q bud S) (hk : Tr N w w') (hM : ∀ k, M k → ¬ N k) : RP w' M q bud S := h.turn hk.sz (fun g hg => hk.fr g (h.lt g hg) (hM g hg))
theorem objC_len (S : Hs) (cv rv : Int → Value) (i : Nat) : (objC S cv rv i).length = 3 := by unfold objC; split <;> rfl
theorem objC_one {S : Hs} {cv rv : Int → Value} (h : ∀ k, (cv k).oneCell' = true ∧ (rv k).oneCell' = true) (i : Nat) : ∀ u ∈ objC S cv rv i, u.oneCell' = true := by
  intro u hu
  unfold objC at hu
  split at hu <;> simp at hu <;> rcases hu with rfl | rfl | rfl
  · rfl
  · exact (h _).1
  · exact (h _).2
  all_goals rfl
theorem objC_at {S : Hs} {cv rv : Int → Value} {i : Nat} {o : Ob} (h : S[i]? = some o) : objC S cv rv i = [.int .i64 o.nm, cv o.nm, rv o.nm] := by unfold objC; rw [h]
/-- A block of one type of cells is none of another. -/
theorem ty_ne {w : World} {a b : Nat} {c d : Array Value} {s t : TypeId} {f g : Nat × Nat} (h : w.heap[a]? = some (.cells c s f)) (k : w.heap[b]? = some (.cells d t g)) (hne : s ≠ t) : a ≠ b := fun e => by
  subst e
  rw [h] at k
  cases k
  exact hne rfl
theorem own_cells {w : World} {B n m : Nat} {e : TypeId} {v : Value} {xs : List Value} (h : w.ownsRow B e m v n xs) {g : Nat} (hg : v.ownBlock = some g) : ∃ cur, w.heap[g]? = some (.cells cur e (0, 0)) := by
  obtain ⟨_, ⟨rfl, _⟩ | ⟨gb, cap, cur, rfl, _, h1, _⟩⟩ := h
  · cases hg
  · cases hg; exact ⟨cur, h1⟩
end Go.Proofs.Ytkaeigklhdpifaa
