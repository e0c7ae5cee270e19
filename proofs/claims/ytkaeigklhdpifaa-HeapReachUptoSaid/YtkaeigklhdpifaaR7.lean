/- The reference's Alloc. Condition: the heap lies in memory; what is handed in lies apart from it. -/
import Derived.Test.YtkaeigklhdpifaaR6
import Derived.Deep.DeepCutAuto
import Derived.Deep.CutBlock
namespace Go.Proofs.Ytkaeigklhdpifaa
open Go.RowKit Go.Maps Go.Sort
set_option linter.unusedVariables false
set_option linter.unusedSimpArgs false
theorem wrap_room {u n : Nat} (hu : u ≤ 65536) (hn : n ≤ 262146) : IntKind.i64.wrap (IntKind.i64.wrap ((u : Int) + 1) + (n : Int)) = (u : Int) + 1 + (n : Int) := by rw [IntKind.wrap_i64, IntKind.wrap_i64]; omega
theorem step_append_tab {P : Program} {w : World} {ops : Array Oper} {o : Oper} {a : Act} {K : Act → World → Prop} {Q : Exit → Act → World → Prop} {E : Prop} (hgd : o.guard = none) (s x : Operand) (t : TypeId)
    (ho : o.op = .call { callee := .builtin .append, args := #[s, x], argTypes := #[t, t] })
    (base : Nat) (e : TypeId) (i : TypeInfo) (z : Value) (size bytes : Nat) (ht : P.underlying t = some (.slice e)) (hi : P.info? e = some i) (hz : i.zero = some z)
    (hsize : i.size = size) (hby : i.bytes = bytes) (hzs : z.cells.size = size) (hsz : 0 < size)
    (v : Value) (n : Nat) (xs : List Value) (hs : a.eval s = v) (hown : w.ownsRow base e size v n xs)
    (w0 : World) (B : Sel) (ad : Option Addr) (m c : Nat) (C : Nat → List Value) (hx : a.eval x = .slice ad m c) (htab : tab w0 B e ad m c size C) (hk : Kp w0 w) (hC : ∀ i, (C i).length = size) (h1 : ∀ i, ∀ u ∈ C i, u.oneCell' = true)
    (h63 : n + m ≤ maxLen) (hbytes : (n + m) * bytes ≤ 140737488355328) (hbase : base ≤ w.heap.size)
    (hb0 : w0.heap.size ≤ base) (h : ∀ v' w', w'.ownsRow base e size v' (n + m) (xs ++ flat C m) → w.grownBy w' v.ownBlock → Kp w0 w' → K (a.put o.dst v') w') :
    if Region.wanted o (yielded ops a.tmps) = true then Oper.wp P o a w K Q else E := by
  have hw : Region.wanted o (yielded ops a.tmps) = true := by simp [Region.wanted, hgd]
  rw [if_pos hw]
  cases ad with
  | none =>
    obtain ⟨rfl, rfl⟩ := htab.1 rfl
    have hrun := run_append_owned_none (P := P) (w := w) base t o.type e i size ht hi v n xs hown
    unfold Oper.wp
    simp [execOp, ho, resolve, invoke, builtin, hs, hx, hrun, Result.andThen]
    exact h v w (by simpa [flat] using hown) (World.grownBy.refl w _) hk
  | some ad =>
    refine wp_append_own w s x t ho base e i z size bytes ht hi hz hsize hby hzs hsz v n xs hs hown ad m c (flat C m) hx (flat_len hC m) ?_ (flat_mem h1 m) h63 hbytes hbase (fun v' w' a b _ => h v' w' a b (hk.grown b (fun k hkk => Nat.le_trans hb0 (hown.lt k hkk).1)))
    intro j u hu
    by_cases hm : 0 < m
    · obtain ⟨b, o, hb, hr⟩ := (htab.keep hk).at hm
      obtain rfl := Option.some.inj hb
      rw [Addr.add_mid]
      exact rangeAt_flat hC hr j u hu
    · obtain rfl : m = 0 := by omega
      simp [flat] at hu
theorem empty_own {w : World} {B g m : Nat} {e : TypeId} (h : w.heap[g]? = some (.cells #[] e (0, 0))) (hB : B ≤ g) : w.ownsRow B e m (.slice (some ⟨g, 0, none⟩) 0 0) 0 [] :=
  ⟨by simp, .inr ⟨g, 0, #[], rfl, hB, h, Nat.le_refl _, by unfold maxLen; omega, by simp, by simp⟩⟩
theorem flat_bo {C : Nat → List Value} {refs : List Bool} (h : ∀ (i : Nat) (x : Bool), refs[i]? = some x → C i = [.bool x]) : flat C refs.length = boV refs := by
  have key : ∀ n, n ≤ refs.length → flat C n = boV (refs.take n) := by
    intro n
    induction n with
    | zero => intro _; simp [flat, boV]
    | succ n ih =>
      intro hn
      have hx : refs[n]? = some (refs[n]'(by omega)) := List.getElem?_eq_getElem (by omega)
      rw [flat, ih (by omega), h n _ hx, List.take_add_one, hx]
      unfold boV
      rw [List.map_append]
      rfl
  have := key refs.length (Nat.le_refl _)
  rwa [List.take_of_length_le (Nat.le_refl _)] at this
theorem tab.pre {w : World} {B : Sel} {e : TypeId} {a : Option Addr} {n c m k : Nat} {C : Nat → List Value} (h : tab w B e a n c m C) (hk : k ≤ n) : tab w B e a k c m C := ⟨fun ha => by have := h.1 ha; omega, fun hn => by
  obtain ⟨b, o, ha, hB, hl, hf, hr⟩ := h.2 (by omega)
  exact ⟨b, o, ha, hB, hl, hf, fun i hi => hr i (by omega)⟩⟩
theorem at_alloc {w : World} {o x : Obj} {b : Nat} (h : w.heap[b]? = some x) : (w.alloc o).heap[b]? = some x := (heap_alloc_old w o b (row_lt h)).trans h
theorem at_drew {w : World} {x : Obj} {b : Nat} (h : w.heap[b]? = some x) : w.drew.heap[b]? = some x := h
theorem at_grown {w w' : World} {r : Option Nat} {x : Obj} {b : Nat} (g : w.grownBy w' r) (h : w.heap[b]? = some x) (hn : some b ≠ r) : w'.heap[b]? = some x := (g.block b (row_lt h) hn).trans h
theorem at_ke {w w' : World} {p : Nat} {x : Obj} {b : Nat} (k : Ke p w w') (h : w.heap[b]? = some x) (hn : b ≠ p) : w'.heap[b]? = some x := (k.2.2.2.2 b (row_lt h) hn).trans h
theorem ownblk {g n c b : Nat} (h : b ≠ g) : some b ≠ (Value.slice (some ⟨g, 0, none⟩) n c).ownBlock := fun e => h (by simpa [Value.ownBlock] using e)
theorem own_ke {w w' : World} {p n m B : Nat} {e : TypeId} {v : Value} {xs : List Value} (k : Ke p w w') (h : w.ownsRow B e m v n xs) (hn : v.ownBlock ≠ some p) : w'.ownsRow B e m v n xs := own_turn h (fun g hg => k.2.2.2.2 g (h.lt g hg).2 (fun e => hn (by rw [hg, e])))
theorem own_old {w : World} {B n m p : Nat} {e : TypeId} {v : Value} {xs : List Value} (h : w.ownsRow B e m v n xs) {o : Obj} (hp : w.heap[p]? = some o) (ho : ∀ cur, o ≠ .cells cur e (0, 0)) : v.ownBlock ≠ some p := fun hg => by
  obtain ⟨cur, hc⟩ := own_cells h hg
  rw [hp] at hc
  exact ho cur (Option.some.inj hc)
theorem own_fresh {w : World} {B n m p : Nat} {e : TypeId} {v : Value} {xs : List Value} (h : w.ownsRow B e m v n xs) (hp : w.heap.size ≤ p) : v.ownBlock ≠ some p := fun hg => by have := (h.lt p hg).2; omega
theorem cells3 {w : World} {p : Nat} {x y z : Value} {e : TypeId} (h : w.heap[p]? = some (.cells #[x, y, z] e (0, 0))) : w.cell? ⟨p, 0, none⟩ = some x ∧ w.cell? ⟨p, 1, none⟩ = some y ∧ w.cell? ⟨p, 2, none⟩ = some z ∧ w.frozen? ⟨p, 0, none⟩ = false ∧ w.frozen? ⟨p, 1, none⟩ = false ∧ w.frozen? ⟨p, 2, none⟩ = false :=
  ⟨by rw [cell_of_row _ _ _ _ _ _ h]; rfl, by rw [cell_of_row _ _ _ _ _ _ h]; rfl, by rw [cell_of_row _ _ _ _ _ _ h]; rfl, frozen_of_row _ _ 0 _ _ h, frozen_of_row _ _ 1 _ _ h, frozen_of_row _ _ 2 _ _ h⟩
theorem with9 (w : World) (p : Nat) {G : Prop} (h : w.heap[p]? = some (.cells #[.int .i64 0, .slice none 0 0, .slice none 0 0] 50 (0, 0))) (k : Hid (w.heap[p]? = some (.cells #[.int .i64 0, .slice none 0 0, .slice none 0 0] 50 (0, 0))) → w.cell? ⟨p, 0, none⟩ = some (.int .i64 0) ∧ w.cell? ⟨p, 1, none⟩ = some (.slice none 0 0) ∧ w.cell? ⟨p, 2, none⟩ = some (.slice none 0 0) ∧ w.frozen? ⟨p, 0, none⟩ = false ∧ w.frozen? ⟨p, 1, none⟩ = false ∧ w.frozen? ⟨p, 2, none⟩ = false → p < w.heap.size → G) : G := k (Lib.hid h) (cells3 h) (row_lt h)
theorem set3 {w : World} {p : Nat} {x y z x' y' z' : Value} {e : TypeId} (h : w.heap[p]? = some (.cells #[x, y, z] e (0, 0))) : (((w.setCell ⟨p, 0, none⟩ x').setCell ⟨p, 1, none⟩ y').setCell ⟨p, 2, none⟩ z').heap[p]? = some (.cells #[x', y', z'] e (0, 0)) := by
  have h1 := heap_setCell_same w p 0 _ _ x' h
  have h2 := heap_setCell_same _ p 1 _ _ y' h1
  exact heap_setCell_same _ p 2 _ _ z' h2
theorem set3_other {w : World} {p : Nat} {x' y' z' : Value} {k : Nat} (hk : k ≠ p) : (((w.setCell ⟨p, 0, none⟩ x').setCell ⟨p, 1, none⟩ y').setCell ⟨p, 2, none⟩ z').heap[k]? = w.heap[k]? :=
  ((Below.heap_setCell _ _ _ _ hk).trans (Below.heap_setCell _ _ _ _ hk)).trans (Below.heap_setCell _ _ _ _ hk)
theorem made_own {w : World} {base g n : Nat} {e : TypeId} (hg : w.heap[g]? = some (.cells (madeCells #[.int .u64 0] (n * 1)) e (0, 0))) (hb : base ≤ g) (hn : n ≤ maxLen) : w.ownsRow base e 1 (.slice (some ⟨g, 0, none⟩) n n) n (List.replicate n (.int .u64 0)) := by
  refine ⟨by simp, .inr ⟨g, n, _, rfl, hb, hg, Nat.le_refl _, hn, size_madeCells _ _, ?_⟩⟩
  rw [toList_madeCells_one, Nat.mul_one, List.take_of_length_le (by simp)]
/-- A new object for the reference: its block, and its rows. -/
structure NewO (w0 w : World) (refs : List Bool) (nm : Int) (p : Nat) (vc vr : Value) : Prop where
  kp : Kp w0 w
  p0 : w0.heap.size ≤ p
  cells : w.heap[p]? = some (.cells #[.int .i64 nm, vc, vr] 50 (0, 0))
  c : w.ownsRow w0.heap.size 31 1 vc refs.length (List.replicate refs.length (.int .u64 0))
  r : w.ownsRow w0.heap.size 4 1 vr refs.length (boV refs)
theorem newO_of {w0 w : World} {refs : List Bool} {nm : Int} {p g : Nat} {vr : Value} (kp : Kp w0 w) (p0 : w0.heap.size ≤ p) (hp : w.heap[p]? = some (.cells #[.int .i64 nm, .slice (some ⟨g, 0, none⟩) refs.length refs.length, vr] 50 (0, 0)))
    (g0 : w0.heap.size ≤ g) (hg : w.heap[g]? = some (.cells (madeCells #[.int .u64 0] refs.length) 31 (0, 0))) (hn : refs.length ≤ maxLen) (hr : w.ownsRow w0.heap.size 4 1 vr refs.length (boV refs)) : NewO w0 w refs nm p (.slice (some ⟨g, 0, none⟩) refs.length refs.length) vr :=
  ⟨kp, p0, hp, made_own (by rw [Nat.mul_one]; exact hg) g0 hn, hr⟩
theorem own_addr {w : World} {B n m c : Nat} {e : TypeId} {a : Option Addr} {xs : List Value} (h : w.ownsRow B e m (.slice a n c) n xs) : (a = none ∧ n = 0 ∧ c = 0) ∨ ∃ g, a = some ⟨g, 0, none⟩ := by
  obtain ⟨hl, ⟨h1, h2⟩ | ⟨g, cap, cur, h1, _⟩⟩ := h
  · cases h1; exact .inl ⟨rfl, rfl, rfl⟩
  · cases h1; exact .inr ⟨g, rfl⟩
theorem tab.suf {w : World} {B : Sel} {e : TypeId} {b n c m k : Nat} {C : Nat → List Value} (h : tab w B e (some ⟨b, 0, none⟩) n c m C) (hk : k ≤ n) : tab w A0 e (some ⟨b, k * m, none⟩) (n - k) (c - k) m (fun i => C (k + i)) := ⟨fun ha => (by cases ha), fun hn => by
  obtain ⟨b', o, ha, _, hl, _, hr⟩ := h.2 (by omega)
  obtain ⟨rfl, rfl⟩ : b' = b ∧ o = 0 := by have := Option.some.inj ha; cases this; exact ⟨rfl, rfl⟩
  refine ⟨b', k * m, rfl, trivial, hl, fun hf => hf.elim, fun i hi => ?_⟩
  have := hr (k + i) (by omega)
  rwa [show 0 + (k + i) * m = k * m + i * m from by rw [Nat.zero_add, Nat.add_mul]] at this⟩
theorem tab_zero {w : World} {B : Sel} {e : TypeId} {a : Addr} {n c m : Nat} {C : Nat → List Value} (hn : n = 0) : tab w B e (some a) n c m C := ⟨fun ha => (by cases ha), fun h => absurd h (by omega)⟩
theorem tab_none {w : World} {B : Sel} {e : TypeId} {n c m : Nat} {C : Nat → List Value} (hn : n = 0) (hc : c = 0) : tab w B e none n c m C := ⟨fun ha => ⟨hn, hc⟩, fun h => absurd h (by omega)⟩
theorem nil_own {w : World} {B m k : Nat} {e : TypeId} {v : Value} {xs : List Value} {C : Nat → List Value} (h : k ≤ 0) (ho : w.ownsRow B e m v (0 + 1) ([] ++ xs)) : w.ownsRow B e m v (k + 1) (flat C k ++ xs) := by
  obtain rfl : k = 0 := by omega
  exact ho
theorem nil_flat {w : World} {B m n n' : Nat} {e : TypeId} {v : Value} {xs : List Value} {C : Nat → List Value} (h : n ≤ 0) (ho : w.ownsRow B e m v n' xs) : w.ownsRow B e m v n' (xs ++ flat C n) := by
  obtain rfl : n = 0 := by omega
  simpa [flat] using ho
theorem row_range3 {w : World} {p : Nat} {x y z : Value} {e : TypeId} (h : w.heap[p]? = some (.cells #[x, y, z] e (0, 0))) : w.rangeAt p 0 [x, y, z] := fun j u hu => by
  rw [Nat.zero_add, cell_of_row _ _ _ _ _ _ h]
  simpa using hu
theorem own_one {w : World} {B n m : Nat} {e : TypeId} {v : Value} {xs : List Value} (h : w.ownsRow B e m v n xs) : v.oneCell' = true := by
  obtain ⟨a, c, rfl⟩ := own_slice h
  rfl
def NewAt (w0 w : World) (refs : List Bool) (nm : Int) (v : Value) : Prop := ∃ p vc vr, v = .pointer (some ⟨p, 0, none⟩) ∧ NewO w0 w refs nm p vc vr
section
variable {w0 w : World} {refs : List Bool} {nm x0 : Int} {p g : Nat} {vr : Value}
theorem new_a (hn : refs.length ≤ maxLen) (kp : Kp w0 w) (hr : w.ownsRow w0.heap.size 4 1 vr refs.length (boV refs)) (hg : w.heap[g]? = some (.cells (madeCells #[.int .u64 0] refs.length) 31 (0, 0))) (g0 : w0.heap.size ≤ g) (hx : x0 = nm) :
    NewAt w0 (w.alloc (.cells #[.int .i64 x0, .slice (some ⟨g, 0, none⟩) refs.length refs.length, vr] 50)) refs nm (.pointer (some ⟨w.heap.size, 0, none⟩)) := by
  subst hx
  exact ⟨_, _, _, rfl, newO_of (kp.alloc _) kp.sz (heap_at rfl) g0 (at_alloc hg) hn (hr.alloc _)⟩
theorem new_b (hn : refs.length ≤ maxLen) (kp : Kp w0 w) (hr : w.ownsRow w0.heap.size 4 1 vr refs.length (boV refs)) {x y z : Value} (hp : w.heap[p]? = some (.cells #[x, y, z] 50 (0, 0))) (p0 : w0.heap.size ≤ p) (hg : w.heap[g]? = some (.cells (madeCells #[.int .u64 0] refs.length) 31 (0, 0))) (g0 : w0.heap.size ≤ g) (hx : x0 = nm) :
    NewAt w0 (((w.setCell ⟨p, 0, none⟩ (.int .i64 x0)).setCell ⟨p, 1, none⟩ (.slice (some ⟨g, 0, none⟩) refs.length refs.length)).setCell ⟨p, 2, none⟩ vr) refs nm (.pointer (some ⟨p, 0, none⟩)) := by
  subst hx
  exact ⟨_, _, _, rfl, newO_of (((kp.setCell p0 _).setCell p0 _).setCell p0 _) p0 (set3 hp) g0 ((set3_other (Ne.symm (ty_ne hp hg (by decide)))).trans hg) hn
    (own_turn hr (fun j hj => set3_other (fun e => by subst e; obtain ⟨cur, hc⟩ := own_cells hr hj; rw [hp] at hc; cases hc)))⟩
theorem new_c (hn : refs.length ≤ maxLen) (kp : Kp w0 w) (hr : w.ownsRow w0.heap.size 4 1 vr refs.length (boV refs)) (hx : x0 = nm) :
    NewAt w0 ((w.alloc (.cells (madeCells #[.int .u64 0] refs.length) 31)).alloc (.cells #[.int .i64 x0, .slice (some ⟨w.heap.size, 0, none⟩) refs.length refs.length, vr] 50)) refs nm (.pointer (some ⟨w.heap.size + 1, 0, none⟩)) := by
  subst hx
  exact ⟨_, _, _, rfl, newO_of ((kp.alloc _).alloc _) (by have := kp.sz; omega) (heap_at (by simp)) kp.sz (at_alloc (heap_at rfl)) hn ((hr.alloc _).alloc _)⟩
theorem new_d (hn : refs.length ≤ maxLen) (kp : Kp w0 w) (hr : w.ownsRow w0.heap.size 4 1 vr refs.length (boV refs)) (hx : x0 = nm) :
    NewAt w0 ((w.alloc (.cells #[.int .i64 x0, .slice (some ⟨w.heap.size + 1, 0, none⟩) refs.length refs.length, vr] 50)).alloc (.cells (madeCells #[.int .u64 0] refs.length) 31)) refs nm (.pointer (some ⟨w.heap.size, 0, none⟩)) := by
  subst hx
  exact ⟨_, _, _, rfl, newO_of ((kp.alloc _).alloc _) kp.sz (at_alloc (heap_at rfl)) (by have := kp.sz; omega) (heap_at (by simp)) hn ((hr.alloc _).alloc _)⟩
theorem new_e (hn : refs.length ≤ maxLen) (kp : Kp w0 w) (hr : w.ownsRow w0.heap.size 4 1 vr refs.length (boV refs)) {x y z : Value} (hp : w.heap[p]? = some (.cells #[x, y, z] 50 (0, 0))) (p0 : w0.heap.size ≤ p) (hx : x0 = nm) :
    NewAt w0 ((((w.setCell ⟨p, 0, none⟩ (.int .i64 x0)).setCell ⟨p, 1, none⟩ (.slice (some ⟨w.heap.size, 0, none⟩) refs.length refs.length)).setCell ⟨p, 2, none⟩ vr).alloc (.cells (madeCells #[.int .u64 0] refs.length) 31)) refs nm (.pointer (some ⟨p, 0, none⟩)) := by
  subst hx
  exact ⟨_, _, _, rfl, newO_of ((((kp.setCell p0 _).setCell p0 _).setCell p0 _).alloc _) p0 (at_alloc (set3 hp)) kp.sz (heap_at (by simp [World.size_setCell])) hn
    ((own_turn hr (fun j hj => set3_other (fun e => by subst e; obtain ⟨cur, hc⟩ := own_cells hr hj; rw [hp] at hc; cases hc))).alloc _)⟩
end
def updV (f : Int → Value) (x : Int) (v : Value) : Int → Value := fun y => if y = x then v else f y
theorem updV_same (f : Int → Value) (x : Int) (v : Value) : updV f x v x = v := by unfold updV; rw [if_pos rfl]
theorem updV_ne {f : Int → Value} {x y : Int} {v : Value} (h : y ≠ x) : updV f x v y = f y := by unfold updV; rw [if_neg h]
theorem ins_lt {S : Hs} {refs : List Bool} {i : Nat} (h : i < pre S 0) : (ins S refs)[i]? = S[i]? := by
  have hl := pre_le S 0
  unfold ins
  rw [List.getElem?_append_left (by rw [List.length_take]; omega), List.getElem?_take_of_lt h]
theorem ins_at (S : Hs) (refs : List Bool) : (ins S refs)[pre S 0]? = some (newOb (pre S 0) refs) := by
  have hl := pre_le S 0
  unfold ins
  rw [List.getElem?_append_right (by rw [List.length_take]; omega), List.length_take, show pre S 0 - min (pre S 0) S.length = 0 from by omega]
  rfl
theorem ins_gt (S : Hs) (refs : List Bool) (i : Nat) : (ins S refs)[pre S 0 + 1 + i]? = S[pre S 0 + i]? := by
  have hl := pre_le S 0
  unfold ins
  rw [List.getElem?_append_right (by rw [List.length_take]; omega), List.length_take, show pre S 0 + 1 + i - min (pre S 0) S.length = i + 1 from by omega, List.getElem?_cons_succ, List.getElem?_drop]
theorem ins_len (S : Hs) (refs : List Bool) : (ins S refs).length = S.length + 1 := by
  have hl := pre_le S 0
  unfold ins
  simp
  omega
theorem objC_of {S T : Hs} {cv rv cv' rv' : Int → Value} {i j : Nat} (h : S[i]? = T[j]?) (hc : ∀ o ∈ T, cv o.nm = cv' o.nm ∧ rv o.nm = rv' o.nm) : objC S cv rv i = objC T cv' rv' j := by
  unfold objC
  rw [h]
  cases e : T[j]? with
  | none => rfl
  | some o =>
    obtain ⟨h1, h2⟩ := hc o (List.mem_of_getElem? e)
    dsimp only
    rw [h1, h2]
theorem objC_ins {S : Hs} {refs : List Bool} {cv rv : Int → Value} {vc vr : Value} (hno : ∀ o ∈ S, o.nm ≠ (pre S 0 : Int) + 1) : flat (objC (ins S refs) (updV cv ((pre S 0 : Int) + 1) vc) (updV rv ((pre S 0 : Int) + 1) vr)) (S.length + 1) = (flat (objC S cv rv) (pre S 0) ++ [.int .i64 ((pre S 0 : Int) + 1), vc, vr]) ++ flat (fun i => objC S cv rv (pre S 0 + i)) (S.length - pre S 0) := by
  have hl := pre_le S 0
  have hu : ∀ o ∈ S, updV cv ((pre S 0 : Int) + 1) vc o.nm = cv o.nm ∧ updV rv ((pre S 0 : Int) + 1) vr o.nm = rv o.nm := fun o ho => ⟨updV_ne (hno o ho), updV_ne (hno o ho)⟩
  rw [show S.length + 1 = (pre S 0 + 1) + (S.length - pre S 0) from by omega, flat_add, flat]
  rw [flat_congr (C' := objC S cv rv) (fun i hi => objC_of (ins_lt hi) hu)]
  rw [flat_congr (C' := fun i => objC S cv rv (pre S 0 + i)) (fun i hi => objC_of (ins_gt S refs i) hu)]
  rw [objC_at (ins_at S refs)]
  show _ ++ [Value.int .i64 ((pre S 0 : Int) + 1), updV cv ((pre S 0 : Int) + 1) vc ((pre S 0 : Int) + 1), updV rv ((pre S 0 : Int) + 1) vr ((pre S 0 : Int) + 1)] ++ _ = _
  rw [updV_same, updV_same]
theorem numsV_new (k : Nat) (refs : List Bool) : numsV (newOb k refs).cs = List.replicate refs.length (.int .u64 0) := by
  unfold numsV newOb
  induction refs with
  | nil => rfl
  | cons b l ih => simp only [List.map_cons, List.length_cons, List.replicate_succ]; rw [← ih]
theorem refsV_new (k : Nat) (refs : List Bool) : refsV (newOb k refs).cs = boV refs := by
  unfold refsV newOb boV
  rw [List.map_map]
  rfl
theorem RP.put {w0 wc w3 : World} {M : Nat → Prop} {q bud p n k : Nat} {S : Hs} {refs : List Bool} {vc vr v3 : Value} {cv rv : Int → Value} {x : Value} (ok : Ok S bud) (nq : M q) (lt : ∀ j, M j → j < w0.heap.size) (hbox : w3.heap[q]? = some (.cells #[x, .int .i64 (bud : Int)] 53 (0, 0)))
    (hro : RO w0 M q S cv rv) (hk : k = pre S 0) (hno : NewO w0 wc refs ((k : Int) + 1) p vc vr) (k3 : Kp wc w3) (hown : w3.ownsRow wc.heap.size 50 3 v3 n ((flat (objC S cv rv) k ++ [.int .i64 ((k : Int) + 1), vc, vr]) ++ flat (fun i => objC S cv rv (k + i)) (S.length - k))) (hn : n = S.length + 1) :
    RP (w3.setCell ⟨q, 0, none⟩ v3) (fun j => M j ∨ (w0.heap.size ≤ j ∧ j < w3.heap.size)) q bud (ins S refs) := by
  subst hk
  subst hn
  have hfree : ∀ o ∈ S, o.nm ≠ (pre S 0 : Int) + 1 := fun o ho => by
    have := hasN_false.1 (free_not ok.up (fun o ho => (ok.pos o ho).1)) o ho
    simpa using this
  have hsame := heap_setCell_same w3 q 0 _ _ v3 hbox
  have hset : ∀ j, j ≠ q → (w3.setCell ⟨q, 0, none⟩ v3).heap[j]? = w3.heap[j]? := fun j hj => Below.heap_setCell _ _ _ _ hj
  have z0 := hno.kp.sz
  have z3 := k3.sz
  have hq := lt q nq
  have hold : ∀ j, M j → j ≠ q → (w3.setCell ⟨q, 0, none⟩ v3).heap[j]? = w0.heap[j]? := fun j hj hne => ((hset j hne).trans (k3.blk (by have := lt j hj; omega))).trans (hno.kp.blk (lt j hj))
  have hnew : ∀ j, w0.heap.size ≤ j → j < wc.heap.size → (w3.setCell ⟨q, 0, none⟩ v3).heap[j]? = wc.heap[j]? := fun j h1 h2 => (hset j (by omega)).trans (k3.blk h2)
  have hme : ∀ o ∈ ins S refs, (o = newOb (pre S 0) refs ∧ updV cv ((pre S 0 : Int) + 1) vc o.nm = vc ∧ updV rv ((pre S 0 : Int) + 1) vr o.nm = vr) ∨ (o ∈ S ∧ updV cv ((pre S 0 : Int) + 1) vc o.nm = cv o.nm ∧ updV rv ((pre S 0 : Int) + 1) vr o.nm = rv o.nm) := fun o ho => by
    rcases ins_mem.1 ho with rfl | h
    · exact .inl ⟨rfl, updV_same _ _ _, updV_same _ _ _⟩
    · exact .inr ⟨h, updV_ne (hfree o h), updV_ne (hfree o h)⟩
  refine ⟨.inl nq, fun j hj => ?_, v3, updV cv ((pre S 0 : Int) + 1) vc, updV rv ((pre S 0 : Int) + 1) vr, hsame, fun g hg => ?_, ?_, ⟨fun o ho => ?_, fun j => ?_, fun o ho g hg => ?_, fun a ha b hb g hne hag => ?_⟩⟩
  · rw [World.size_setCell]
    rcases hj with hj | hj
    · have := lt j hj; omega
    · exact hj.2
  · obtain ⟨x1, x2⟩ := hown.lt g hg
    exact ⟨.inr ⟨by omega, x2⟩, by omega⟩
  · rw [ins_len, objC_ins hfree]
    exact own_turn (own_weak0 hown) (fun g hg => hset g (by have := (hown.lt g hg).1; omega))
  · rcases hme o ho with ⟨rfl, e1, e2⟩ | ⟨h, e1, e2⟩
    · rw [e1, e2]
      unfold NV
      rw [numsV_new, refsV_new, List.length_replicate, show (boV refs).length = refs.length from by simp [boV]]
      exact ⟨own_turn (own_weak0 hno.c) (fun g hg => hnew g (hno.c.lt g hg).1 (hno.c.lt g hg).2), own_turn (own_weak0 hno.r) (fun g hg => hnew g (hno.r.lt g hg).1 (hno.r.lt g hg).2)⟩
    · rw [e1, e2]
      obtain ⟨u1, u2⟩ := hro.ob o h
      exact ⟨u1.turn (fun g hg => hold g (hro.inN o h g (.inl hg)).1 (hro.inN o h g (.inl hg)).2), u2.turn (fun g hg => hold g (hro.inN o h g (.inr hg)).1 (hro.inN o h g (.inr hg)).2)⟩
  · unfold updV
    split
    · exact ⟨own_one hno.c, own_one hno.r⟩
    · exact hro.one j
  · rcases hme o ho with ⟨rfl, e1, e2⟩ | ⟨h, e1, e2⟩
    · rw [e1, e2] at hg
      have hb : w0.heap.size ≤ g ∧ g < wc.heap.size := by
        rcases hg with hg | hg
        · exact hno.c.lt g hg
        · exact hno.r.lt g hg
      exact ⟨.inr ⟨hb.1, by omega⟩, by omega⟩
    · rw [e1, e2] at hg
      obtain ⟨i1, i2⟩ := hro.inN o h g hg
      exact ⟨.inl i1, i2⟩
  · rcases hme a ha with ⟨rfl, e1, e2⟩ | ⟨h, e1, e2⟩
    · rcases hme b hb with ⟨rfl, f1, f2⟩ | ⟨h', f1, f2⟩
      · exact absurd rfl hne
      · rw [e1] at hag
        rw [f1]
        intro hbg
        have := (hno.c.lt g hag).1
        have := lt g (hro.inN b h' g (.inl hbg)).1
        omega
    · rcases hme b hb with ⟨rfl, f1, f2⟩ | ⟨h', f1, f2⟩
      · rw [e1] at hag
        rw [f1]
        intro hbg
        have := (hno.c.lt g hbg).1
        have := lt g (hro.inN a h g (.inl hag)).1
        omega
      · rw [e1] at hag
        rw [f1]
        exact hro.ap a h b h' g hne hag
set_option maxHeartbeats 4000000 in
set_option maxRecDepth 100000 in
theorem c_rAlloc {M : Nat → Prop} {q bud : Nat} {S : Hs} (refs : List Bool) (v : Value) (B : Sel) (l : List Int) (vl : Value) (Bl : Sel) (w : World) (h : RP w M q bud S) (ok : Ok S bud) (hr : BoL w B refs v) (hB : ∀ b, B.S b → ¬ M b) (hl : IL w Bl l vl) :
    Calls Try.prog 35 #[.pointer (some ⟨q, 0, none⟩), v, vl] w fun e w' => e = .returned (.tuple #[.int .i64 (allocP bud S refs l).2.1, .int .i64 (allocP bud S refs l).2.2]) ∧ ∃ M', RP w' M' q bud (allocP bud S refs l).1 ∧ Tr M w w' ∧ ∀ k, M' k → M k ∨ w.heap.size ≤ k := by
  have HH := Lib.hid h
  have HK := Lib.hid ok
  have HR := Lib.hid hr
  have HL := Lib.hid hl
  have HB := Lib.hid hB
  obtain ⟨ar, cr, _, rfl, _⟩ := id hr
  obtain ⟨v, hv⟩ : ∃ v, v = Value.slice ar refs.length cr := ⟨_, rfl⟩
  have HV := Lib.hid hv
  rw [← hv] at HR
  have hqz := h.lt q h.nq
  obtain ⟨_, _, _, _, h1, _⟩ := h.list
  have c1 := (row2 h1).2
  have hub := ok.bud
  have hus : used S ≤ 65536 := by have := ok.fit; omega
  have HTW := Lib.hid (Tr.refl M w)
  clear h ok hl hB hr h1 hv
  go_enter Try.func35, Try.ntmps35
  by_cases hbig : 262146 < refs.length
  · go_wp2_with fail
    go_ret2
    have hr : allocP bud S refs l = (S, 0, 2) := by unfold allocP; rw [if_pos hbig]
    rw [hr]
    exact ⟨rfl, M, HH.out, Tr.refl M _, fun k hk => .inl hk⟩
  · cases hk : knownR S l with
    | false =>
      have HN := Lib.hid hk
      clear hk
      go_wp2_with (go_at_call 36; (with_reducible refine (c_known l vl Bl w HH.out HK.out HL.out).mono ?_); rintro e w' ⟨rfl, rfl⟩; rw [HN.out])
      go_ret2
      have hr : allocP bud S refs l = (S, 0, 15) := by unfold allocP; rw [if_neg hbig, if_pos HN.out]
      rw [hr]
      exact ⟨rfl, M, HH.out, Tr.refl M _, fun k hk => .inl hk⟩
    | true =>
    have HN := Lib.hid hk
    have hA : allocP bud S refs l = if used (made bud S refs.length l) + 1 + refs.length ≤ bud then (ins (made bud S refs.length l) refs, (pre (made bud S refs.length l) 0 : Int) + 1, 0) else (made bud S refs.length l, 0, 20) := by unfold allocP; rw [if_neg hbig, if_neg (by rw [hk]; simp)]
    have HA := Lib.hid hA
    have hwr := wrap_room hus (show refs.length ≤ 262146 by omega)
    clear hk hA
    obtain ⟨SX, hSX0⟩ : ∃ SX, SX = made bud S refs.length l := ⟨_, rfl⟩
    have KX : Hid (Ok SX bud) := Lib.hid (by rw [hSX0]; exact HK.out.made _ _)
    rw [← hSX0] at HA
    have HSX := Lib.hid hSX0
    clear hSX0
    go_wp2_with (go_at_call 36; (with_reducible refine (c_known l vl Bl w HH.out HK.out HL.out).mono ?_); rintro e w' ⟨rfl, hw'⟩; rw [hw']; clear hw' w'; rw [HN.out])
    go_region_held3 (fun w' : World => w'.cell? ⟨q, 1, none⟩ = some (.int .i64 (bud : Int))) (exact c1) (first | (go_at_call 30; (with_reducible refine (c_rUsed _ (HH.out.keep (Kp.refl w).drew) HK.out).mono ?_); rintro e w' ⟨rfl, rfl⟩))
    go_upto_if 28 with fail
    go_cut [] (fun wc => ∃ MX, RP wc MX q bud SX ∧ Tr M w wc ∧ ∀ k, MX k → M k ∨ w.heap.size ≤ k)
    case first =>
      by_cases hroom : used S + 1 + refs.length ≤ bud
      · have hm : made bud S refs.length l = S := by unfold made; rw [if_pos hroom]
        have HSE := Lib.hid (HSX.out.trans hm)
        have hcmp : ¬ ((bud : Int) < (used S : Int) + 1 + (refs.length : Int)) := by omega
        clear hm
        go_wp2_with fail
        go_meet
        rw [HSE.out]
        exact ⟨M, HH.out.keep ((Kp.refl w).drew), ((Kp.refl w).drew).tr M, fun k hk => .inl hk⟩
      · have hm : made bud S refs.length l = (colP S l).1 := by unfold made colP; rw [if_neg hroom, HN.out]; rfl
        have HSE := Lib.hid (HSX.out.trans hm)
        have hcmp : (bud : Int) < (used S : Int) + 1 + (refs.length : Int) := by omega
        clear hm
        go_wp2_with (go_at_call 34; (with_reducible refine (c_rCollect l vl Bl _ (HH.out.keep (Kp.refl w).drew) HK.out (HL.out.keep goodI (Kp.refl w).drew)).mono ?_); rintro e wC ⟨rfl, MC, hC1, hC2, hC3⟩)
        go_meet
        rw [HSE.out]
        exact ⟨MC, hC1, ⟨hC2.os, hC2.tape, hC2.output, hC2.sz, hC2.fr⟩, hC3⟩
    case rest =>
      obtain ⟨MX, hX, hTX, hMX⟩ := hcut
      have HX0 := Lib.hid hX
      have HTX0 := Lib.hid hTX
      have HMX := Lib.hid hMX
      have huX : used SX ≤ 65536 := by have := KX.out.fit; omega
      have hwr2 := wrap_room huX (show refs.length ≤ 262146 by omega)
      obtain ⟨_, _, _, _, hl1, _⟩ := hX.list
      have c1 := (row2 hl1).2
      have hqx := hX.lt q hX.nq
      clear hX hTX hMX hl1
      by_cases hroomX : used SX + 1 + refs.length ≤ bud
      · have hcmp : ¬ ((bud : Int) < (used SX : Int) + 1 + (refs.length : Int)) := by omega
        go_upto_region 7 with fail
        go_region_held3 (fun w' : World => w'.cell? ⟨q, 1, none⟩ = some (.int .i64 (bud : Int))) (exact c1) (first | (go_at_call 30; (with_reducible refine (c_rUsed _ (HX0.out.keep (Kp.refl wc).drew) KX.out).mono ?_); rintro e w' ⟨rfl, rfl⟩))
        go_upto_region 9 with fail
        have HX : Hid (RP wc.drew MX q bud SX) := Lib.hid (HX0.out.keep ((Kp.refl wc).drew))
        have HTX : Hid (Tr M w wc.drew) := Lib.hid (HTX0.out.keep ((Kp.refl wc).drew))
        have HR := Lib.hid ((HTX.out.rl goodBo HR.out (fun b _ hb => HB.out b hb)))
        obtain ⟨wx, hwx⟩ : ∃ wx, wx = wc.drew := ⟨_, rfl⟩
        rw [← hwx] at HX HR HTX ⊢
        clear hcmp hwr2 hwr c1 hqx hwx
        obtain ⟨a, c, cv, rv, q1, hlc, q2, q3, ht, hro⟩ := HX.out.list
        obtain ⟨c0, c1⟩ := row2 q1
        have hqx := HX.out.lt q HX.out.nq
        have Q1 := Lib.hid q1
        have Q2 := Lib.hid q2
        have Q3 := Lib.hid q3
        have HTB := Lib.hid ht
        have HRO := Lib.hid hro
        have hSX := KX.out.len
        have hpl := pre_le SX 0
        obtain ⟨ar', cr', CB, hvE, hb1, hb2, hb3, htB, hb5⟩ := HR.out
        have HCB := Lib.hid (flat_bo hb5)
        have HTBo := Lib.hid htB
        have HB3 := Lib.hid hb3
        obtain ⟨rfl, rfl⟩ : ar' = ar ∧ cr' = cr := by
          have h1 := HV.out.symm.trans hvE
          have := Value.slice.inj h1
          exact ⟨this.1.symm, this.2.2.symm⟩
        obtain ⟨iU, hIU, hU0, hU1, hU2⟩ := info_parts infoU
        obtain ⟨iB, hIB, hB0, hB1, hB2⟩ := info_parts infoBo
        obtain ⟨iO, hIO, hO0, hO1, hO2⟩ := info_parts infoO
        have hmk : ∀ w, (Instr.makeSlice 48 (.int .i64 (refs.length : Int)) (.int .i64 (refs.length : Int))).run Try.prog w = .ok (.slice (some ⟨w.heap.size, 0, none⟩) refs.length refs.length) (w.alloc (.cells (madeCells #[.int .u64 0] (refs.length * 1)) 31)) := fun w => by
          have := run_make (P := Try.prog) w 48 31 iU _ Try.underlying48 hIU hU0 .i64 .i64 refs.length refs.length (by omega) (by omega) (by rw [hU2]; omega) (by omega)
          rw [hU1] at this
          simpa [Value.cells] using this
        clear q1 q2 q3 ht hro hb1 hb2 hb3 htB hb5 hvE
        go_upto_block 0 with fail
        go_cut [8] (fun v8 wc => v8 = .int .i64 (pre SX 0 : Int) ∧ wc = wx)
        case first =>
          go_wp2_with fail
          go_loopw [8] (fun kv wr => ∃ k : Nat, kv = .int .i64 (k : Int) ∧ k ≤ pre SX 0 ∧ wr = wx) (fun kv _ => pre SX 0 - (intOf kv).toNat)
          case atStart => exact ⟨0, rfl, by omega, rfl⟩
          case round =>
            obtain ⟨k, rfl, hk, hw⟩ := hrel
            subst hw
            by_cases hkp : k < pre SX 0
            · obtain ⟨o, ho, hon⟩ := pre_at SX 0 k hkp
              obtain ⟨bl, z, rfl, e0, _, _, ez⟩ := HTB.out.obj ho
              have hon2 : o.nm = (k : Int) + 1 := by rw [hon]; simp
              rw [hon2] at e0
              have hkl : k < SX.length := by omega
              clear ho hon hon2
              go_wp2_with fail
              go_roundw
              case rel => exact ⟨k + 1, by go_num, by omega, trivial⟩
              case measure => simp [intOf]; omega
            · have hkk : k = pre SX 0 := by omega
              have HKK := Lib.hid hkk
              have hup : Hid (∀ o, SX[k]? = some o → o.nm ≠ (k : Int) + 1) := Lib.hid (fun o ho => by rw [hkk] at ho ⊢; have := pre_end SX 0 o ho; simpa using this)
              have hkS : k ≤ SX.length := by omega
              clear hkk
              by_cases hkl : k < SX.length
              · obtain ⟨o, ho⟩ : ∃ o, SX[k]? = some o := ⟨_, List.getElem?_eq_getElem hkl⟩
                obtain ⟨bl, z, rfl, e0, _, _, ez⟩ := HTB.out.obj ho
                have hne : (o.nm == (k : Int) + 1) = false := by have := hup.out o ho; simpa using this
                clear ho
                go_wp2_with fail
                go_meet
                exact ⟨by rw [HKK.out], rfl⟩
              · go_wp2_with fail
                go_meet
                exact ⟨by rw [HKK.out], rfl⟩
        case rest =>
          obtain ⟨rfl, hwc⟩ := hcut
          rw [hwc]
          clear hwc wc
          obtain ⟨k, hk⟩ : ∃ k, k = pre SX 0 := ⟨_, rfl⟩
          rw [← hk] at hpl ⊢
          have HKK := Lib.hid hk
          clear hk
          have hwk : IntKind.i64.wrap ((k : Int) + 1) = (k : Int) + 1 := by rw [IntKind.wrap_i64]; omega
          have HWK := Lib.hid hwk
          have hml : refs.length ≤ maxLen := by unfold maxLen; omega
          have HML := Lib.hid hml
          clear hwk hml
          go_upto_region 12 with fail
          go_cut [9] (fun v9 wc => NewAt wx wc refs ((k : Int) + 1) v9)
          case first =>
            go_region_law ((refine step_append_tab (by rfl) _ _ 32 (by rfl) wx.heap.size 4 iB _ 1 1 Try.underlying32 hIB hB0 hB1 hB2 rfl (by decide) (.slice (some ⟨_, 0, none⟩) 0 0) 0 [] (by rfl) (empty_own ?_ ?_) wx B ar' refs.length cr' CB (by rfl) HTBo.out ?_ (fun i => (HB3.out i).1) (fun i => (HB3.out i).2) (by unfold maxLen; omega) (by omega) ?_ (Nat.le_refl _) ?_; (focus ((repeat first | (with_reducible refine at_drew ?_) | (refine heap_at ?_; first | rfl | (simp; done) | omega) | refine at_alloc ?_ | (refine at_grown G7.out ?_ ?_; rotate_left; (focus (first | (refine ownblk ?_; simp; done) | (refine ownblk ?_; simp; omega))))); done)); (focus (first | omega | (simp; done) | (simp; omega))); (focus (repeat first | exact Kp.refl _ | refine Kp.drew ?_ | refine Kp.alloc ?_ _)); (focus (first | (simp; done) | (simp; omega))); intro v7 w7 ho7 hg7 hk7; rw [Nat.zero_add, List.nil_append, HCB.out] at ho7; have K7 := Lib.hid hk7; clear hk7; obtain ⟨a7, c7, rfl⟩ := own_slice ho7; have O7 := Lib.hid ho7; have G7 := Lib.hid hg7; have z7 := hg7.size; simp at z7; clear ho7 hg7; (first | (refine with9 w7 (wx.heap.size) ?_ ?_; (focus ((repeat first | (with_reducible refine at_drew ?_) | (refine heap_at ?_; first | rfl | (simp; done) | omega) | refine at_alloc ?_ | (refine at_grown G7.out ?_ ?_; rotate_left; (focus (first | (refine ownblk ?_; simp; done) | (refine ownblk ?_; simp; omega))))); done)); intro HB9 ⟨y0, y1, y2, y3, y4, y5⟩ y6) | skip); (first | (refine with9 w7 (wx.heap.size + 1) ?_ ?_; (focus ((repeat first | (with_reducible refine at_drew ?_) | (refine heap_at ?_; first | rfl | (simp; done) | omega) | refine at_alloc ?_ | (refine at_grown G7.out ?_ ?_; rotate_left; (focus (first | (refine ownblk ?_; simp; done) | (refine ownblk ?_; simp; omega))))); done)); intro HB9 ⟨y0, y1, y2, y3, y4, y5⟩ y6) | skip); (first | (refine with9 w7 (wx.heap.size + 1 + 1) ?_ ?_; (focus ((repeat first | (with_reducible refine at_drew ?_) | (refine heap_at ?_; first | rfl | (simp; done) | omega) | refine at_alloc ?_ | (refine at_grown G7.out ?_ ?_; rotate_left; (focus (first | (refine ownblk ?_; simp; done) | (refine ownblk ?_; simp; omega))))); done)); intro HB9 ⟨y0, y1, y2, y3, y4, y5⟩ y6) | skip)))
            all_goals
              go_wp2_with fail
              go_meet
              first
                | with_reducible exact new_c HML.out K7.out O7.out HWK.out
                | with_reducible exact new_d HML.out K7.out O7.out HWK.out
                | ((with_reducible refine new_a HML.out K7.out O7.out ?_ ?_ HWK.out); (focus ((repeat first | (with_reducible refine at_drew ?_) | (refine heap_at ?_; first | rfl | (simp; done) | omega) | refine at_alloc ?_ | (refine at_grown G7.out ?_ ?_; rotate_left; (focus (first | (refine ownblk ?_; simp; done) | (refine ownblk ?_; simp; omega))))); done)); (first | omega | (simp; done)))
                | ((with_reducible refine new_b HML.out K7.out O7.out HB9.out ?_ ?_ ?_ HWK.out); (focus (first | omega | (simp; done))); (focus ((repeat first | (with_reducible refine at_drew ?_) | (refine heap_at ?_; first | rfl | (simp; done) | omega) | refine at_alloc ?_ | (refine at_grown G7.out ?_ ?_; rotate_left; (focus (first | (refine ownblk ?_; simp; done) | (refine ownblk ?_; simp; omega))))); done)); (first | omega | (simp; done)))
                | ((with_reducible refine new_e HML.out K7.out O7.out HB9.out ?_ HWK.out); (first | omega | (simp; done)))
          case rest =>
            obtain ⟨p, vc, vr, rfl, hno⟩ := hcut
            have HNO := Lib.hid hno
            have nsz := hno.kp.sz
            have p0 := hno.p0
            have pz := row_lt hno.cells
            obtain ⟨c0, c1⟩ := row2 (row_keep hno.kp Q1.out)
            have c2 := frozen_of_row _ _ 0 _ _ (row_keep hno.kp Q1.out)
            have hqc : q < wc.heap.size := by omega
            clear hno
            rcases own_addr Q3.out with ⟨rfl, hS0, rfl⟩ | ⟨g0, rfl⟩
            · have hk0 : k ≤ 0 := by omega
              have hS1 : SX.length ≤ 0 := by omega
              clear hS0
              go_upto_region 14 with fail
              have hk1 := (Kp.refl wc).alloc (.cells #[] 50)
              have ho1 := empty_own (w := wc.alloc (.cells #[] 50)) (B := wc.heap.size) (m := 3) (heap_at rfl) (Nat.le_refl _)
              obtain ⟨w1, hw1⟩ : ∃ w1, w1 = wc.alloc (.cells #[] 50) := ⟨_, rfl⟩
              rw [← hw1] at hk1 ho1 ⊢
              have K1 := Lib.hid hk1
              have O1 := Lib.hid ho1
              clear hk1 ho1 hw1
              have k1z := K1.out.sz
              have hrow := row_range3 HNO.out.cells
              have HROW := Lib.hid hrow
              have hone := three_one (n := (k : Int) + 1) (own_one HNO.out.c) (own_one HNO.out.r)
              have HONE := Lib.hid hone
              clear hrow hone
              go_upto_region 15 with (first
                | ((with_reducible show wpList _ _ _ (⟨some 83, _, _, _, _, _⟩ :: _) _ _); refine wpList_load_range (d := 83) _ _ rfl _ Try.underlying50 wc _ _ _ _ (by rfl) rfl rfl _ HROW.out K1.out (by rfl) ?_)
                | ((with_reducible show wpList _ _ _ (⟨some 85, _, _, _, _, _⟩ :: _) _ _); refine wpList_append_one (d := 85) _ _ 51 rfl wc.heap.size 50 iO _ 3 56 Try.underlying51 hIO hO0 hO1 hO2 rfl (by decide) (.slice (some ⟨wc.heap.size, 0, none⟩) 0 0) 0 _ (by rfl) w1 O1.out [.int .i64 ((k : Int) + 1), vc, vr] _ _ _ (by rfl) rfl (by rfl) (by rfl) HONE.out (by unfold maxLen; omega) (by omega) (by omega) ?_; intro v2 w2 ho2' hg2; have ho2 := nil_own (C := objC SX cv rv) hk0 ho2'; clear ho2'; obtain ⟨a2, c2', rfl⟩ := own_slice ho2; have O2 := Lib.hid ho2; have K2 : Hid (Kp wc w2) := Lib.hid ((K1.out.alloc _).grown hg2 (fun j hj => (O1.out.lt j hj).1)); clear ho2 hg2))
              have k2z := K2.out.sz
              have hbq := row_keep (HNO.out.kp.trans K2.out) Q1.out
              obtain ⟨c0, c1⟩ := row2 hbq
              have c2 := frozen_of_row _ _ 0 _ _ hbq
              have HBQ := Lib.hid hbq
              have hq2 : q < w2.heap.size := by omega
              clear hbq
              go_wp2_with (first
                | ((with_reducible show wpList _ _ _ (⟨some 94, _, _, _, _, _⟩ :: _) _ _); refine wpList_append_tab (d := 94) _ _ 51 rfl wc.heap.size 50 iO _ 3 56 Try.underlying51 hIO hO0 hO1 hO2 rfl (by decide) (.slice a2 (k + 1) c2') (k + 1) _ (by rfl) O2.out wx A0 _ (SX.length - k) 0 (fun i => objC SX cv rv (k + i)) (by rfl) (tab_none (by omega) rfl) (HNO.out.kp.trans K2.out) (fun i => objC_len _ _ _ _) (fun i => objC_one HRO.out.one _) (by unfold maxLen; omega) (by omega) (by omega) ?_; intro v3 w3 ho3 hg3; obtain ⟨a3, c3', rfl⟩ := own_slice ho3; have O3 := Lib.hid ho3; have K3 : Hid (Kp wc w3) := Lib.hid (K2.out.grown hg3 (fun j hj => (O2.out.lt j hj).1)); clear ho3 hg3; have k3z := K3.out.sz; have hbq3 := row_keep (HNO.out.kp.trans K3.out) Q1.out; obtain ⟨d0, d1⟩ := row2 hbq3; have d2 := frozen_of_row _ _ 0 _ _ hbq3; have HB3q := Lib.hid hbq3; clear hbq3; have hq3 : q < w3.heap.size := by omega))
              go_ret2
              have hnn : k + 1 + (SX.length - k) = SX.length + 1 := by omega
              have HRP := RP.put KX.out HX.out.nq HX.out.lt HB3q.out HRO.out HKK.out HNO.out K3.out O3.out hnn
              rw [HA.out, if_pos hroomX]
              refine ⟨by rw [HKK.out]; rfl, _, HRP, ?_, fun j hj => ?_⟩
              · exact (HTX.out.trans ((HNO.out.kp.trans K3.out).tr M) (fun j _ h => h)).set (HMX.out q HX.out.nq) _
              · rcases hj with hj | hj
                · exact HMX.out j hj
                · have := HTX.out.sz; exact .inr (by omega)
            · go_upto_region 14 with (first
                | ((with_reducible show wpList _ _ _ (⟨some 81, _, _, _, _, _⟩ :: _) _ _); refine wpList_append_tab (d := 81) _ _ 51 rfl wc.heap.size 50 iO _ 3 56 Try.underlying51 hIO hO0 hO1 hO2 rfl (by decide) (.slice (some ⟨wc.heap.size, 0, none⟩) 0 0) 0 [] (by rfl) (empty_own (heap_at rfl) (Nat.le_refl _)) wx (From 0) _ k c (objC SX cv rv) (by rfl) (HTB.out.pre hpl) (HNO.out.kp.alloc _) (fun i => objC_len _ _ _ i) (fun i => objC_one HRO.out.one i) (by unfold maxLen; omega) (by omega) (by simp) ?_; intro v1 w1 ho1 hg1; rw [Nat.zero_add, List.nil_append] at ho1; obtain ⟨a1, c1', rfl⟩ := own_slice ho1; have O1 := Lib.hid ho1; have K1 : Hid (Kp wc w1) := Lib.hid (((Kp.refl wc).alloc _).grown hg1 (fun j hj => by obtain rfl : wc.heap.size = j := Option.some.inj hj; exact Nat.le_refl _)); clear ho1 hg1))
              have k1z := K1.out.sz
              have hrow := row_range3 HNO.out.cells
              have HROW := Lib.hid hrow
              have hone := three_one (n := (k : Int) + 1) (own_one HNO.out.c) (own_one HNO.out.r)
              have HONE := Lib.hid hone
              clear hrow hone
              go_upto_region 15 with (first
                | ((with_reducible show wpList _ _ _ (⟨some 83, _, _, _, _, _⟩ :: _) _ _); refine wpList_load_range (d := 83) _ _ rfl _ Try.underlying50 wc _ _ _ _ (by rfl) rfl rfl _ HROW.out K1.out (by rfl) ?_)
                | ((with_reducible show wpList _ _ _ (⟨some 85, _, _, _, _, _⟩ :: _) _ _); refine wpList_append_one (d := 85) _ _ 51 rfl wc.heap.size 50 iO _ 3 56 Try.underlying51 hIO hO0 hO1 hO2 rfl (by decide) (.slice a1 k c1') k _ (by rfl) w1 O1.out [.int .i64 ((k : Int) + 1), vc, vr] _ _ _ (by rfl) rfl (by rfl) (by rfl) HONE.out (by unfold maxLen; omega) (by omega) (by omega) ?_; intro v2 w2 ho2 hg2; obtain ⟨a2, c2', rfl⟩ := own_slice ho2; have O2 := Lib.hid ho2; have K2 : Hid (Kp wc w2) := Lib.hid ((K1.out.alloc _).grown hg2 (fun j hj => (O1.out.lt j hj).1)); clear ho2 hg2))
              have k2z := K2.out.sz
              have hbq := row_keep (HNO.out.kp.trans K2.out) Q1.out
              obtain ⟨c0, c1⟩ := row2 hbq
              have c2 := frozen_of_row _ _ 0 _ _ hbq
              have HBQ := Lib.hid hbq
              have hq2 : q < w2.heap.size := by omega
              clear hbq
              by_cases hkc : k < c
              · go_wp2_with (first
                | ((with_reducible show wpList _ _ _ (⟨some 94, _, _, _, _, _⟩ :: _) _ _); refine wpList_append_tab (d := 94) _ _ 51 rfl wc.heap.size 50 iO _ 3 56 Try.underlying51 hIO hO0 hO1 hO2 rfl (by decide) (.slice a2 (k + 1) c2') (k + 1) _ (by rfl) O2.out wx A0 _ (SX.length - k) (c - k) (fun i => objC SX cv rv (k + i)) (by rfl) (HTB.out.suf hpl) (HNO.out.kp.trans K2.out) (fun i => objC_len _ _ _ _) (fun i => objC_one HRO.out.one _) (by unfold maxLen; omega) (by omega) (by omega) ?_; intro v3 w3 ho3 hg3; obtain ⟨a3, c3', rfl⟩ := own_slice ho3; have O3 := Lib.hid ho3; have K3 : Hid (Kp wc w3) := Lib.hid (K2.out.grown hg3 (fun j hj => (O2.out.lt j hj).1)); clear ho3 hg3; have k3z := K3.out.sz; have hbq3 := row_keep (HNO.out.kp.trans K3.out) Q1.out; obtain ⟨d0, d1⟩ := row2 hbq3; have d2 := frozen_of_row _ _ 0 _ _ hbq3; have HB3q := Lib.hid hbq3; clear hbq3; have hq3 : q < w3.heap.size := by omega))
                go_ret2
                have hnn : k + 1 + (SX.length - k) = SX.length + 1 := by omega
                have HRP := RP.put KX.out HX.out.nq HX.out.lt HB3q.out HRO.out HKK.out HNO.out K3.out O3.out hnn
                rw [HA.out, if_pos hroomX]
                refine ⟨by rw [HKK.out]; rfl, _, HRP, ?_, fun j hj => ?_⟩
                · exact (HTX.out.trans ((HNO.out.kp.trans K3.out).tr M) (fun j _ h => h)).set (HMX.out q HX.out.nq) _
                · rcases hj with hj | hj
                  · exact HMX.out j hj
                  · have := HTX.out.sz; exact .inr (by omega)
              · go_wp2_with (first
                | ((with_reducible show wpList _ _ _ (⟨some 94, _, _, _, _, _⟩ :: _) _ _); refine wpList_append_tab (d := 94) _ _ 51 rfl wc.heap.size 50 iO _ 3 56 Try.underlying51 hIO hO0 hO1 hO2 rfl (by decide) (.slice a2 (k + 1) c2') (k + 1) _ (by rfl) O2.out wx A0 _ (SX.length - k) (c - k) (fun i => objC SX cv rv (k + i)) (by rfl) (tab_zero (by omega)) (HNO.out.kp.trans K2.out) (fun i => objC_len _ _ _ _) (fun i => objC_one HRO.out.one _) (by unfold maxLen; omega) (by omega) (by omega) ?_; intro v3 w3 ho3 hg3; obtain ⟨a3, c3', rfl⟩ := own_slice ho3; have O3 := Lib.hid ho3; have K3 : Hid (Kp wc w3) := Lib.hid (K2.out.grown hg3 (fun j hj => (O2.out.lt j hj).1)); clear ho3 hg3; have k3z := K3.out.sz; have hbq3 := row_keep (HNO.out.kp.trans K3.out) Q1.out; obtain ⟨d0, d1⟩ := row2 hbq3; have d2 := frozen_of_row _ _ 0 _ _ hbq3; have HB3q := Lib.hid hbq3; clear hbq3; have hq3 : q < w3.heap.size := by omega))
                go_ret2
                have hnn : k + 1 + (SX.length - k) = SX.length + 1 := by omega
                have HRP := RP.put KX.out HX.out.nq HX.out.lt HB3q.out HRO.out HKK.out HNO.out K3.out O3.out hnn
                rw [HA.out, if_pos hroomX]
                refine ⟨by rw [HKK.out]; rfl, _, HRP, ?_, fun j hj => ?_⟩
                · exact (HTX.out.trans ((HNO.out.kp.trans K3.out).tr M) (fun j _ h => h)).set (HMX.out q HX.out.nq) _
                · rcases hj with hj | hj
                  · exact HMX.out j hj
                  · have := HTX.out.sz; exact .inr (by omega)
      · have hcmp : (bud : Int) < (used SX : Int) + 1 + (refs.length : Int) := by omega
        have hr : allocP bud S refs l = (SX, 0, 20) := by rw [HA.out, if_neg hroomX]
        have HRR := Lib.hid hr
        clear hr
        go_upto_region 7 with fail
        go_region_held3 (fun w' : World => w'.cell? ⟨q, 1, none⟩ = some (.int .i64 (bud : Int))) (exact c1) (first | (go_at_call 30; (with_reducible refine (c_rUsed _ (HX0.out.keep (Kp.refl wc).drew) KX.out).mono ?_); rintro e w' ⟨rfl, rfl⟩))
        go_wp2_with fail
        go_ret2
        rw [HRR.out]
        exact ⟨rfl, MX, HX0.out.keep ((Kp.refl wc).drew), HTX0.out.keep ((Kp.refl wc).drew), HMX.out⟩
end Go.Proofs.Ytkaeigklhdpifaa
