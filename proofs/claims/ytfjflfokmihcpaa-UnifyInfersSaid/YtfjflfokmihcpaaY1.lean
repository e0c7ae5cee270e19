/- What may turn while the reference matches types for names; what its record holds. No program is walked here. Match of the reference's record. Condition: both types lie in memory, outside the record's two rows, and are sound; no name stands twice. Match of the reference's record, where the type asked for is none of the names; Match as a whole. Condition: both types lie in memory, outside the record's two rows, and are sound; no name stands twice. -/
import Derived.Test.YtfjflfokmihcpaaCb
import Derived.Test.YtfjflfokmihcpaaUb
import Derived.Test.YtfjflfokmihcpaaN
import Derived.Test.YtfjflfokmihcpaaInv
import Derived.Deep.RegionHeld3
import Derived.Deep.QuietTactic
import Derived.Test.YtfjflfokmihcpaaUg
namespace Go.Proofs.Ytfjflfokmihcpaa
open Go.RowKit
set_option linter.unusedVariables false
set_option linter.unusedSimpArgs false
/-- But for the blocks bT and bK nothing of what was there has turned. -/
structure Mb (bT bK : Nat) (w w' : World) : Prop where
  os : w'.os = w.os
  tape : w'.tape = w.tape
  output : w'.output = w.output
  sz : w.heap.size ≤ w'.heap.size
  same : ∀ k, k < w.heap.size → k ≠ bT → k ≠ bK → w'.heap[k]? = w.heap[k]?
theorem Mb.refl (bT bK : Nat) (w : World) : Mb bT bK w w := ⟨rfl, rfl, rfl, Nat.le_refl _, fun _ _ _ _ => rfl⟩
theorem Mb.trans {bT bK : Nat} {a b c : World} (h : Mb bT bK a b) (k : Mb bT bK b c) : Mb bT bK a c :=
  ⟨k.os.trans h.os, k.tape.trans h.tape, k.output.trans h.output, Nat.le_trans h.sz k.sz, fun x hx hn hm => (k.same x (Nat.lt_of_lt_of_le hx h.sz) hn hm).trans (h.same x hx hn hm)⟩
theorem Kp.mb {bT bK : Nat} {w w' : World} (h : Kp w w') : Mb bT bK w w' := ⟨h.os, h.tape, h.output, h.sz, fun k hk _ _ => h.blk hk⟩
theorem Mb.old {bT bK : Nat} {w0 w w' : World} (h : Mb bT bK w w') (k : Kp w0 w) (hb : w0.heap.size ≤ bT) (hc : w0.heap.size ≤ bK) : Kp w0 w' :=
  ⟨h.os.trans k.os, h.tape.trans k.tape, h.output.trans k.output, Nat.le_trans k.sz h.sz, fun x hx => (h.same x (Nat.lt_of_lt_of_le hx k.sz) (by omega) (by omega)).trans (k.blk hx)⟩
theorem Mb.fr {bT bK : Nat} {w w' : World} (h : Mb bT bK w w') : Fr (fun k => k = bT ∨ k = bK) w w' := fun k hk hn => h.same k hk (fun e => hn (.inl e)) (fun e => hn (.inr e))
theorem Mb.cellv {bT bK : Nat} {w w' : World} (h : Mb bT bK w w') {p : Addr} {v : Value} (hc : w.cell? p = some v) (hn : p.block ≠ bT) (hm : p.block ≠ bK) : w'.cell? p = some v := by
  rw [← hc]; exact World.cell?_of_block (h.same _ (lt_of_cell hc) hn hm)
theorem Mb.drew {bT bK : Nat} {a w : World} (h : Mb bT bK a w) : Mb bT bK a w.drew := h.trans (Kp.refl w).drew.mb
theorem Mb.setCell {bT bK : Nat} {w : World} {p : Addr} {v : Value} (hp : p.block = bT ∨ p.block = bK) : Mb bT bK w (w.setCell p v) :=
  ⟨rfl, rfl, rfl, by simp, fun k hk hn hm => by
    exact heap_setCell_other w p k v (by rcases hp with h | h <;> omega)⟩
/-- Types that lie elsewhere. -/
def OffB (bT bK : Nat) : Sel := ⟨False, fun k => k ≠ bT ∧ k ≠ bK⟩
theorem Lies.mb {bT bK : Nat} {w w' : World} {r : Nat} {T : Ty} {h : Hd} (hl : Lies w (OffB bT bK) r T h) (hk : Mb bT bK w w') : Lies w' (OffB bT bK) r T h := Lies.turn (B := OffB bT bK) hk.fr hk.sz (fun b _ hb he => he.elim (fun e => hb.1 e) (fun e => hb.2 e)) hl
theorem tab.mb {bT bK : Nat} {w w' : World} {e : TypeId} {a : Option Addr} {n c m : Nat} {C : Nat → List Value} (h : tab w (OffB bT bK) e a n c m C) (hk : Mb bT bK w w') : tab w' (OffB bT bK) e a n c m C := tab.turn (B := OffB bT bK) h hk.fr hk.sz (fun b _ hb he => he.elim (fun e => hb.1 e) (fun e => hb.2 e))
theorem LiesAll.mb {bT bK : Nat} {w w' : World} {r : Nat} {l : List Ty} {a : Option Addr} {c : Nat} {K : Nat → Hd} (h : LiesAll w (OffB bT bK) r l a c K) (hk : Mb bT bK w w') : LiesAll w' (OffB bT bK) r l a c K := ⟨h.1.mb hk, fun i X hX => (h.2 i X hX).mb hk⟩
theorem offB_le {bT bK n : Nat} (h1 : n ≤ bT) (h2 : n ≤ bK) : Sel.le (OffB bT bK) ⟨A0.fresh, fun b => A0.S b ∧ b < n⟩ := ⟨fun h => h, fun b hb => by have h2 := hb.2; exact ⟨by omega, by omega⟩⟩
theorem Lies.offB {bT bK : Nat} {w : World} {r : Nat} {T : Ty} {h : Hd} (hl : Lies w A0 r T h) (h1 : w.heap.size ≤ bT) (h2 : w.heap.size ≤ bK) : Lies w (OffB bT bK) r T h := Lies.weak (w := w) (offB_le h1 h2) (hl.below (Nat.le_refl _))
theorem tab.offB {bT bK : Nat} {w : World} {e : TypeId} {a : Option Addr} {n c m : Nat} {C : Nat → List Value} (h : tab w A0 e a n c m C) (h1 : w.heap.size ≤ bT) (h2 : w.heap.size ≤ bK) : tab w (OffB bT bK) e a n c m C := tab.weak (B' := OffB bT bK) (tab.below (Nat.le_refl _) h) (offB_le h1 h2)
theorem LiesAll.offB {bT bK : Nat} {w : World} {r : Nat} {l : List Ty} {a : Option Addr} {c : Nat} {K : Nat → Hd} (h : LiesAll w A0 r l a c K) (h1 : w.heap.size ≤ bT) (h2 : w.heap.size ≤ bK) : LiesAll w (OffB bT bK) r l a c K := ⟨h.1.offB h1 h2, fun i X hX => (h.2 i X hX).offB h1 h2⟩
/-- What stands for a name: nothing yet, or a sound type that lies elsewhere. -/
def StB (bT bK : Nat) (w : World) (x : Option Ty) (hd : Hd) : Prop := (x = none ∧ hd = hd0) ∨ ∃ A R, x = some A ∧ Lies w (OffB bT bK) R A hd ∧ (look 9 A).2.2 = true
theorem StB.mb {bT bK : Nat} {w w' : World} {x : Option Ty} {hd : Hd} (h : StB bT bK w x hd) (hk : Mb bT bK w w') : StB bT bK w' x hd := by
  rcases h with h | ⟨A, R, h1, h2, h3⟩
  · exact .inl h
  · exact .inr ⟨A, R, h1, h2.mb hk, h3⟩
/-- The record: the names, a type for each, and whether it is known. -/
structure BdE (bb bT bK : Nat) (L : List ByteArray) (na : Option Addr) (nc : Nat) (σ : St) (w : World) : Prop where
  c0 : w.cell? ⟨bb, 0, none⟩ = some (.slice na L.length nc)
  c1 : w.cell? ⟨bb, 1, none⟩ = some (.slice (some ⟨bT, 0, none⟩) L.length L.length)
  c2 : w.cell? ⟨bb, 2, none⟩ = some (.slice (some ⟨bK, 0, none⟩) L.length L.length)
  nT : bb ≠ bT
  nK : bb ≠ bK
  TK : bT ≠ bK
  tb : tab w (OffB bT bK) 9 na L.length nc 1 (fun i => [.string (L.getD i ByteArray.empty)])
  rT : ∃ cur, w.heap[bT]? = some (.cells cur 42 (0, 0)) ∧ L.length * 6 ≤ cur.size
  rK : ∃ cur, w.heap[bK]? = some (.cells cur 4 (0, 0)) ∧ L.length ≤ cur.size
  row : ∀ n s, n < L.length → L.getD n ByteArray.empty = s → (∃ hd : Hd, w.rangeAt bT (n * 6) hd.cells ∧ StB bT bK w (σ s) hd) ∧ w.cell? ⟨bK, n, none⟩ = some (.bool (σ s).isSome)
theorem BdE.keep {bb bT bK : Nat} {L : List ByteArray} {na : Option Addr} {nc : Nat} {σ : St} {w w' : World} (h : BdE bb bT bK L na nc σ w) (k : Kp w w') : BdE bb bT bK L na nc σ w' where
  c0 := k.cellv h.c0
  c1 := k.cellv h.c1
  c2 := k.cellv h.c2
  nT := h.nT
  nK := h.nK
  TK := h.TK
  tb := h.tb.keep k
  rT := let ⟨cur, a, b⟩ := h.rT; ⟨cur, (k.blk (Array.getElem?_eq_some_iff.1 a).1).trans a, b⟩
  rK := let ⟨cur, a, b⟩ := h.rK; ⟨cur, (k.blk (Array.getElem?_eq_some_iff.1 a).1).trans a, b⟩
  row := fun n s hn hs => let ⟨⟨hd, a, b⟩, c⟩ := h.row n s hn hs; ⟨⟨hd, k.range a, b.mb k.mb⟩, k.cellv c⟩
theorem BdE.lt {bb bT bK : Nat} {L : List ByteArray} {na : Option Addr} {nc : Nat} {σ : St} {w : World} (h : BdE bb bT bK L na nc σ w) : bb < w.heap.size ∧ bT < w.heap.size ∧ bK < w.heap.size :=
  ⟨lt_of_cell h.c0, let ⟨_, a, _⟩ := h.rT; (Array.getElem?_eq_some_iff.1 a).1, let ⟨_, a, _⟩ := h.rK; (Array.getElem?_eq_some_iff.1 a).1⟩
/-- What a match answers. -/
def MQ (bb bT bK : Nat) (L : List ByteArray) (na : Option Addr) (nc : Nat) (o : Option St) (w : World) (e : Ending) (w' : World) : Prop :=
  Mb bT bK w w' ∧ ((o = none ∧ e = .returned (.bool false)) ∨ ∃ σ', o = some σ' ∧ e = .returned (.bool true) ∧ BdE bb bT bK L na nc σ' w')
theorem MQ.no {bb bT bK : Nat} {L : List ByteArray} {na : Option Addr} {nc : Nat} {o : Option St} {w w' : World} {e : Ending} (h : MQ bb bT bK L na nc o w e w') (ho : o = none) : e = .returned (.bool false) ∧ Mb bT bK w w' := by
  obtain ⟨h1, ⟨_, h2⟩ | ⟨σ', h2, _⟩⟩ := h
  · exact ⟨h2, h1⟩
  · rw [ho] at h2; cases h2
theorem MQ.yes {bb bT bK : Nat} {L : List ByteArray} {na : Option Addr} {nc : Nat} {o : Option St} {w w' : World} {e : Ending} (h : MQ bb bT bK L na nc o w e w') {σ' : St} (ho : o = some σ') : e = .returned (.bool true) ∧ Mb bT bK w w' ∧ BdE bb bT bK L na nc σ' w' := by
  obtain ⟨h1, ⟨h2, _⟩ | ⟨σ2, h2, h3, h4⟩⟩ := h
  · rw [ho] at h2; cases h2
  · rw [ho] at h2; cases h2; exact ⟨h3, h1, h4⟩
theorem setCells_setL : ∀ (l : List Value) (w : World) (b o : Nat), w.setCells b o l = setL w b o l
  | [], _, _, _ => rfl
  | v :: l, w, b, o => by rw [World.setCells, setL]; exact setCells_setL l _ b (o + 1)
theorem getD_inj {L : List ByteArray} (hnd : L.Nodup) {i n : Nat} {s : ByteArray} (hi : i < L.length) (hn : n < L.length) (h1 : L.getD i ByteArray.empty = s) (h2 : L.getD n ByteArray.empty = s) : i = n := by
  rw [List.getD_eq_getElem?_getD, List.getElem?_eq_getElem hi] at h1
  rw [List.getD_eq_getElem?_getD, List.getElem?_eq_getElem hn] at h2
  have h3 : L[i]? = L[n]? := by rw [List.getElem?_eq_getElem hi, List.getElem?_eq_getElem hn]; exact congrArg some (h1.trans h2.symm)
  exact (List.getElem?_inj hi hnd).1 h3
/-- A type is put into the record. -/
theorem BdE.put {bb bT bK : Nat} {L : List ByteArray} {na : Option Addr} {nc : Nat} {σ : St} {w : World} (h : BdE bb bT bK L na nc σ w) (hnd : L.Nodup) {n : Nat} {s : ByteArray} (hn : n < L.length) (hs : L.getD n ByteArray.empty = s) {B : Ty} {g : Hd} {R : Nat} (hl : Lies w (OffB bT bK) R B g) (ok : (look 9 B).2.2 = true) :
    BdE bb bT bK L na nc (sput σ s B) ((w.setCell ⟨bK, n, none⟩ (.bool true)).setCells bT (n * 6) g.cells) ∧ Mb bT bK w ((w.setCell ⟨bK, n, none⟩ (.bool true)).setCells bT (n * 6) g.cells) := by
  obtain ⟨curT, t1, t2⟩ := h.rT
  obtain ⟨curK, k1, k2⟩ := h.rK
  have hTK := h.TK
  obtain ⟨w1, hw1⟩ : ∃ w1, w.setCell ⟨bK, n, none⟩ (.bool true) = w1 := ⟨_, rfl⟩
  have m1 : Mb bT bK w w1 := by rw [← hw1]; exact Mb.setCell (.inr rfl)
  have k3 : w1.heap[bK]? = some (.cells (curK.setIfInBounds n (.bool true)) 4 (0, 0)) := by rw [← hw1]; exact heap_setCell_same w bK n curK _ _ k1
  have t3 : w1.heap[bT]? = some (.cells curT 42 (0, 0)) := by rw [← hw1, heap_setCell_other _ _ _ _ hTK]; exact t1
  rw [hw1, setCells_setL]
  obtain ⟨a1, a2, a3, a4, a5, a6⟩ := setL_all g.cells w1 bT (n * 6) curT _ t3
  obtain ⟨w2, hw2⟩ : ∃ w2, setL w1 bT (n * 6) g.cells = w2 := ⟨_, rfl⟩
  rw [hw2] at a1 a2 a3 a4 a5 a6 ⊢
  have m2 : Mb bT bK w w2 := m1.trans ⟨a4, a5, a6, by omega, fun k hk x y => a2 k x⟩
  have k4 : w2.heap[bK]? = some (.cells (curK.setIfInBounds n (.bool true)) 4 (0, 0)) := by rw [a2 bK hTK.symm]; exact k3
  have hn6 : (n + 1) * 6 ≤ L.length * 6 := Nat.mul_le_mul_right 6 hn
  refine ⟨⟨m2.cellv h.c0 h.nT h.nK, m2.cellv h.c1 h.nT h.nK, m2.cellv h.c2 h.nT h.nK, h.nT, h.nK, h.TK, h.tb.mb m2, ⟨_, a1, by rw [setA_size]; exact t2⟩, ⟨_, k4, by simpa using k2⟩, fun i y hi hy => ?_⟩, m2⟩
  obtain ⟨⟨hd, r1, r2⟩, r3⟩ := h.row i y hi hy
  by_cases hin : i = n
  · subst hin
    obtain rfl : y = s := hy.symm.trans hs
    refine ⟨⟨g, fun j v hv => ?_, .inr ⟨B, R, by unfold sput; rw [if_pos rfl], hl.mb m2, ok⟩⟩, ?_⟩
    · rw [cell_of_row _ _ _ _ _ _ a1]
      exact setA_in g.cells curT (i * 6) j v (by rw [Hd.cells_len]; omega) hv
    · rw [cell_of_row _ _ _ _ _ _ k4]
      have : i < curK.size := by omega
      unfold sput
      simp [this]
  · have hne : y ≠ s := fun e => hin (getD_inj hnd hi hn hy (hs.trans e.symm))
    have e1 : sput σ s B y = σ y := by unfold sput; rw [if_neg hne]
    rw [e1]
    refine ⟨⟨hd, fun j v hv => ?_, r2.mb m2⟩, ?_⟩
    · have hj : j < 6 := by have := (List.getElem?_eq_some_iff.1 hv).1; rw [Hd.cells_len] at this; exact this
      rw [cell_of_row _ _ _ _ _ _ a1, setA_out g.cells curT (n * 6) (i * 6 + j) (by rw [Hd.cells_len]; exact row_apart (fun e => hin e.symm) hj), ← cell_of_row _ _ _ _ _ _ t1]
      exact r1 j v hv
    · rw [cell_of_row _ _ _ _ _ _ k4, Array.getElem?_setIfInBounds_ne (fun e => hin e.symm), ← cell_of_row _ _ _ _ _ _ k1]
      exact r3
theorem step_store_mid {P : Program} {Q : Exit → Act → World → Prop} {o : Oper} {a : Act} {w w' : World} {K : Act → World → Prop} (ty : TypeId) (x y : Operand) (ho : o.op = .store ty x y)
    (hrun : (Instr.storeAt ty (a.eval x) (a.eval y)).run P w = .ok () w') (h : K (a.put o.dst undef) w') : o.wp P a w K Q := by
  unfold Oper.wp execOp
  simp only [ho, Sem.run_bind, hrun, Result.andThen_ok]
  exact h
set_option maxHeartbeats 6400000 in
set_option maxRecDepth 100000 in
theorem rm_known (bb bT bK : Nat) (L : List ByteArray) (na : Option Addr) (nc : Nat) (σ : St) (j : Nat) (B S : Ty) (R' : Nat) (hx hy : Hd) (w : World) (hE : BdE bb bT bK L na nc σ w) (hg : Lies w (OffB bT bK) R' B hy) (sB : (look 9 B).2.2 = true) (hk : hx.k = 12) (hj : j < L.length) (hs : L.getD j ByteArray.empty = hx.nm) (hnd : L.Nodup) (hlL : L.length * 16 ≤ 140737488351232) (hS : σ hx.nm = some S) :
    Calls Try.prog 25 #[.pointer (some ⟨bb, 0, none⟩), hx.val, hy.val] w (MQ bb bT bK L na nc (if eqB S B = true then some σ else none) w) := by
  obtain ⟨⟨hd, r1, r2⟩, r3⟩ := hE.row j hx.nm hj hs
  rw [hS] at r2 r3
  obtain ⟨oo, hoo⟩ : ∃ oo, (if eqB S B = true then some σ else none) = oo := ⟨_, rfl⟩
  rw [hoo]
  have HO := Lib.hid hoo
  clear hoo
  rcases r2 with ⟨e1, _⟩ | ⟨S', R2, e1, lS, sS⟩
  · cases e1
  obtain rfl : S = S' := Option.some.inj e1
  have CS := Lib.hid (fun W (k : Kp w W) => c_refSame 9 R2 R' S B hd hy W (lS.any.keep k) (hg.any.keep k) sS sB)
  clear lS sS sB e1
  have HE := Lib.hid hE
  have hkb : (hx.k != 12) = false := by rw [hk]; rfl
  have HNE := Lib.hid (fun n (hn : n < j) (e : L.getD n ByteArray.empty = hx.nm) => (by have := getD_inj hnd (by omega) hj e hs; omega : False))
  have HS := Lib.hid hs
  have R1 := Lib.hid r1
  have R3 := Lib.hid r3
  have HEL := hE.lt
  clear hE hg r1 r3 hnd hs hS hk
  go_enter Try.func25, Try.ntmps25
  go_wp2_with fail
  go_loopw [7] (fun i wr => ∃ n : Nat, n ≤ j ∧ i = .int .i64 n ∧ Kp ((w.alloc (.cells #[.int .i64 hx.k, .string hx.nm, .int .i64 hx.con, .slice hx.fa hx.fl hx.fc, .slice hx.la hx.ll hx.lc, .slice hx.ra hx.rl hx.rc] 42)).alloc (.cells #[.int .i64 hy.k, .string hy.nm, .int .i64 hy.con, .slice hy.fa hy.fl hy.fc, .slice hy.la hy.ll hy.lc, .slice hy.ra hy.rl hy.rc] 42)) wr) (fun i _ => j - (intOf i).toNat)
  case atStart => exact ⟨0, Nat.zero_le _, rfl, Kp.refl _⟩
  case round =>
    obtain ⟨n, hn, rfl, hkr⟩ := hrel
    obtain ⟨p0, p1, p2, p3, p4, p5, ps⟩ := boxed (h := hx) (Kp.trans ((Kp.refl _).alloc _) hkr)
    obtain ⟨q0, q1, q2, q3, q4, q5, qs⟩ := boxed (h := hy) hkr
    simp only [World.size_alloc] at q0 q1 q2 q3 q4 q5 qs
    have KR := Lib.hid ((((Kp.refl w).alloc _).alloc _).trans hkr)
    have HKR := Lib.hid hkr
    have pl : w.heap.size < wr.heap.size := ps
    have ql : w.heap.size + 1 < wr.heap.size := qs
    have c0 := KR.out.cellv HE.out.c0
    have c1 := KR.out.cellv HE.out.c1
    have c2 := KR.out.cellv HE.out.c2
    have cl : bb < wr.heap.size := lt_of_cell c0
    clear hkr ps qs
    obtain ⟨sn, hsn⟩ : ∃ sn, L.getD n ByteArray.empty = sn := ⟨_, rfl⟩
    obtain ⟨nb, no, hna, hnc⟩ := HE.out.tb.at (by omega)
    subst hna
    have x0 : wr.cell? ⟨nb, no + n, none⟩ = some (.string sn) := by
      have := KR.out.cellv (rangeAt_head (hnc n (by omega)))
      rw [Nat.mul_one, hsn] at this
      exact this
    have x0l : nb < wr.heap.size := lt_of_cell x0
    have j1 : (0 : Int) ≤ n := by omega
    have j2 : (n : Int) < L.length := by omega
    clear hnc
    by_cases hlt : n < j
    · have e4 : (hx.nm.toList == sn.toList) = false := by
        rcases same_or hx.nm sn with ⟨e1, _⟩ | ⟨_, e2⟩
        · exact absurd (hsn.trans e1.symm) (HNE.out n (by omega))
        · exact e2
      have e3 : (hx.nm.toList != sn.toList) = true := by
        rcases same_or hx.nm sn with ⟨e1, _⟩ | ⟨_, e2⟩
        · exact absurd (hsn.trans e1.symm) (HNE.out n (by omega))
        · simpa [bne] using e2
      clear hsn
      go_wp2_with fail
      go_quiet (fail)
      go_wp2_with fail
      go_roundw
      case rel => exact ⟨n + 1, by omega, by go_num, (HKR.out).drewN _⟩
      case measure => simp [intOf]; omega
    · obtain rfl : n = j := by omega
      obtain rfl : hx.nm = sn := HS.out.symm.trans hsn
      have e4 : (hx.nm.toList == hx.nm.toList) = true := by simp
      have e3 : (hx.nm.toList != hx.nm.toList) = false := by simp
      have y0 := KR.out.cellv R3.out
      have r0 := KR.out.cellv (R1.out 0 _ rfl)
      have r1 := KR.out.cellv (R1.out 1 _ rfl)
      have r2 := KR.out.cellv (R1.out 2 _ rfl)
      have r3 := KR.out.cellv (R1.out 3 _ rfl)
      have r4 := KR.out.cellv (R1.out 4 _ rfl)
      have r5 := KR.out.cellv (R1.out 5 _ rfl)
      simp only [Nat.add_zero] at r0
      cases c9 : eqB S B with
      | false =>
        go_wp2_with fail
        go_quiet (fail)
        go_wp2_with fail
        go_region_held3 (fun w' => w'.cell? ⟨bT, n * 6, none⟩ = some (.int .i64 hd.k) ∧ w'.cell? ⟨bT, n * 6 + 1, none⟩ = some (.string hd.nm) ∧ w'.cell? ⟨bT, n * 6 + 2, none⟩ = some (.int .i64 hd.con) ∧ w'.cell? ⟨bT, n * 6 + 3, none⟩ = some (.slice hd.fa hd.fl hd.fc) ∧ w'.cell? ⟨bT, n * 6 + 4, none⟩ = some (.slice hd.la hd.ll hd.lc) ∧ w'.cell? ⟨bT, n * 6 + 5, none⟩ = some (.slice hd.ra hd.rl hd.rc) ∧ w'.cell? ⟨w.heap.size + 1, 0, none⟩ = some (.int .i64 hy.k) ∧ w'.cell? ⟨w.heap.size + 1, 1, none⟩ = some (.string hy.nm) ∧ w'.cell? ⟨w.heap.size + 1, 2, none⟩ = some (.int .i64 hy.con) ∧ w'.cell? ⟨w.heap.size + 1, 3, none⟩ = some (.slice hy.fa hy.fl hy.fc) ∧ w'.cell? ⟨w.heap.size + 1, 4, none⟩ = some (.slice hy.la hy.ll hy.lc) ∧ w'.cell? ⟨w.heap.size + 1, 5, none⟩ = some (.slice hy.ra hy.rl hy.rc) ∧ w'.cell? ⟨bb, 1, none⟩ = some (.slice (some ⟨bT, 0, none⟩) L.length L.length))
          (first | exact ⟨r0, r1, r2, r3, r4, r5, q0, q1, q2, q3, q4, q5, c1⟩ | exact ⟨hk6.cellv r0, hk6.cellv r1, hk6.cellv r2, hk6.cellv r3, hk6.cellv r4, hk6.cellv r5, hk6.cellv q0, hk6.cellv q1, hk6.cellv q2, hk6.cellv q3, hk6.cellv q4, hk6.cellv q5, hk6.cellv c1⟩)
          (first | (go_at_call 20; (with_reducible refine (CS.out _ (KR.out.drewN _)).mono ?_); rintro e w6 ⟨rfl, hk6⟩; rw [c9]))
        go_wp2_with fail
        go_ret
        exact ⟨((KR.out.drewN _).trans hk6).mb, .inl ⟨by rw [← HO.out, c9]; rfl, rfl⟩⟩
      | true =>
        go_wp2_with fail
        go_quiet (fail)
        go_wp2_with fail
        go_region_held3 (fun w' => w'.cell? ⟨bT, n * 6, none⟩ = some (.int .i64 hd.k) ∧ w'.cell? ⟨bT, n * 6 + 1, none⟩ = some (.string hd.nm) ∧ w'.cell? ⟨bT, n * 6 + 2, none⟩ = some (.int .i64 hd.con) ∧ w'.cell? ⟨bT, n * 6 + 3, none⟩ = some (.slice hd.fa hd.fl hd.fc) ∧ w'.cell? ⟨bT, n * 6 + 4, none⟩ = some (.slice hd.la hd.ll hd.lc) ∧ w'.cell? ⟨bT, n * 6 + 5, none⟩ = some (.slice hd.ra hd.rl hd.rc) ∧ w'.cell? ⟨w.heap.size + 1, 0, none⟩ = some (.int .i64 hy.k) ∧ w'.cell? ⟨w.heap.size + 1, 1, none⟩ = some (.string hy.nm) ∧ w'.cell? ⟨w.heap.size + 1, 2, none⟩ = some (.int .i64 hy.con) ∧ w'.cell? ⟨w.heap.size + 1, 3, none⟩ = some (.slice hy.fa hy.fl hy.fc) ∧ w'.cell? ⟨w.heap.size + 1, 4, none⟩ = some (.slice hy.la hy.ll hy.lc) ∧ w'.cell? ⟨w.heap.size + 1, 5, none⟩ = some (.slice hy.ra hy.rl hy.rc) ∧ w'.cell? ⟨bb, 1, none⟩ = some (.slice (some ⟨bT, 0, none⟩) L.length L.length))
          (first | exact ⟨r0, r1, r2, r3, r4, r5, q0, q1, q2, q3, q4, q5, c1⟩ | exact ⟨hk6.cellv r0, hk6.cellv r1, hk6.cellv r2, hk6.cellv r3, hk6.cellv r4, hk6.cellv r5, hk6.cellv q0, hk6.cellv q1, hk6.cellv q2, hk6.cellv q3, hk6.cellv q4, hk6.cellv q5, hk6.cellv c1⟩)
          (first | (go_at_call 20; (with_reducible refine (CS.out _ (KR.out.drewN _)).mono ?_); rintro e w6 ⟨rfl, hk6⟩; rw [c9]))
        go_wp2_with fail
        go_ret
        exact ⟨((KR.out.drewN _).trans hk6).mb, .inr ⟨σ, by rw [← HO.out, c9]; rfl, rfl, HE.out.keep ((KR.out.drewN _).trans hk6)⟩⟩
set_option maxHeartbeats 6400000 in
set_option maxRecDepth 100000 in
theorem rm_new (bb bT bK : Nat) (L : List ByteArray) (na : Option Addr) (nc : Nat) (σ : St) (j : Nat) (B : Ty) (R' : Nat) (hx hy : Hd) (w : World) (hE : BdE bb bT bK L na nc σ w) (hg : Lies w (OffB bT bK) R' B hy) (sB : (look 9 B).2.2 = true) (hk : hx.k = 12) (hj : j < L.length) (hs : L.getD j ByteArray.empty = hx.nm) (hnd : L.Nodup) (hlL : L.length * 16 ≤ 140737488351232) (hS : σ hx.nm = none) :
    Calls Try.prog 25 #[.pointer (some ⟨bb, 0, none⟩), hx.val, hy.val] w (MQ bb bT bK L na nc (some (sput σ hx.nm B)) w) := by
  obtain ⟨⟨hd, r1, r2⟩, r3⟩ := hE.row j hx.nm hj hs
  rw [hS] at r2 r3
  have HP := Lib.hid (fun W (k : Kp w W) => (hE.keep k).put hnd hj hs (hg.keep k) sB)
  clear r2 sB
  have HE := Lib.hid hE
  have hkb : (hx.k != 12) = false := by rw [hk]; rfl
  have HNE := Lib.hid (fun n (hn : n < j) (e : L.getD n ByteArray.empty = hx.nm) => (by have := getD_inj hnd (by omega) hj e hs; omega : False))
  have HS := Lib.hid hs
  have R1 := Lib.hid r1
  have R3 := Lib.hid r3
  have HEL := hE.lt
  clear hE hg r1 r3 hnd hs hS hk
  go_enter Try.func25, Try.ntmps25
  go_wp2_with fail
  go_loopw [7] (fun i wr => ∃ n : Nat, n ≤ j ∧ i = .int .i64 n ∧ Kp ((w.alloc (.cells #[.int .i64 hx.k, .string hx.nm, .int .i64 hx.con, .slice hx.fa hx.fl hx.fc, .slice hx.la hx.ll hx.lc, .slice hx.ra hx.rl hx.rc] 42)).alloc (.cells #[.int .i64 hy.k, .string hy.nm, .int .i64 hy.con, .slice hy.fa hy.fl hy.fc, .slice hy.la hy.ll hy.lc, .slice hy.ra hy.rl hy.rc] 42)) wr) (fun i _ => j - (intOf i).toNat)
  case atStart => exact ⟨0, Nat.zero_le _, rfl, Kp.refl _⟩
  case round =>
    obtain ⟨n, hn, rfl, hkr⟩ := hrel
    obtain ⟨p0, p1, p2, p3, p4, p5, ps⟩ := boxed (h := hx) (Kp.trans ((Kp.refl _).alloc _) hkr)
    obtain ⟨q0, q1, q2, q3, q4, q5, qs⟩ := boxed (h := hy) hkr
    simp only [World.size_alloc] at q0 q1 q2 q3 q4 q5 qs
    have KR := Lib.hid ((((Kp.refl w).alloc _).alloc _).trans hkr)
    have HKR := Lib.hid hkr
    have pl : w.heap.size < wr.heap.size := ps
    have ql : w.heap.size + 1 < wr.heap.size := qs
    have c0 := KR.out.cellv HE.out.c0
    have c1 := KR.out.cellv HE.out.c1
    have c2 := KR.out.cellv HE.out.c2
    have cl : bb < wr.heap.size := lt_of_cell c0
    clear hkr ps qs
    obtain ⟨sn, hsn⟩ : ∃ sn, L.getD n ByteArray.empty = sn := ⟨_, rfl⟩
    obtain ⟨nb, no, hna, hnc⟩ := HE.out.tb.at (by omega)
    subst hna
    have x0 : wr.cell? ⟨nb, no + n, none⟩ = some (.string sn) := by
      have := KR.out.cellv (rangeAt_head (hnc n (by omega)))
      rw [Nat.mul_one, hsn] at this
      exact this
    have x0l : nb < wr.heap.size := lt_of_cell x0
    have j1 : (0 : Int) ≤ n := by omega
    have j2 : (n : Int) < L.length := by omega
    clear hnc
    by_cases hlt : n < j
    · have e4 : (hx.nm.toList == sn.toList) = false := by
        rcases same_or hx.nm sn with ⟨e1, _⟩ | ⟨_, e2⟩
        · exact absurd (hsn.trans e1.symm) (HNE.out n (by omega))
        · exact e2
      have e3 : (hx.nm.toList != sn.toList) = true := by
        rcases same_or hx.nm sn with ⟨e1, _⟩ | ⟨_, e2⟩
        · exact absurd (hsn.trans e1.symm) (HNE.out n (by omega))
        · simpa [bne] using e2
      clear hsn
      go_wp2_with fail
      go_quiet (fail)
      go_wp2_with fail
      go_roundw
      case rel => exact ⟨n + 1, by omega, by go_num, (HKR.out).drewN _⟩
      case measure => simp [intOf]; omega
    · obtain rfl : n = j := by omega
      obtain rfl : hx.nm = sn := HS.out.symm.trans hsn
      have e4 : (hx.nm.toList == hx.nm.toList) = true := by simp
      have e3 : (hx.nm.toList != hx.nm.toList) = false := by simp
      have y0 := KR.out.cellv R3.out
      obtain ⟨i0, hi, hz0, hz1, hz2⟩ := info_parts infoT
      obtain ⟨cT, t1, t2⟩ := (HE.out.keep KR.out).rT
      obtain ⟨cK, k1, k2⟩ := (HE.out.keep KR.out).rK
      have yf := frozen_of_row wr bK n cK _ k1
      have nTK := HE.out.TK
      have nbT := HE.out.nT
      have nbK := HE.out.nK
      have hn6 : (n + 1) * 6 ≤ L.length * 6 := Nat.mul_le_mul_right 6 hj
      have T2 := Lib.hid t2
      have T1 := Lib.hid t1
      clear t1 t2 k1 k2
      have HQ8 := Lib.hid (fun W (m : Mb bT bK wr W) => (show W.cell? ⟨w.heap.size + 1, 0, none⟩ = some (.int .i64 hy.k) ∧ W.cell? ⟨w.heap.size + 1, 1, none⟩ = some (.string hy.nm) ∧ W.cell? ⟨w.heap.size + 1, 2, none⟩ = some (.int .i64 hy.con) ∧ W.cell? ⟨w.heap.size + 1, 3, none⟩ = some (.slice hy.fa hy.fl hy.fc) ∧ W.cell? ⟨w.heap.size + 1, 4, none⟩ = some (.slice hy.la hy.ll hy.lc) ∧ W.cell? ⟨w.heap.size + 1, 5, none⟩ = some (.slice hy.ra hy.rl hy.rc) ∧ W.cell? ⟨bb, 1, none⟩ = some (.slice (some ⟨bT, 0, none⟩) L.length L.length) from ⟨m.cellv q0 (by show w.heap.size + 1 ≠ bT; omega) (by show w.heap.size + 1 ≠ bK; omega), m.cellv q1 (by show w.heap.size + 1 ≠ bT; omega) (by show w.heap.size + 1 ≠ bK; omega), m.cellv q2 (by show w.heap.size + 1 ≠ bT; omega) (by show w.heap.size + 1 ≠ bK; omega), m.cellv q3 (by show w.heap.size + 1 ≠ bT; omega) (by show w.heap.size + 1 ≠ bK; omega), m.cellv q4 (by show w.heap.size + 1 ≠ bT; omega) (by show w.heap.size + 1 ≠ bK; omega), m.cellv q5 (by show w.heap.size + 1 ≠ bT; omega) (by show w.heap.size + 1 ≠ bK; omega), m.cellv c1 nbT nbK⟩))
      go_wp2_with fail
      go_quiet (fail)
      have M7 := Lib.hid (show Mb bT bK wr ((wr.drewN nq).setCell ⟨bK, n, none⟩ (.bool true)) from ((Kp.refl wr).drewN nq).mb.trans (Mb.setCell (.inr rfl)))
      have HT8 := Lib.hid (show (((wr.drewN nq).setCell ⟨bK, n, none⟩ (.bool true)).drew).there bT (n * 6) 6 from fun j hj => by
        have hb : (((wr.drewN nq).setCell ⟨bK, n, none⟩ (.bool true)).drew).heap[bT]? = some (.cells cT 42 (0, 0)) := (heap_setCell_other (wr.drewN nq) ⟨bK, n, none⟩ bT (.bool true) nTK).trans T1.out
        refine ⟨?_, frozen_of_row _ _ _ _ _ hb⟩
        rw [cell_of_row _ _ _ _ _ _ hb, Array.getElem?_eq_getElem (by have := T2.out; omega)]
        rfl)
      go_wp2_with fail
      refine wp_region_held_drew (S := (fun w' => w'.cell? ⟨w.heap.size + 1, 0, none⟩ = some (.int .i64 hy.k) ∧ w'.cell? ⟨w.heap.size + 1, 1, none⟩ = some (.string hy.nm) ∧ w'.cell? ⟨w.heap.size + 1, 2, none⟩ = some (.int .i64 hy.con) ∧ w'.cell? ⟨w.heap.size + 1, 3, none⟩ = some (.slice hy.fa hy.fl hy.fc) ∧ w'.cell? ⟨w.heap.size + 1, 4, none⟩ = some (.slice hy.la hy.ll hy.lc) ∧ w'.cell? ⟨w.heap.size + 1, 5, none⟩ = some (.slice hy.ra hy.rl hy.rc) ∧ w'.cell? ⟨bb, 1, none⟩ = some (.slice (some ⟨bT, 0, none⟩) L.length L.length))) (by kernel_rfl) (by first | exact HQ8.out _ M7.out.drew | exact HQ8.out _ M7.out) (fun hHeld0 => ?_)
      refine wpAnyH_take (i := 0) (oi := { dst := some 57, op := Op.move (Operand.tmp 0), type := 29, pos := "ref.go:261", after := #[], guard := none }) (v := ?_) rfl (by kernel_rfl) (by kernel_rfl) (by kernel_rfl) (fun _ _ _ h => h) (Or.inl ⟨by rfl, ?_⟩) (by assumption) ?_
      rotate_left
      · (intro wz hSw; (try dsimp only at hSw); go_simp; first | done | with_reducible rfl)
      try simp only [Act.put, List.setIfInBounds_toArray, List.set_cons_zero, List.set_cons_succ]
      refine wpAnyH_take (i := 1) (oi := { dst := some 58, op := Op.nilCheck (Operand.tmp 57), type := 0, pos := "ref.go:261", after := #[{ on := 0, ground := Ground.data }], guard := none }) (v := ?_) rfl (by kernel_rfl) (by kernel_rfl) (by kernel_rfl) (fun _ _ _ h => h) (Or.inl ⟨by rfl, ?_⟩) (by assumption) ?_
      rotate_left
      · (intro wz hSw; (try dsimp only at hSw); go_simp; first | done | with_reducible rfl)
      try simp only [Act.put, List.setIfInBounds_toArray, List.set_cons_zero, List.set_cons_succ]
      refine wpAnyH_take (i := 2) (oi := { dst := some 59, op := Op.fieldAddr 35 (Operand.tmp 58) 1, type := 0, pos := "ref.go:261", after := #[{ on := 1, ground := Ground.data }], guard := none }) (v := ?_) rfl (by kernel_rfl) (by kernel_rfl) (by kernel_rfl) (fun _ _ _ h => h) (Or.inl ⟨by rfl, ?_⟩) (by assumption) ?_
      rotate_left
      · (intro wz hSw; (try dsimp only at hSw); go_simp; first | done | with_reducible rfl)
      try simp only [Act.put, List.setIfInBounds_toArray, List.set_cons_zero, List.set_cons_succ]
      refine wpAnyH_take (i := 3) (oi := { dst := some 60, op := Op.load 23 (Operand.tmp 59), type := 23, pos := "ref.go:261", after := #[{ on := 2, ground := Ground.data }], guard := none }) (v := ?_) rfl (by kernel_rfl) (by kernel_rfl) (by kernel_rfl) (fun _ _ _ h => h) (Or.inl ⟨by rfl, ?_⟩) (by assumption) ?_
      rotate_left
      · (intro wz hSw; (try dsimp only at hSw); go_simp; first | done | with_reducible rfl)
      try simp only [Act.put, List.setIfInBounds_toArray, List.set_cons_zero, List.set_cons_succ]
      refine wpAnyH_take (i := 4) (oi := { dst := some 61, op := Op.move (Operand.tmp 7), type := 3, pos := "ref.go:261", after := #[], guard := none }) (v := ?_) rfl (by kernel_rfl) (by kernel_rfl) (by kernel_rfl) (fun _ _ _ h => h) (Or.inl ⟨by rfl, ?_⟩) (by assumption) ?_
      rotate_left
      · (intro wz hSw; (try dsimp only at hSw); go_simp; first | done | with_reducible rfl)
      try simp only [Act.put, List.setIfInBounds_toArray, List.set_cons_zero, List.set_cons_succ]
      refine wpAnyH_take (i := 5) (oi := { dst := some 62, op := Op.load 42 (Operand.tmp 5), type := 42, pos := "ref.go:261", after := #[], guard := none }) (v := ?_) rfl (by kernel_rfl) (by kernel_rfl) (by kernel_rfl) (fun _ _ _ h => h) (Or.inl ⟨by rfl, ?_⟩) (by assumption) ?_
      rotate_left
      · (intro wz hSw; (try dsimp only at hSw); go_simp; first | done | with_reducible rfl)
      try simp only [Act.put, List.setIfInBounds_toArray, List.set_cons_zero, List.set_cons_succ]
      refine wpAnyH_take (i := 6) (oi := { dst := some 63, op := Op.indexAddr 23 (Operand.tmp 60) (Operand.tmp 61), type := 0, pos := "ref.go:261", after := #[{ on := 3, ground := Ground.data }, { on := 4, ground := Ground.data }, { on := 0, ground := Ground.phase }, { on := 1, ground := Ground.phase }, { on := 2, ground := Ground.phase }, { on := 3, ground := Ground.phase }, { on := 4, ground := Ground.phase }, { on := 5, ground := Ground.phase }], guard := none }) (v := ?_) rfl (by kernel_rfl) (by kernel_rfl) (by kernel_rfl) (fun _ _ _ h => h) (Or.inl ⟨by rfl, ?_⟩) (by assumption) ?_
      rotate_left
      · (intro wz hSw; (try dsimp only at hSw); go_simp; first | done | with_reducible rfl)
      try simp only [Act.put, List.setIfInBounds_toArray, List.set_cons_zero, List.set_cons_succ]
      refine wpAnyH_ready (rs := [7]) (by kernel_rfl) (by simp) ?_
      refine AllReadyH.cons (o := { dst := none, op := Op.store 42 (Operand.tmp 63) (Operand.tmp 62), type := 0, pos := "ref.go:261", after := #[{ on := 6, ground := Ground.data }, { on := 5, ground := Ground.data }, { on := 0, ground := Ground.phase }, { on := 1, ground := Ground.phase }, { on := 2, ground := Ground.phase }, { on := 3, ground := Ground.phase }, { on := 4, ground := Ground.phase }, { on := 5, ground := Ground.phase }], guard := none }) rfl (fun Kw hKw => ?_) AllReadyH.nil
      refine step_go rfl ?_
      refine step_store_mid 42 _ _ rfl (w' := (((wr.drewN nq).setCell ⟨bK, n, none⟩ (.bool true)).drew).setCells bT (n * 6) hy.cells) (by exact run_storeAt_mid (P := Try.prog) _ bT (n * 6) 42 hy.cells.toArray HT8.out (by rw [hi]; simp [hz1]) (all_oneCell_toArray hy.one)) ?_
      refine hKw.out _ _ (HQ8.out _ ((Kp.drew ((Kp.refl wr).drewN nq)).mb.trans (HP.out _ (KR.out.drewN nq).drew).2)) (fun hHeld1 => ?_)
      clear hKw Kw hHeld0
      try simp only [Act.put, List.setIfInBounds_toArray, List.set_cons_zero, List.set_cons_succ]
      refine wpAnyH_done (by kernel_rfl) ?_ _
      go_wp2_with fail
      go_ret
      exact ⟨((KR.out.drewN nq).drew).mb.trans (HP.out _ (KR.out.drewN nq).drew).2, .inr ⟨_, rfl, rfl, (HP.out _ (KR.out.drewN nq).drew).1⟩⟩
theorem from_offB {bT bK n : Nat} (h1 : bT < n) (h2 : bK < n) : Sel.le (OffB bT bK) (From n) := ⟨fun h => h.elim, fun b hb => by have h3 : n ≤ b := hb; exact ⟨by omega, by omega⟩⟩
theorem tab.atB {w : World} {bT bK : Nat} {e : TypeId} {a : Option Addr} {n c m : Nat} {C : Nat → List Value} (h : tab w (OffB bT bK) e a n c m C) (hn : 0 < n) : ∃ b o, a = some ⟨b, o, none⟩ ∧ b ≠ bT ∧ b ≠ bK ∧ ∀ i, i < n → w.rangeAt b (o + i * m) (C i) := by
  obtain ⟨b, o, ha, hS, hl, _, hr⟩ := h.2 hn
  exact ⟨b, o, ha, hS.1, hS.2, hr⟩
set_option maxHeartbeats 12800000 in
set_option maxRecDepth 100000 in
theorem rm_no (bb bT bK : Nat) (L : List ByteArray) (na : Option Addr) (nc : Nat) (σ : St) (hx hy : Hd) (w : World) (hE : BdE bb bT bK L na nc σ w) (hlL : L.length * 16 ≤ 140737488351232) (ne : hx.k = 12 → ∀ n, n < L.length → L.getD n ByteArray.empty ≠ hx.nm) (hno : ¬ (hx.k = hy.k ∧ hx.nm = hy.nm ∧ hx.con = hy.con ∧ hx.fl = hy.fl ∧ hx.ll = hy.ll ∧ hx.rl = hy.rl)) :
    Calls Try.prog 25 #[.pointer (some ⟨bb, 0, none⟩), hx.val, hy.val] w (MQ bb bT bK L na nc none w) := by
  have HE := Lib.hid hE
  have NE := Lib.hid ne
  have HEL := hE.lt
  clear hE ne
  go_enter Try.func25, Try.ntmps25
  go_wp2_with fail
  go_loopw [7] (fun i wr => ∃ n : Nat, n ≤ L.length ∧ i = .int .i64 n ∧ Kp ((w.alloc (.cells #[.int .i64 hx.k, .string hx.nm, .int .i64 hx.con, .slice hx.fa hx.fl hx.fc, .slice hx.la hx.ll hx.lc, .slice hx.ra hx.rl hx.rc] 42)).alloc (.cells #[.int .i64 hy.k, .string hy.nm, .int .i64 hy.con, .slice hy.fa hy.fl hy.fc, .slice hy.la hy.ll hy.lc, .slice hy.ra hy.rl hy.rc] 42)) wr) (fun i _ => L.length - (intOf i).toNat)
  case atStart => exact ⟨0, Nat.zero_le _, rfl, Kp.refl _⟩
  case round =>
    obtain ⟨n, hn, rfl, hkr⟩ := hrel
    obtain ⟨p0, p1, p2, p3, p4, p5, ps⟩ := boxed (h := hx) (Kp.trans ((Kp.refl _).alloc _) hkr)
    obtain ⟨q0, q1, q2, q3, q4, q5, qs⟩ := boxed (h := hy) hkr
    simp only [World.size_alloc] at q0 q1 q2 q3 q4 q5 qs
    have KR := Lib.hid ((((Kp.refl w).alloc _).alloc _).trans hkr)
    have HKR := Lib.hid hkr
    have pl : w.heap.size < wr.heap.size := ps
    have ql : w.heap.size + 1 < wr.heap.size := qs
    have c0 := KR.out.cellv HE.out.c0
    have c1 := KR.out.cellv HE.out.c1
    have c2 := KR.out.cellv HE.out.c2
    have cl : bb < wr.heap.size := lt_of_cell c0
    clear hkr ps qs
    by_cases hlt : n < L.length
    · obtain ⟨sn, hsn⟩ : ∃ sn, L.getD n ByteArray.empty = sn := ⟨_, rfl⟩
      obtain ⟨nb, no, hna, hnc⟩ := HE.out.tb.at (by omega)
      subst hna
      have x0 : wr.cell? ⟨nb, no + n, none⟩ = some (.string sn) := by
        have := KR.out.cellv (rangeAt_head (hnc n (by omega)))
        rw [Nat.mul_one, hsn] at this
        exact this
      have x0l : nb < wr.heap.size := lt_of_cell x0
      have j1 : (0 : Int) ≤ n := by omega
      have j2 : (n : Int) < L.length := by omega
      clear hnc
      cases hk12 : (hx.k != 12) with
      | true =>
        go_wp2_with fail
        refine wp_region_held_drew (S := (fun w' => w'.cell? ⟨w.heap.size, 0, none⟩ = some (.int .i64 hx.k))) (by kernel_rfl) (by exact p0) (fun hHeld0 => ?_)
        refine wpAnyH_take (i := 0) (oi := { dst := some 20, op := Op.fieldAddr 42 (Operand.tmp 4) 0, type := 0, pos := "ref.go:254", after := #[], guard := none }) (v := ?_) rfl (by kernel_rfl) (by kernel_rfl) (by kernel_rfl) (fun _ _ _ h => h) (Or.inl ⟨by rfl, ?_⟩) (by assumption) ?_
        rotate_left
        · (intro wz hSw; (try dsimp only at hSw); go_simp; first | done | with_reducible rfl)
        try simp only [Act.put, List.setIfInBounds_toArray, List.set_cons_zero, List.set_cons_succ]
        refine wpAnyH_take (i := 1) (oi := { dst := some 21, op := Op.load 3 (Operand.tmp 20), type := 3, pos := "ref.go:254", after := #[{ on := 0, ground := Ground.data }], guard := none }) (v := ?_) rfl (by kernel_rfl) (by kernel_rfl) (by kernel_rfl) (fun _ _ _ h => h) (Or.inl ⟨by rfl, ?_⟩) (by assumption) ?_
        rotate_left
        · (intro wz hSw; (try dsimp only at hSw); go_simp; first | done | with_reducible rfl)
        try simp only [Act.put, List.setIfInBounds_toArray, List.set_cons_zero, List.set_cons_succ]
        refine wpAnyH_take (i := 2) (oi := { dst := some 22, op := Op.binOp BinOp.neq 3 (Operand.tmp 21) (Operand.const (Value.int IntKind.i64 12)) 3, type := 4, pos := "ref.go:254", after := #[{ on := 1, ground := Ground.data }], guard := none }) (v := ?_) rfl (by kernel_rfl) (by kernel_rfl) (by kernel_rfl) (fun _ _ _ h => h) (Or.inl ⟨by rfl, ?_⟩) (by assumption) ?_
        rotate_left
        · (intro wz hSw; (try dsimp only at hSw); go_simp; first | done | with_reducible rfl)
        try simp only [Act.put, List.setIfInBounds_toArray, List.set_cons_zero, List.set_cons_succ]
        refine wpAnyH_take (i := 3) (oi := { dst := some 23, op := Op.move (Operand.tmp 22), type := 4, pos := "ref.go:254", after := #[{ on := 2, ground := Ground.data }], guard := none }) (v := ?_) rfl (by kernel_rfl) (by kernel_rfl) (by kernel_rfl) (fun _ _ _ h => h) (Or.inl ⟨by rfl, ?_⟩) (by assumption) ?_
        rotate_left
        · (intro wz hSw; (try dsimp only at hSw); go_simp; first | done | with_reducible rfl)
        try simp only [Act.put, List.setIfInBounds_toArray, List.set_cons_zero, List.set_cons_succ]
        refine wpAnyH_take (i := 4) (oi := { dst := some 24, op := Op.fieldAddr 42 (Operand.tmp 4) 1, type := 0, pos := "ref.go:254", after := #[{ on := 3, ground := Ground.guard }], guard := some (3, false) }) (v := undef) rfl (by kernel_rfl) (by kernel_rfl) (by kernel_rfl) (fun _ _ _ h => h) (Or.inr ⟨by rfl, rfl⟩) (by assumption) ?_
        try simp only [Act.put, List.setIfInBounds_toArray, List.set_cons_zero, List.set_cons_succ]
        refine wpAnyH_take (i := 5) (oi := { dst := some 25, op := Op.load 9 (Operand.tmp 24), type := 9, pos := "ref.go:254", after := #[{ on := 4, ground := Ground.data }, { on := 3, ground := Ground.guard }], guard := some (3, false) }) (v := undef) rfl (by kernel_rfl) (by kernel_rfl) (by kernel_rfl) (fun _ _ _ h => h) (Or.inr ⟨by rfl, rfl⟩) (by assumption) ?_
        try simp only [Act.put, List.setIfInBounds_toArray, List.set_cons_zero, List.set_cons_succ]
        refine wpAnyH_take (i := 6) (oi := { dst := some 26, op := Op.move (Operand.tmp 0), type := 29, pos := "ref.go:254", after := #[{ on := 3, ground := Ground.guard }], guard := some (3, false) }) (v := undef) rfl (by kernel_rfl) (by kernel_rfl) (by kernel_rfl) (fun _ _ _ h => h) (Or.inr ⟨by rfl, rfl⟩) (by assumption) ?_
        try simp only [Act.put, List.setIfInBounds_toArray, List.set_cons_zero, List.set_cons_succ]
        refine wpAnyH_take (i := 7) (oi := { dst := some 27, op := Op.nilCheck (Operand.tmp 26), type := 0, pos := "ref.go:254", after := #[{ on := 6, ground := Ground.data }, { on := 3, ground := Ground.guard }], guard := some (3, false) }) (v := undef) rfl (by kernel_rfl) (by kernel_rfl) (by kernel_rfl) (fun _ _ _ h => h) (Or.inr ⟨by rfl, rfl⟩) (by assumption) ?_
        try simp only [Act.put, List.setIfInBounds_toArray, List.set_cons_zero, List.set_cons_succ]
        refine wpAnyH_take (i := 8) (oi := { dst := some 28, op := Op.fieldAddr 35 (Operand.tmp 27) 0, type := 0, pos := "ref.go:254", after := #[{ on := 7, ground := Ground.data }, { on := 3, ground := Ground.guard }], guard := some (3, false) }) (v := undef) rfl (by kernel_rfl) (by kernel_rfl) (by kernel_rfl) (fun _ _ _ h => h) (Or.inr ⟨by rfl, rfl⟩) (by assumption) ?_
        try simp only [Act.put, List.setIfInBounds_toArray, List.set_cons_zero, List.set_cons_succ]
        refine wpAnyH_take (i := 9) (oi := { dst := some 29, op := Op.load 22 (Operand.tmp 28), type := 22, pos := "ref.go:254", after := #[{ on := 8, ground := Ground.data }, { on := 3, ground := Ground.guard }], guard := some (3, false) }) (v := undef) rfl (by kernel_rfl) (by kernel_rfl) (by kernel_rfl) (fun _ _ _ h => h) (Or.inr ⟨by rfl, rfl⟩) (by assumption) ?_
        try simp only [Act.put, List.setIfInBounds_toArray, List.set_cons_zero, List.set_cons_succ]
        refine wpAnyH_take (i := 10) (oi := { dst := some 30, op := Op.move (Operand.tmp 7), type := 3, pos := "ref.go:254", after := #[{ on := 3, ground := Ground.guard }], guard := some (3, false) }) (v := undef) rfl (by kernel_rfl) (by kernel_rfl) (by kernel_rfl) (fun _ _ _ h => h) (Or.inr ⟨by rfl, rfl⟩) (by assumption) ?_
        try simp only [Act.put, List.setIfInBounds_toArray, List.set_cons_zero, List.set_cons_succ]
        refine wpAnyH_take (i := 11) (oi := { dst := some 31, op := Op.indexAddr 22 (Operand.tmp 29) (Operand.tmp 30), type := 0, pos := "ref.go:254", after := #[{ on := 9, ground := Ground.data }, { on := 10, ground := Ground.data }, { on := 3, ground := Ground.guard }], guard := some (3, false) }) (v := undef) rfl (by kernel_rfl) (by kernel_rfl) (by kernel_rfl) (fun _ _ _ h => h) (Or.inr ⟨by rfl, rfl⟩) (by assumption) ?_
        try simp only [Act.put, List.setIfInBounds_toArray, List.set_cons_zero, List.set_cons_succ]
        refine wpAnyH_take (i := 12) (oi := { dst := some 32, op := Op.load 9 (Operand.tmp 31), type := 9, pos := "ref.go:254", after := #[{ on := 11, ground := Ground.data }, { on := 3, ground := Ground.guard }], guard := some (3, false) }) (v := undef) rfl (by kernel_rfl) (by kernel_rfl) (by kernel_rfl) (fun _ _ _ h => h) (Or.inr ⟨by rfl, rfl⟩) (by assumption) ?_
        try simp only [Act.put, List.setIfInBounds_toArray, List.set_cons_zero, List.set_cons_succ]
        refine wpAnyH_take (i := 13) (oi := { dst := some 33, op := Op.binOp BinOp.neq 9 (Operand.tmp 25) (Operand.tmp 32) 9, type := 4, pos := "ref.go:254", after := #[{ on := 5, ground := Ground.data }, { on := 12, ground := Ground.data }, { on := 3, ground := Ground.guard }], guard := some (3, false) }) (v := undef) rfl (by kernel_rfl) (by kernel_rfl) (by kernel_rfl) (fun _ _ _ h => h) (Or.inr ⟨by rfl, rfl⟩) (by assumption) ?_
        try simp only [Act.put, List.setIfInBounds_toArray, List.set_cons_zero, List.set_cons_succ]
        refine wpAnyH_take (i := 14) (oi := { dst := some 34, op := Op.pick (Operand.tmp 23) (Operand.const (Value.bool true)) (Operand.tmp 33), type := 4, pos := "ref.go:254", after := #[{ on := 3, ground := Ground.data }, { on := 13, ground := Ground.data }], guard := none }) (v := ?_) rfl (by kernel_rfl) (by kernel_rfl) (by kernel_rfl) (fun _ _ _ h => h) (Or.inl ⟨by rfl, ?_⟩) (by assumption) ?_
        rotate_left
        · (intro wz hSw; (try dsimp only at hSw); go_simp; first | done | with_reducible rfl)
        try simp only [Act.put, List.setIfInBounds_toArray, List.set_cons_zero, List.set_cons_succ]
        refine wpAnyH_done (by kernel_rfl) ?_ _
        go_wp2_with fail
        go_roundw
        case rel => exact ⟨n + 1, by omega, by go_num, (HKR.out).drew⟩
        case measure => simp [intOf]; omega
      | false =>
        have hne := NE.out (by simpa using hk12) n hlt
        rw [hsn] at hne
        have e4 : (hx.nm.toList == sn.toList) = false := by
          rcases same_or hx.nm sn with ⟨e1, _⟩ | ⟨_, e2⟩
          · exact absurd e1.symm hne
          · exact e2
        have e3 : (hx.nm.toList != sn.toList) = true := by simpa [bne] using e4
        clear hsn hne
        go_wp2_with fail
        go_quiet (fail)
        go_wp2_with fail
        go_roundw
        case rel => exact ⟨n + 1, by omega, by go_num, (HKR.out).drewN _⟩
        case measure => simp [intOf]; omega
    · obtain rfl : n = L.length := by omega
      have hz : ¬ ((L.length : Int) < (L.length : Int)) := by omega
      by_cases hk : hx.k = hy.k
      case neg =>
        have b_k : (hx.k != hy.k) = true := bne_iff_ne.2 (by exact hk)
        clear hno hk
        go_wp2_with fail
        go_ret
        exact ⟨KR.out.mb, .inl ⟨rfl, rfl⟩⟩
      by_cases hnm : hx.nm = hy.nm
      case neg =>
        have b_k : (hx.k != hy.k) = false := by (rw [hk]; simp)
        have b_nm : (hx.nm.toList == hy.nm.toList) = false := by
          rcases same_or hx.nm hy.nm with ⟨e1, _⟩ | ⟨_, e2⟩
          · exact absurd e1 hnm
          · exact e2
        have c_nm : (hx.nm.toList != hy.nm.toList) = true := by simpa [bne] using b_nm
        clear hno hk hnm
        go_wp2_with fail
        go_ret
        exact ⟨KR.out.mb, .inl ⟨rfl, rfl⟩⟩
      by_cases hcon : hx.con = hy.con
      case neg =>
        have b_k : (hx.k != hy.k) = false := by (rw [hk]; simp)
        have b_nm : (hx.nm.toList == hy.nm.toList) = true := by (rw [hnm]; simp)
        have c_nm : (hx.nm.toList != hy.nm.toList) = false := by (rw [hnm]; simp)
        have b_con : (hx.con != hy.con) = true := bne_iff_ne.2 (by exact hcon)
        clear hno hk hnm hcon
        go_wp2_with fail
        go_ret
        exact ⟨KR.out.mb, .inl ⟨rfl, rfl⟩⟩
      by_cases hfl : hx.fl = hy.fl
      case neg =>
        have b_k : (hx.k != hy.k) = false := by (rw [hk]; simp)
        have b_nm : (hx.nm.toList == hy.nm.toList) = true := by (rw [hnm]; simp)
        have c_nm : (hx.nm.toList != hy.nm.toList) = false := by (rw [hnm]; simp)
        have b_con : (hx.con != hy.con) = false := by (rw [hcon]; simp)
        have b_fl : ((hx.fl : Int) != (hy.fl : Int)) = true := bne_iff_ne.2 (by omega)
        clear hno hk hnm hcon hfl
        go_wp2_with fail
        go_ret
        exact ⟨KR.out.mb, .inl ⟨rfl, rfl⟩⟩
      by_cases hll : hx.ll = hy.ll
      case neg =>
        have b_k : (hx.k != hy.k) = false := by (rw [hk]; simp)
        have b_nm : (hx.nm.toList == hy.nm.toList) = true := by (rw [hnm]; simp)
        have c_nm : (hx.nm.toList != hy.nm.toList) = false := by (rw [hnm]; simp)
        have b_con : (hx.con != hy.con) = false := by (rw [hcon]; simp)
        have b_fl : ((hx.fl : Int) != (hy.fl : Int)) = false := by (rw [hfl]; simp)
        have b_ll : ((hx.ll : Int) != (hy.ll : Int)) = true := bne_iff_ne.2 (by omega)
        clear hno hk hnm hcon hfl hll
        go_wp2_with fail
        go_ret
        exact ⟨KR.out.mb, .inl ⟨rfl, rfl⟩⟩
      by_cases hrl : hx.rl = hy.rl
      case neg =>
        have b_k : (hx.k != hy.k) = false := by (rw [hk]; simp)
        have b_nm : (hx.nm.toList == hy.nm.toList) = true := by (rw [hnm]; simp)
        have c_nm : (hx.nm.toList != hy.nm.toList) = false := by (rw [hnm]; simp)
        have b_con : (hx.con != hy.con) = false := by (rw [hcon]; simp)
        have b_fl : ((hx.fl : Int) != (hy.fl : Int)) = false := by (rw [hfl]; simp)
        have b_ll : ((hx.ll : Int) != (hy.ll : Int)) = false := by (rw [hll]; simp)
        have b_rl : ((hx.rl : Int) != (hy.rl : Int)) = true := bne_iff_ne.2 (by omega)
        clear hno hk hnm hcon hfl hll hrl
        go_wp2_with fail
        go_ret
        exact ⟨KR.out.mb, .inl ⟨rfl, rfl⟩⟩
      exact absurd ⟨hk, hnm, hcon, hfl, hll, hrl⟩ hno
set_option maxHeartbeats 25600000 in
set_option maxRecDepth 100000 in
theorem rm_yes (bb bT bK : Nat) (L : List ByteArray) (na : Option Addr) (nc : Nat) (σ : St) (r R R' : Nat) (X Y : Ty) (K J : Nat → Hd) (hx hy : Hd) (w : World) (hE : BdE bb bT bK L na nc σ w) (hlL : L.length * 16 ≤ 140737488351232) (ne : hx.k = 12 → ∀ n, n < L.length → L.getD n ByteArray.empty ≠ hx.nm) (t : Top w (OffB bT bK) X hx K) (u : Top w (OffB bT bK) Y hy J) (fa : X.kids.length ≤ 17) (fb : Y.kids.length ≤ 17) (hh : ∀ (i : Nat) (Z : Ty), X.kids[i]? = some Z → Lies w (OffB bT bK) R Z (K i)) (hg : ∀ (i : Nat) (Z : Ty), Y.kids[i]? = some Z → Lies w (OffB bT bK) R' Z (J i)) (k1 : ∀ (i : Nat) (Z : Ty), X.kids[i]? = some Z → (look r Z).2.2 = true) (k2 : ∀ (i : Nat) (Z : Ty), Y.kids[i]? = some Z → (look r Z).2.2 = true)
    (ih : (∀ (X Y : Ty) (hx hy : Hd) (σ : St) (W : World), BdE bb bT bK L na nc σ W → Lies W (OffB bT bK) R X hx → Lies W (OffB bT bK) R' Y hy → (look r X).2.2 = true → (look r Y).2.2 = true → Calls Try.prog 25 #[.pointer (some ⟨bb, 0, none⟩), hx.val, hy.val] W (MQ bb bT bK L na nc (mtch L r σ X Y) W))) (hna : ¬ (X.k = 12 ∧ X.nm ∈ L)) (hk : hx.k = hy.k) (hnm : hx.nm = hy.nm) (hcon : hx.con = hy.con) (hfl : hx.fl = hy.fl) (hll : hx.ll = hy.ll) (hrl : hx.rl = hy.rl) :
    Calls Try.prog 25 #[.pointer (some ⟨bb, 0, none⟩), hx.val, hy.val] w (MQ bb bT bK L na nc (mtch L (r + 1) σ X Y) w) := by
  have hfl1 : hx.fl ≤ hy.fl := Nat.le_of_eq hfl
  have hkl : X.kids.length ≤ Y.kids.length := by have h1 := t.es; have h2 := u.es; omega
  have hkl2 : Y.kids.length ≤ X.kids.length := by have h1 := t.es; have h2 := u.es; omega
  have hfk : hx.fl ≤ X.kids.length := by have h1 := t.es; omega
  obtain ⟨oo, hoo⟩ : ∃ oo, mtch L (r + 1) σ X Y = oo := ⟨_, rfl⟩
  have HO := Lib.hid hoo
  have NN := Lib.hid (fun (n : Nat) (hn : n < hx.fl) (e : fnAt X.fn n ≠ fnAt Y.fn n) => (show mtch L (r + 1) σ X Y = none by
    rw [mtch_else hna, if_neg]
    intro ht
    exact e (((topEq_iff t u).1 (topB_true ht)).2.2.2.2.2.2 n hn)))
  have NC := Lib.hid (fun (σn : St) (X0 Y0 : Ty) (n : Nat) (hw : walkK (mtch L r) σ (X.kids.take n) (Y.kids.take n) = some σn) (hX : X.kids[n]? = some X0) (hY : Y.kids[n]? = some Y0) (hc : mtch L r σn X0 Y0 = none) => (show mtch L (r + 1) σ X Y = none by
    rw [mtch_else hna]
    split
    · refine walkK_stop (n := n + 1) ?_ (List.getElem?_eq_some_iff.1 hX).1 (List.getElem?_eq_some_iff.1 hY).1
      rw [walkK_succ hX hY, hw]
      exact hc
    · rfl))
  have NY := Lib.hid (fun (σn : St) (hs : ∀ i, i < X.kids.length → i < hx.fl → fnAt X.fn i = fnAt Y.fn i) (hw : walkK (mtch L r) σ (X.kids.take X.kids.length) (Y.kids.take X.kids.length) = some σn) => (show mtch L (r + 1) σ X Y = some σn by
    rw [mtch_else hna, if_pos (topB_yes ((topEq_iff t u).2 ⟨hk, hnm, hcon, hfl, hll, hrl, fun i hi => hs i (by omega) hi⟩))]
    rw [List.take_length, List.take_of_length_le (by omega)] at hw
    exact hw))
  have b_k : (hx.k != hy.k) = false := by (rw [hk]; simp)
  have b_nm : (hx.nm.toList == hy.nm.toList) = true := by (rw [hnm]; simp)
  have c_nm : (hx.nm.toList != hy.nm.toList) = false := by (rw [hnm]; simp)
  have b_con : (hx.con != hy.con) = false := by (rw [hcon]; simp)
  have b_fl : ((hx.fl : Int) != (hy.fl : Int)) = false := by (rw [hfl]; simp)
  have b_ll : ((hx.ll : Int) != (hy.ll : Int)) = false := by (rw [hll]; simp)
  have b_rl : ((hx.rl : Int) != (hy.rl : Int)) = false := by (rw [hrl]; simp)
  rw [hoo]
  have HE := Lib.hid hE
  have NE := Lib.hid ne
  have HEL := hE.lt
  have HT := Lib.hid t
  have HU := Lib.hid u
  have HH := Lib.hid hh
  have HG := Lib.hid hg
  have SX := Lib.hid k1
  have SY := Lib.hid k2
  have IH := Lib.hid ih
  clear hE ne t u hh hg k1 k2 ih hna hk hnm hcon hfl hll hrl hoo
  go_enter Try.func25, Try.ntmps25
  go_wp2_with fail
  go_loopw [7] (fun i wr => ∃ n : Nat, n ≤ L.length ∧ i = .int .i64 n ∧ Kp ((w.alloc (.cells #[.int .i64 hx.k, .string hx.nm, .int .i64 hx.con, .slice hx.fa hx.fl hx.fc, .slice hx.la hx.ll hx.lc, .slice hx.ra hx.rl hx.rc] 42)).alloc (.cells #[.int .i64 hy.k, .string hy.nm, .int .i64 hy.con, .slice hy.fa hy.fl hy.fc, .slice hy.la hy.ll hy.lc, .slice hy.ra hy.rl hy.rc] 42)) wr) (fun i _ => L.length - (intOf i).toNat)
  case atStart => exact ⟨0, Nat.zero_le _, rfl, Kp.refl _⟩
  case round =>
    obtain ⟨n, hn, rfl, hkr⟩ := hrel
    obtain ⟨p0, p1, p2, p3, p4, p5, ps⟩ := boxed (h := hx) (Kp.trans ((Kp.refl _).alloc _) hkr)
    obtain ⟨q0, q1, q2, q3, q4, q5, qs⟩ := boxed (h := hy) hkr
    simp only [World.size_alloc] at q0 q1 q2 q3 q4 q5 qs
    have KR := Lib.hid ((((Kp.refl w).alloc _).alloc _).trans hkr)
    have HKR := Lib.hid hkr
    have pl : w.heap.size < wr.heap.size := ps
    have ql : w.heap.size + 1 < wr.heap.size := qs
    have c0 := KR.out.cellv HE.out.c0
    have c1 := KR.out.cellv HE.out.c1
    have c2 := KR.out.cellv HE.out.c2
    have cl : bb < wr.heap.size := lt_of_cell c0
    clear hkr ps qs
    by_cases hlt : n < L.length
    · obtain ⟨sn, hsn⟩ : ∃ sn, L.getD n ByteArray.empty = sn := ⟨_, rfl⟩
      obtain ⟨nb, no, hna, hnc⟩ := HE.out.tb.at (by omega)
      subst hna
      have x0 : wr.cell? ⟨nb, no + n, none⟩ = some (.string sn) := by
        have := KR.out.cellv (rangeAt_head (hnc n (by omega)))
        rw [Nat.mul_one, hsn] at this
        exact this
      have x0l : nb < wr.heap.size := lt_of_cell x0
      have j1 : (0 : Int) ≤ n := by omega
      have j2 : (n : Int) < L.length := by omega
      clear hnc
      cases hk12 : (hx.k != 12) with
      | true =>
        go_wp2_with fail
        refine wp_region_held_drew (S := (fun w' => w'.cell? ⟨w.heap.size, 0, none⟩ = some (.int .i64 hx.k))) (by kernel_rfl) (by exact p0) (fun hHeld0 => ?_)
        refine wpAnyH_take (i := 0) (oi := { dst := some 20, op := Op.fieldAddr 42 (Operand.tmp 4) 0, type := 0, pos := "ref.go:254", after := #[], guard := none }) (v := ?_) rfl (by kernel_rfl) (by kernel_rfl) (by kernel_rfl) (fun _ _ _ h => h) (Or.inl ⟨by rfl, ?_⟩) (by assumption) ?_
        rotate_left
        · (intro wz hSw; (try dsimp only at hSw); go_simp; first | done | with_reducible rfl)
        try simp only [Act.put, List.setIfInBounds_toArray, List.set_cons_zero, List.set_cons_succ]
        refine wpAnyH_take (i := 1) (oi := { dst := some 21, op := Op.load 3 (Operand.tmp 20), type := 3, pos := "ref.go:254", after := #[{ on := 0, ground := Ground.data }], guard := none }) (v := ?_) rfl (by kernel_rfl) (by kernel_rfl) (by kernel_rfl) (fun _ _ _ h => h) (Or.inl ⟨by rfl, ?_⟩) (by assumption) ?_
        rotate_left
        · (intro wz hSw; (try dsimp only at hSw); go_simp; first | done | with_reducible rfl)
        try simp only [Act.put, List.setIfInBounds_toArray, List.set_cons_zero, List.set_cons_succ]
        refine wpAnyH_take (i := 2) (oi := { dst := some 22, op := Op.binOp BinOp.neq 3 (Operand.tmp 21) (Operand.const (Value.int IntKind.i64 12)) 3, type := 4, pos := "ref.go:254", after := #[{ on := 1, ground := Ground.data }], guard := none }) (v := ?_) rfl (by kernel_rfl) (by kernel_rfl) (by kernel_rfl) (fun _ _ _ h => h) (Or.inl ⟨by rfl, ?_⟩) (by assumption) ?_
        rotate_left
        · (intro wz hSw; (try dsimp only at hSw); go_simp; first | done | with_reducible rfl)
        try simp only [Act.put, List.setIfInBounds_toArray, List.set_cons_zero, List.set_cons_succ]
        refine wpAnyH_take (i := 3) (oi := { dst := some 23, op := Op.move (Operand.tmp 22), type := 4, pos := "ref.go:254", after := #[{ on := 2, ground := Ground.data }], guard := none }) (v := ?_) rfl (by kernel_rfl) (by kernel_rfl) (by kernel_rfl) (fun _ _ _ h => h) (Or.inl ⟨by rfl, ?_⟩) (by assumption) ?_
        rotate_left
        · (intro wz hSw; (try dsimp only at hSw); go_simp; first | done | with_reducible rfl)
        try simp only [Act.put, List.setIfInBounds_toArray, List.set_cons_zero, List.set_cons_succ]
        refine wpAnyH_take (i := 4) (oi := { dst := some 24, op := Op.fieldAddr 42 (Operand.tmp 4) 1, type := 0, pos := "ref.go:254", after := #[{ on := 3, ground := Ground.guard }], guard := some (3, false) }) (v := undef) rfl (by kernel_rfl) (by kernel_rfl) (by kernel_rfl) (fun _ _ _ h => h) (Or.inr ⟨by rfl, rfl⟩) (by assumption) ?_
        try simp only [Act.put, List.setIfInBounds_toArray, List.set_cons_zero, List.set_cons_succ]
        refine wpAnyH_take (i := 5) (oi := { dst := some 25, op := Op.load 9 (Operand.tmp 24), type := 9, pos := "ref.go:254", after := #[{ on := 4, ground := Ground.data }, { on := 3, ground := Ground.guard }], guard := some (3, false) }) (v := undef) rfl (by kernel_rfl) (by kernel_rfl) (by kernel_rfl) (fun _ _ _ h => h) (Or.inr ⟨by rfl, rfl⟩) (by assumption) ?_
        try simp only [Act.put, List.setIfInBounds_toArray, List.set_cons_zero, List.set_cons_succ]
        refine wpAnyH_take (i := 6) (oi := { dst := some 26, op := Op.move (Operand.tmp 0), type := 29, pos := "ref.go:254", after := #[{ on := 3, ground := Ground.guard }], guard := some (3, false) }) (v := undef) rfl (by kernel_rfl) (by kernel_rfl) (by kernel_rfl) (fun _ _ _ h => h) (Or.inr ⟨by rfl, rfl⟩) (by assumption) ?_
        try simp only [Act.put, List.setIfInBounds_toArray, List.set_cons_zero, List.set_cons_succ]
        refine wpAnyH_take (i := 7) (oi := { dst := some 27, op := Op.nilCheck (Operand.tmp 26), type := 0, pos := "ref.go:254", after := #[{ on := 6, ground := Ground.data }, { on := 3, ground := Ground.guard }], guard := some (3, false) }) (v := undef) rfl (by kernel_rfl) (by kernel_rfl) (by kernel_rfl) (fun _ _ _ h => h) (Or.inr ⟨by rfl, rfl⟩) (by assumption) ?_
        try simp only [Act.put, List.setIfInBounds_toArray, List.set_cons_zero, List.set_cons_succ]
        refine wpAnyH_take (i := 8) (oi := { dst := some 28, op := Op.fieldAddr 35 (Operand.tmp 27) 0, type := 0, pos := "ref.go:254", after := #[{ on := 7, ground := Ground.data }, { on := 3, ground := Ground.guard }], guard := some (3, false) }) (v := undef) rfl (by kernel_rfl) (by kernel_rfl) (by kernel_rfl) (fun _ _ _ h => h) (Or.inr ⟨by rfl, rfl⟩) (by assumption) ?_
        try simp only [Act.put, List.setIfInBounds_toArray, List.set_cons_zero, List.set_cons_succ]
        refine wpAnyH_take (i := 9) (oi := { dst := some 29, op := Op.load 22 (Operand.tmp 28), type := 22, pos := "ref.go:254", after := #[{ on := 8, ground := Ground.data }, { on := 3, ground := Ground.guard }], guard := some (3, false) }) (v := undef) rfl (by kernel_rfl) (by kernel_rfl) (by kernel_rfl) (fun _ _ _ h => h) (Or.inr ⟨by rfl, rfl⟩) (by assumption) ?_
        try simp only [Act.put, List.setIfInBounds_toArray, List.set_cons_zero, List.set_cons_succ]
        refine wpAnyH_take (i := 10) (oi := { dst := some 30, op := Op.move (Operand.tmp 7), type := 3, pos := "ref.go:254", after := #[{ on := 3, ground := Ground.guard }], guard := some (3, false) }) (v := undef) rfl (by kernel_rfl) (by kernel_rfl) (by kernel_rfl) (fun _ _ _ h => h) (Or.inr ⟨by rfl, rfl⟩) (by assumption) ?_
        try simp only [Act.put, List.setIfInBounds_toArray, List.set_cons_zero, List.set_cons_succ]
        refine wpAnyH_take (i := 11) (oi := { dst := some 31, op := Op.indexAddr 22 (Operand.tmp 29) (Operand.tmp 30), type := 0, pos := "ref.go:254", after := #[{ on := 9, ground := Ground.data }, { on := 10, ground := Ground.data }, { on := 3, ground := Ground.guard }], guard := some (3, false) }) (v := undef) rfl (by kernel_rfl) (by kernel_rfl) (by kernel_rfl) (fun _ _ _ h => h) (Or.inr ⟨by rfl, rfl⟩) (by assumption) ?_
        try simp only [Act.put, List.setIfInBounds_toArray, List.set_cons_zero, List.set_cons_succ]
        refine wpAnyH_take (i := 12) (oi := { dst := some 32, op := Op.load 9 (Operand.tmp 31), type := 9, pos := "ref.go:254", after := #[{ on := 11, ground := Ground.data }, { on := 3, ground := Ground.guard }], guard := some (3, false) }) (v := undef) rfl (by kernel_rfl) (by kernel_rfl) (by kernel_rfl) (fun _ _ _ h => h) (Or.inr ⟨by rfl, rfl⟩) (by assumption) ?_
        try simp only [Act.put, List.setIfInBounds_toArray, List.set_cons_zero, List.set_cons_succ]
        refine wpAnyH_take (i := 13) (oi := { dst := some 33, op := Op.binOp BinOp.neq 9 (Operand.tmp 25) (Operand.tmp 32) 9, type := 4, pos := "ref.go:254", after := #[{ on := 5, ground := Ground.data }, { on := 12, ground := Ground.data }, { on := 3, ground := Ground.guard }], guard := some (3, false) }) (v := undef) rfl (by kernel_rfl) (by kernel_rfl) (by kernel_rfl) (fun _ _ _ h => h) (Or.inr ⟨by rfl, rfl⟩) (by assumption) ?_
        try simp only [Act.put, List.setIfInBounds_toArray, List.set_cons_zero, List.set_cons_succ]
        refine wpAnyH_take (i := 14) (oi := { dst := some 34, op := Op.pick (Operand.tmp 23) (Operand.const (Value.bool true)) (Operand.tmp 33), type := 4, pos := "ref.go:254", after := #[{ on := 3, ground := Ground.data }, { on := 13, ground := Ground.data }], guard := none }) (v := ?_) rfl (by kernel_rfl) (by kernel_rfl) (by kernel_rfl) (fun _ _ _ h => h) (Or.inl ⟨by rfl, ?_⟩) (by assumption) ?_
        rotate_left
        · (intro wz hSw; (try dsimp only at hSw); go_simp; first | done | with_reducible rfl)
        try simp only [Act.put, List.setIfInBounds_toArray, List.set_cons_zero, List.set_cons_succ]
        refine wpAnyH_done (by kernel_rfl) ?_ _
        go_wp2_with fail
        go_roundw
        case rel => exact ⟨n + 1, by omega, by go_num, (HKR.out).drew⟩
        case measure => simp [intOf]; omega
      | false =>
        have hne := NE.out (by simpa using hk12) n hlt
        rw [hsn] at hne
        have e4 : (hx.nm.toList == sn.toList) = false := by
          rcases same_or hx.nm sn with ⟨e1, _⟩ | ⟨_, e2⟩
          · exact absurd e1.symm hne
          · exact e2
        have e3 : (hx.nm.toList != sn.toList) = true := by simpa [bne] using e4
        clear hsn hne
        go_wp2_with fail
        go_quiet (fail)
        go_wp2_with fail
        go_roundw
        case rel => exact ⟨n + 1, by omega, by go_num, (HKR.out).drewN _⟩
        case measure => simp [intOf]; omega
    · obtain rfl : n = L.length := by omega
      have hz : ¬ ((L.length : Int) < (L.length : Int)) := by omega
      go_wp2_with (first | (go_at_call 34; (with_reducible refine (c_Inner X hx K wr ((HT.out.weak (A0_le _)).keep KR.out) (by omega)).mono ?_); rintro e w2 ⟨adA, cA, rfl, htA, hk2⟩; obtain ⟨q0, q1, q2, q3, q4, q5, qs⟩ := boxed (h := hy) (HKR.out.trans hk2); simp only [World.size_alloc] at q0 q1 q2 q3 q4 q5 qs; have ql : w.heap.size + 1 < w2.heap.size := qs; have HTA := Lib.hid htA; have HK2 := Lib.hid hk2; clear htA hk2) | (go_at_call 34; (with_reducible refine (c_Inner Y hy J w2 ((HU.out.weak (A0_le _)).keep (KR.out.trans HK2.out)) (by omega)).mono ?_); rintro e w3 ⟨adB, cB, rfl, htB, hk3⟩; have HTB := Lib.hid htB; have HK3 := Lib.hid hk3; clear htB hk3))
      have hzw : w.heap.size + 2 ≤ wr.heap.size := by have := HKR.out.sz; simp only [World.size_alloc] at this; omega
      have K3 := Lib.hid (KR.out.trans (HK2.out.trans HK3.out))
      have TA := Lib.hid (((HTA.out).keep HK3.out).weak (from_offB (bT := bT) (bK := bK) (by omega) (by omega)))
      have hz2 : wr.heap.size ≤ w2.heap.size := HK2.out.sz
      have TB := Lib.hid ((HTB.out).weak (from_offB (bT := bT) (bK := bK) (by omega) (by omega)))
      have HBX := Lib.hid (fun W (m : Mb bT bK w3 W) => (show W.cell? ⟨w.heap.size, 0, none⟩ = some (.int .i64 hx.k) ∧ W.cell? ⟨w.heap.size, 1, none⟩ = some (.string hx.nm) ∧ W.cell? ⟨w.heap.size, 2, none⟩ = some (.int .i64 hx.con) ∧ W.cell? ⟨w.heap.size, 3, none⟩ = some (.slice hx.fa hx.fl hx.fc) ∧ W.cell? ⟨w.heap.size, 4, none⟩ = some (.slice hx.la hx.ll hx.lc) ∧ W.cell? ⟨w.heap.size, 5, none⟩ = some (.slice hx.ra hx.rl hx.rc) ∧ W.cell? ⟨w.heap.size + 1, 0, none⟩ = some (.int .i64 hy.k) ∧ W.cell? ⟨w.heap.size + 1, 1, none⟩ = some (.string hy.nm) ∧ W.cell? ⟨w.heap.size + 1, 2, none⟩ = some (.int .i64 hy.con) ∧ W.cell? ⟨w.heap.size + 1, 3, none⟩ = some (.slice hy.fa hy.fl hy.fc) ∧ W.cell? ⟨w.heap.size + 1, 4, none⟩ = some (.slice hy.la hy.ll hy.lc) ∧ W.cell? ⟨w.heap.size + 1, 5, none⟩ = some (.slice hy.ra hy.rl hy.rc) from by
        obtain ⟨p0, p1, p2, p3, p4, p5, _⟩ := boxed (h := hx) (Kp.trans ((Kp.refl _).alloc _) (HKR.out.trans (HK2.out.trans HK3.out)))
        obtain ⟨q0, q1, q2, q3, q4, q5, qs⟩ := boxed (h := hy) (HKR.out.trans (HK2.out.trans HK3.out))
        simp only [World.size_alloc] at q0 q1 q2 q3 q4 q5 qs
        have n1 : w.heap.size ≠ bT := by omega
        have n2 : w.heap.size ≠ bK := by omega
        have n3 : w.heap.size + 1 ≠ bT := by omega
        have n4 : w.heap.size + 1 ≠ bK := by omega
        exact ⟨m.cellv p0 n1 n2, m.cellv p1 n1 n2, m.cellv p2 n1 n2, m.cellv p3 n1 n2, m.cellv p4 n1 n2, m.cellv p5 n1 n2, m.cellv q0 n3 n4, m.cellv q1 n3 n4, m.cellv q2 n3 n4, m.cellv q3 n3 n4, m.cellv q4 n3 n4, m.cellv q5 n3 n4⟩))
      clear HTA HTB p0 p1 p2 p3 p4 p5 q0 q1 q2 q3 q4 q5 c0 c1 c2 b_k b_nm c_nm b_con b_fl b_ll b_rl
      obtain ⟨wo, hwo⟩ : ∃ wo, wo = wr := ⟨_, rfl⟩
      subst hwo
      go_loopw [10] (fun i wr => ∃ n : Nat, n ≤ X.kids.length ∧ i = .int .i64 n ∧ Mb bT bK w3 wr ∧ (∀ i, i < n → i < hx.fl → fnAt X.fn i = fnAt Y.fn i) ∧ ∃ σn, walkK (mtch L r) σ (X.kids.take n) (Y.kids.take n) = some σn ∧ BdE bb bT bK L na nc σn wr) (fun i _ => X.kids.length - (intOf i).toNat)
      case atStart => exact ⟨0, Nat.zero_le _, rfl, Mb.refl _ _ _, fun i hi => absurd hi (by omega), σ, rfl, HE.out.keep K3.out⟩
      case round =>
        obtain ⟨n, hn, rfl, hmr, hnms, σn, hw, hbe⟩ := hrel
        have HMR := Lib.hid hmr
        have HNM := Lib.hid hnms
        have HW := Lib.hid hw
        have BE := Lib.hid hbe
        have MW := Lib.hid (K3.out.mb.trans hmr)
        obtain ⟨p0, p1, p2, p3, p4, p5, q0, q1, q2, q3, q4, q5⟩ := HBX.out wr hmr
        have pl : w.heap.size < wr.heap.size := lt_of_cell p0
        have ql : w.heap.size + 1 < wr.heap.size := lt_of_cell q0
        clear hmr hnms hw hbe
        by_cases hlt : n < X.kids.length
        · have hltB : n < Y.kids.length := by omega
          obtain ⟨X0, hX⟩ : ∃ X0, X.kids[n]? = some X0 := ⟨_, List.getElem?_eq_getElem hlt⟩
          obtain ⟨Y0, hY⟩ : ∃ Y0, Y.kids[n]? = some Y0 := ⟨_, List.getElem?_eq_getElem hltB⟩
          have HX := Lib.hid hX
          have HY := Lib.hid hY
          have LX := Lib.hid ((HH.out n X0 hX).mb MW.out)
          have LY := Lib.hid ((HG.out n Y0 hY).mb MW.out)
          clear hX hY
          obtain ⟨ta, to, hta, nat, nak, hxr⟩ := (TA.out.mb HMR.out).atB (by omega)
          obtain ⟨tb, tp, htb, nbt, nbk, hyr⟩ := (TB.out.mb HMR.out).atB (by omega)
          subst hta
          subst htb
          have x0 : wr.cell? ⟨ta, to + n * 6, none⟩ = some (.int .i64 (K n).k) := hxr n hlt 0 _ rfl
          have x1 : wr.cell? ⟨ta, to + n * 6 + 1, none⟩ = some (.string (K n).nm) := hxr n hlt 1 _ rfl
          have x2 : wr.cell? ⟨ta, to + n * 6 + 2, none⟩ = some (.int .i64 (K n).con) := hxr n hlt 2 _ rfl
          have x3 : wr.cell? ⟨ta, to + n * 6 + 3, none⟩ = some (.slice (K n).fa (K n).fl (K n).fc) := hxr n hlt 3 _ rfl
          have x4 : wr.cell? ⟨ta, to + n * 6 + 4, none⟩ = some (.slice (K n).la (K n).ll (K n).lc) := hxr n hlt 4 _ rfl
          have x5 : wr.cell? ⟨ta, to + n * 6 + 5, none⟩ = some (.slice (K n).ra (K n).rl (K n).rc) := hxr n hlt 5 _ rfl
          have y0 : wr.cell? ⟨tb, tp + n * 6, none⟩ = some (.int .i64 (J n).k) := hyr n hltB 0 _ rfl
          have y1 : wr.cell? ⟨tb, tp + n * 6 + 1, none⟩ = some (.string (J n).nm) := hyr n hltB 1 _ rfl
          have y2 : wr.cell? ⟨tb, tp + n * 6 + 2, none⟩ = some (.int .i64 (J n).con) := hyr n hltB 2 _ rfl
          have y3 : wr.cell? ⟨tb, tp + n * 6 + 3, none⟩ = some (.slice (J n).fa (J n).fl (J n).fc) := hyr n hltB 3 _ rfl
          have y4 : wr.cell? ⟨tb, tp + n * 6 + 4, none⟩ = some (.slice (J n).la (J n).ll (J n).lc) := hyr n hltB 4 _ rfl
          have y5 : wr.cell? ⟨tb, tp + n * 6 + 5, none⟩ = some (.slice (J n).ra (J n).rl (J n).rc) := hyr n hltB 5 _ rfl
          clear hxr hyr
          have j1 : (0 : Int) ≤ n := by omega
          have j2 : (n : Int) < X.kids.length := by omega
          have j3 : (n : Int) < Y.kids.length := by omega
          by_cases hnf : n < hx.fl
          · have j4 : (n : Int) < hx.fl := by omega
            have j5 : (n : Int) < hy.fl := by omega
            obtain ⟨b1, o1, hea, her⟩ := (HT.out.tf.mb MW.out).at (by omega)
            obtain ⟨b2, o2, hga, hgr⟩ := (HU.out.tf.mb MW.out).at (by omega)
            have g1 : wr.cell? ⟨b1, o1 + n * 7, none⟩ = some (.string (fnAt X.fn n)) := rangeAt_head (her n hnf)
            have g2 : wr.cell? ⟨b2, o2 + n * 7, none⟩ = some (.string (fnAt Y.fn n)) := rangeAt_head (hgr n (by omega))
            have g1l : b1 < wr.heap.size := lt_of_cell g1
            have g2l : b2 < wr.heap.size := lt_of_cell g2
            rw [hea] at p3
            rw [hga] at q3
            clear her hgr hea hga
            rcases same_or (fnAt X.fn n) (fnAt Y.fn n) with ⟨e1, e2⟩ | ⟨e1, e2⟩
            · have E := Lib.hid e1
              have e3 : ((fnAt X.fn n).toList != (fnAt Y.fn n).toList) = false := by simpa [bne] using e2
              clear e1
              go_wp2_with fail
              go_quiet (fail)
              obtain ⟨co, hco⟩ : ∃ co, mtch L r σn X0 Y0 = co := ⟨_, rfl⟩
              have CX := Lib.hid (IH.out X0 Y0 (K n) (J n) σn (wr.drewN (nq + 1)) (BE.out.keep ((Kp.refl wr).drewN (nq + 1))) (LX.out.mb ((Kp.refl wr).drewN (nq + 1)).mb) (LY.out.mb ((Kp.refl wr).drewN (nq + 1)).mb) (SX.out n X0 HX.out) (SY.out n Y0 HY.out))
              have HCO := Lib.hid hco
              cases co with
              | none =>
                have HC := Lib.hid HCO.out
                clear hco
                go_wp2_with fail
                go_region_held3 (fun w' => w'.cell? ⟨ta, to + n * 6, none⟩ = some (.int .i64 (K n).k) ∧ w'.cell? ⟨ta, to + n * 6 + 1, none⟩ = some (.string (K n).nm) ∧ w'.cell? ⟨ta, to + n * 6 + 2, none⟩ = some (.int .i64 (K n).con) ∧ w'.cell? ⟨ta, to + n * 6 + 3, none⟩ = some (.slice (K n).fa (K n).fl (K n).fc) ∧ w'.cell? ⟨ta, to + n * 6 + 4, none⟩ = some (.slice (K n).la (K n).ll (K n).lc) ∧ w'.cell? ⟨ta, to + n * 6 + 5, none⟩ = some (.slice (K n).ra (K n).rl (K n).rc) ∧ w'.cell? ⟨tb, tp + n * 6, none⟩ = some (.int .i64 (J n).k) ∧ w'.cell? ⟨tb, tp + n * 6 + 1, none⟩ = some (.string (J n).nm) ∧ w'.cell? ⟨tb, tp + n * 6 + 2, none⟩ = some (.int .i64 (J n).con) ∧ w'.cell? ⟨tb, tp + n * 6 + 3, none⟩ = some (.slice (J n).fa (J n).fl (J n).fc) ∧ w'.cell? ⟨tb, tp + n * 6 + 4, none⟩ = some (.slice (J n).la (J n).ll (J n).lc) ∧ w'.cell? ⟨tb, tp + n * 6 + 5, none⟩ = some (.slice (J n).ra (J n).rl (J n).rc))
                  (first | exact ⟨x0, x1, x2, x3, x4, x5, y0, y1, y2, y3, y4, y5⟩ | exact ⟨hm6.cellv x0 nat nak, hm6.cellv x1 nat nak, hm6.cellv x2 nat nak, hm6.cellv x3 nat nak, hm6.cellv x4 nat nak, hm6.cellv x5 nat nak, hm6.cellv y0 nbt nbk, hm6.cellv y1 nbt nbk, hm6.cellv y2 nbt nbk, hm6.cellv y3 nbt nbk, hm6.cellv y4 nbt nbk, hm6.cellv y5 nbt nbk⟩)
                  (first | (go_at_call 25; (with_reducible refine CX.out.mono ?_); intro e w6 hp6; have he := hp6.no HC.out; have hm6 := he.2; have he1 := he.1; subst he1))
                go_wp2_with fail
                go_ret
                exact ⟨(MW.out.trans ((Kp.refl wr).drewN (nq + 1)).mb).trans hm6, .inl ⟨by rw [← HO.out]; exact NC.out σn X0 Y0 n HW.out HX.out HY.out HC.out, rfl⟩⟩
                            | some σ' =>
                have HC := Lib.hid HCO.out
                clear hco
                go_wp2_with fail
                go_region_held3 (fun w' => w'.cell? ⟨ta, to + n * 6, none⟩ = some (.int .i64 (K n).k) ∧ w'.cell? ⟨ta, to + n * 6 + 1, none⟩ = some (.string (K n).nm) ∧ w'.cell? ⟨ta, to + n * 6 + 2, none⟩ = some (.int .i64 (K n).con) ∧ w'.cell? ⟨ta, to + n * 6 + 3, none⟩ = some (.slice (K n).fa (K n).fl (K n).fc) ∧ w'.cell? ⟨ta, to + n * 6 + 4, none⟩ = some (.slice (K n).la (K n).ll (K n).lc) ∧ w'.cell? ⟨ta, to + n * 6 + 5, none⟩ = some (.slice (K n).ra (K n).rl (K n).rc) ∧ w'.cell? ⟨tb, tp + n * 6, none⟩ = some (.int .i64 (J n).k) ∧ w'.cell? ⟨tb, tp + n * 6 + 1, none⟩ = some (.string (J n).nm) ∧ w'.cell? ⟨tb, tp + n * 6 + 2, none⟩ = some (.int .i64 (J n).con) ∧ w'.cell? ⟨tb, tp + n * 6 + 3, none⟩ = some (.slice (J n).fa (J n).fl (J n).fc) ∧ w'.cell? ⟨tb, tp + n * 6 + 4, none⟩ = some (.slice (J n).la (J n).ll (J n).lc) ∧ w'.cell? ⟨tb, tp + n * 6 + 5, none⟩ = some (.slice (J n).ra (J n).rl (J n).rc))
                  (first | exact ⟨x0, x1, x2, x3, x4, x5, y0, y1, y2, y3, y4, y5⟩ | exact ⟨hm6.cellv x0 nat nak, hm6.cellv x1 nat nak, hm6.cellv x2 nat nak, hm6.cellv x3 nat nak, hm6.cellv x4 nat nak, hm6.cellv x5 nat nak, hm6.cellv y0 nbt nbk, hm6.cellv y1 nbt nbk, hm6.cellv y2 nbt nbk, hm6.cellv y3 nbt nbk, hm6.cellv y4 nbt nbk, hm6.cellv y5 nbt nbk⟩)
                  (first | (go_at_call 25; (with_reducible refine CX.out.mono ?_); intro e w6 hp6; have he := hp6.yes HC.out; have hm6 := he.2.1; have he1 := he.1; have hb6 := Lib.hid he.2.2; subst he1))
                go_wp2_with fail
                go_roundw
                case rel => exact ⟨n + 1, by omega, by go_num, (HMR.out.trans ((Kp.refl wr).drewN (nq + 1)).mb).trans hm6, fun i hi hf => by
                  by_cases e : i = n
                  · subst e; exact E.out
                  · exact HNM.out i (by omega) hf, σ', by rw [walkK_succ HX.out HY.out, HW.out]; exact HC.out, hb6.out⟩
                case measure => simp [intOf]; omega
            · have e3 : ((fnAt X.fn n).toList != (fnAt Y.fn n).toList) = true := by simpa [bne] using e2
              have HN := Lib.hid (NN.out n hnf e1)
              clear e1
              go_wp2_with fail
              go_quiet (fail)
              go_wp2_with fail
              go_ret
              exact ⟨MW.out.trans ((Kp.refl wr).drewN _).mb, .inl ⟨HO.out.symm.trans HN.out, rfl⟩⟩
          · have j4 : ¬ ((n : Int) < hx.fl) := by omega
            go_wp2_with fail
            refine wp_region_held_drew (S := (fun w' => w'.cell? ⟨w.heap.size, 3, none⟩ = some (.slice hx.fa hx.fl hx.fc))) (by kernel_rfl) (by exact p3) (fun hHeld0 => ?_)
            refine wpAnyH_take (i := 0) (oi := { dst := some 120, op := Op.move (Operand.tmp 10), type := 3, pos := "ref.go:270", after := #[], guard := none }) (v := ?_) rfl (by kernel_rfl) (by kernel_rfl) (by kernel_rfl) (fun _ _ _ h => h) (Or.inl ⟨by rfl, ?_⟩) (by assumption) ?_
            rotate_left
            · (intro wz hSw; (try dsimp only at hSw); go_simp; first | done | with_reducible rfl)
            try simp only [Act.put, List.setIfInBounds_toArray, List.set_cons_zero, List.set_cons_succ]
            refine wpAnyH_take (i := 1) (oi := { dst := some 121, op := Op.fieldAddr 42 (Operand.tmp 4) 3, type := 0, pos := "ref.go:270", after := #[], guard := none }) (v := ?_) rfl (by kernel_rfl) (by kernel_rfl) (by kernel_rfl) (fun _ _ _ h => h) (Or.inl ⟨by rfl, ?_⟩) (by assumption) ?_
            rotate_left
            · (intro wz hSw; (try dsimp only at hSw); go_simp; first | done | with_reducible rfl)
            try simp only [Act.put, List.setIfInBounds_toArray, List.set_cons_zero, List.set_cons_succ]
            refine wpAnyH_take (i := 2) (oi := { dst := some 122, op := Op.load 40 (Operand.tmp 121), type := 40, pos := "ref.go:270", after := #[{ on := 1, ground := Ground.data }], guard := none }) (v := ?_) rfl (by kernel_rfl) (by kernel_rfl) (by kernel_rfl) (fun _ _ _ h => h) (Or.inl ⟨by rfl, ?_⟩) (by assumption) ?_
            rotate_left
            · (intro wz hSw; (try dsimp only at hSw); go_simp; first | done | with_reducible rfl)
            try simp only [Act.put, List.setIfInBounds_toArray, List.set_cons_zero, List.set_cons_succ]
            refine wpAnyH_take (i := 3) (oi := { dst := some 123, op := Op.call { callee := Callee.builtin Builtin.len, args := #[Operand.tmp 122], argTypes := #[40] }, type := 3, pos := "ref.go:270", after := #[{ on := 2, ground := Ground.data }], guard := none }) (v := ?_) rfl (by kernel_rfl) (by kernel_rfl) (by kernel_rfl) (fun _ _ _ h => h) (Or.inl ⟨by rfl, ?_⟩) (by assumption) ?_
            rotate_left
            · (intro wz hSw; (try dsimp only at hSw); go_simp; first | done | with_reducible rfl)
            try simp only [Act.put, List.setIfInBounds_toArray, List.set_cons_zero, List.set_cons_succ]
            refine wpAnyH_take (i := 4) (oi := { dst := some 124, op := Op.binOp BinOp.lss 3 (Operand.tmp 120) (Operand.tmp 123) 3, type := 4, pos := "ref.go:270", after := #[{ on := 0, ground := Ground.data }, { on := 3, ground := Ground.data }], guard := none }) (v := ?_) rfl (by kernel_rfl) (by kernel_rfl) (by kernel_rfl) (fun _ _ _ h => h) (Or.inl ⟨by rfl, ?_⟩) (by assumption) ?_
            rotate_left
            · (intro wz hSw; (try dsimp only at hSw); go_simp; first | done | with_reducible rfl)
            try simp only [Act.put, List.setIfInBounds_toArray, List.set_cons_zero, List.set_cons_succ]
            refine wpAnyH_take (i := 5) (oi := { dst := some 125, op := Op.move (Operand.tmp 124), type := 4, pos := "ref.go:270", after := #[{ on := 4, ground := Ground.data }], guard := none }) (v := ?_) rfl (by kernel_rfl) (by kernel_rfl) (by kernel_rfl) (fun _ _ _ h => h) (Or.inl ⟨by rfl, ?_⟩) (by assumption) ?_
            rotate_left
            · (intro wz hSw; (try dsimp only at hSw); go_simp; first | done | with_reducible rfl)
            try simp only [Act.put, List.setIfInBounds_toArray, List.set_cons_zero, List.set_cons_succ]
            refine wpAnyH_take (i := 6) (oi := { dst := some 126, op := Op.fieldAddr 42 (Operand.tmp 4) 3, type := 0, pos := "ref.go:270", after := #[{ on := 5, ground := Ground.guard }], guard := some (5, true) }) (v := undef) rfl (by kernel_rfl) (by kernel_rfl) (by kernel_rfl) (fun _ _ _ h => h) (Or.inr ⟨by rfl, rfl⟩) (by assumption) ?_
            try simp only [Act.put, List.setIfInBounds_toArray, List.set_cons_zero, List.set_cons_succ]
            refine wpAnyH_take (i := 7) (oi := { dst := some 127, op := Op.load 40 (Operand.tmp 126), type := 40, pos := "ref.go:270", after := #[{ on := 6, ground := Ground.data }, { on := 5, ground := Ground.guard }], guard := some (5, true) }) (v := undef) rfl (by kernel_rfl) (by kernel_rfl) (by kernel_rfl) (fun _ _ _ h => h) (Or.inr ⟨by rfl, rfl⟩) (by assumption) ?_
            try simp only [Act.put, List.setIfInBounds_toArray, List.set_cons_zero, List.set_cons_succ]
            refine wpAnyH_take (i := 8) (oi := { dst := some 128, op := Op.move (Operand.tmp 10), type := 3, pos := "ref.go:270", after := #[{ on := 5, ground := Ground.guard }], guard := some (5, true) }) (v := undef) rfl (by kernel_rfl) (by kernel_rfl) (by kernel_rfl) (fun _ _ _ h => h) (Or.inr ⟨by rfl, rfl⟩) (by assumption) ?_
            try simp only [Act.put, List.setIfInBounds_toArray, List.set_cons_zero, List.set_cons_succ]
            refine wpAnyH_take (i := 9) (oi := { dst := some 129, op := Op.indexAddr 40 (Operand.tmp 127) (Operand.tmp 128), type := 0, pos := "ref.go:270", after := #[{ on := 7, ground := Ground.data }, { on := 8, ground := Ground.data }, { on := 5, ground := Ground.guard }], guard := some (5, true) }) (v := undef) rfl (by kernel_rfl) (by kernel_rfl) (by kernel_rfl) (fun _ _ _ h => h) (Or.inr ⟨by rfl, rfl⟩) (by assumption) ?_
            try simp only [Act.put, List.setIfInBounds_toArray, List.set_cons_zero, List.set_cons_succ]
            refine wpAnyH_take (i := 10) (oi := { dst := some 130, op := Op.fieldAddr 52 (Operand.tmp 129) 0, type := 0, pos := "ref.go:270", after := #[{ on := 9, ground := Ground.data }, { on := 5, ground := Ground.guard }], guard := some (5, true) }) (v := undef) rfl (by kernel_rfl) (by kernel_rfl) (by kernel_rfl) (fun _ _ _ h => h) (Or.inr ⟨by rfl, rfl⟩) (by assumption) ?_
            try simp only [Act.put, List.setIfInBounds_toArray, List.set_cons_zero, List.set_cons_succ]
            refine wpAnyH_take (i := 11) (oi := { dst := some 131, op := Op.load 9 (Operand.tmp 130), type := 9, pos := "ref.go:270", after := #[{ on := 10, ground := Ground.data }, { on := 5, ground := Ground.guard }], guard := some (5, true) }) (v := undef) rfl (by kernel_rfl) (by kernel_rfl) (by kernel_rfl) (fun _ _ _ h => h) (Or.inr ⟨by rfl, rfl⟩) (by assumption) ?_
            try simp only [Act.put, List.setIfInBounds_toArray, List.set_cons_zero, List.set_cons_succ]
            refine wpAnyH_take (i := 12) (oi := { dst := some 132, op := Op.fieldAddr 42 (Operand.tmp 5) 3, type := 0, pos := "ref.go:270", after := #[{ on := 5, ground := Ground.guard }], guard := some (5, true) }) (v := undef) rfl (by kernel_rfl) (by kernel_rfl) (by kernel_rfl) (fun _ _ _ h => h) (Or.inr ⟨by rfl, rfl⟩) (by assumption) ?_
            try simp only [Act.put, List.setIfInBounds_toArray, List.set_cons_zero, List.set_cons_succ]
            refine wpAnyH_take (i := 13) (oi := { dst := some 133, op := Op.load 40 (Operand.tmp 132), type := 40, pos := "ref.go:270", after := #[{ on := 12, ground := Ground.data }, { on := 5, ground := Ground.guard }], guard := some (5, true) }) (v := undef) rfl (by kernel_rfl) (by kernel_rfl) (by kernel_rfl) (fun _ _ _ h => h) (Or.inr ⟨by rfl, rfl⟩) (by assumption) ?_
            try simp only [Act.put, List.setIfInBounds_toArray, List.set_cons_zero, List.set_cons_succ]
            refine wpAnyH_take (i := 14) (oi := { dst := some 134, op := Op.move (Operand.tmp 10), type := 3, pos := "ref.go:270", after := #[{ on := 5, ground := Ground.guard }], guard := some (5, true) }) (v := undef) rfl (by kernel_rfl) (by kernel_rfl) (by kernel_rfl) (fun _ _ _ h => h) (Or.inr ⟨by rfl, rfl⟩) (by assumption) ?_
            try simp only [Act.put, List.setIfInBounds_toArray, List.set_cons_zero, List.set_cons_succ]
            refine wpAnyH_take (i := 15) (oi := { dst := some 135, op := Op.indexAddr 40 (Operand.tmp 133) (Operand.tmp 134), type := 0, pos := "ref.go:270", after := #[{ on := 13, ground := Ground.data }, { on := 14, ground := Ground.data }, { on := 5, ground := Ground.guard }], guard := some (5, true) }) (v := undef) rfl (by kernel_rfl) (by kernel_rfl) (by kernel_rfl) (fun _ _ _ h => h) (Or.inr ⟨by rfl, rfl⟩) (by assumption) ?_
            try simp only [Act.put, List.setIfInBounds_toArray, List.set_cons_zero, List.set_cons_succ]
            refine wpAnyH_take (i := 16) (oi := { dst := some 136, op := Op.fieldAddr 52 (Operand.tmp 135) 0, type := 0, pos := "ref.go:270", after := #[{ on := 15, ground := Ground.data }, { on := 5, ground := Ground.guard }], guard := some (5, true) }) (v := undef) rfl (by kernel_rfl) (by kernel_rfl) (by kernel_rfl) (fun _ _ _ h => h) (Or.inr ⟨by rfl, rfl⟩) (by assumption) ?_
            try simp only [Act.put, List.setIfInBounds_toArray, List.set_cons_zero, List.set_cons_succ]
            refine wpAnyH_take (i := 17) (oi := { dst := some 137, op := Op.load 9 (Operand.tmp 136), type := 9, pos := "ref.go:270", after := #[{ on := 16, ground := Ground.data }, { on := 5, ground := Ground.guard }], guard := some (5, true) }) (v := undef) rfl (by kernel_rfl) (by kernel_rfl) (by kernel_rfl) (fun _ _ _ h => h) (Or.inr ⟨by rfl, rfl⟩) (by assumption) ?_
            try simp only [Act.put, List.setIfInBounds_toArray, List.set_cons_zero, List.set_cons_succ]
            refine wpAnyH_take (i := 18) (oi := { dst := some 138, op := Op.binOp BinOp.neq 9 (Operand.tmp 131) (Operand.tmp 137) 9, type := 4, pos := "ref.go:270", after := #[{ on := 11, ground := Ground.data }, { on := 17, ground := Ground.data }, { on := 5, ground := Ground.guard }], guard := some (5, true) }) (v := undef) rfl (by kernel_rfl) (by kernel_rfl) (by kernel_rfl) (fun _ _ _ h => h) (Or.inr ⟨by rfl, rfl⟩) (by assumption) ?_
            try simp only [Act.put, List.setIfInBounds_toArray, List.set_cons_zero, List.set_cons_succ]
            refine wpAnyH_take (i := 19) (oi := { dst := some 139, op := Op.pick (Operand.tmp 125) (Operand.tmp 138) (Operand.const (Value.bool false)), type := 4, pos := "ref.go:270", after := #[{ on := 5, ground := Ground.data }, { on := 18, ground := Ground.data }], guard := none }) (v := ?_) rfl (by kernel_rfl) (by kernel_rfl) (by kernel_rfl) (fun _ _ _ h => h) (Or.inl ⟨by rfl, ?_⟩) (by assumption) ?_
            rotate_left
            · (intro wz hSw; (try dsimp only at hSw); go_simp; first | done | with_reducible rfl)
            try simp only [Act.put, List.setIfInBounds_toArray, List.set_cons_zero, List.set_cons_succ]
            refine wpAnyH_done (by kernel_rfl) ?_ _
            obtain ⟨co, hco⟩ : ∃ co, mtch L r σn X0 Y0 = co := ⟨_, rfl⟩
            have CX := Lib.hid (IH.out X0 Y0 (K n) (J n) σn wr.drew.drew (BE.out.keep ((Kp.refl wr).drew.drew)) (LX.out.mb ((Kp.refl wr).drew.drew).mb) (LY.out.mb ((Kp.refl wr).drew.drew).mb) (SX.out n X0 HX.out) (SY.out n Y0 HY.out))
            have HCO := Lib.hid hco
            cases co with
            | none =>
              have HC := Lib.hid HCO.out
              clear hco
              go_wp2_with fail
              go_region_held3 (fun w' => w'.cell? ⟨ta, to + n * 6, none⟩ = some (.int .i64 (K n).k) ∧ w'.cell? ⟨ta, to + n * 6 + 1, none⟩ = some (.string (K n).nm) ∧ w'.cell? ⟨ta, to + n * 6 + 2, none⟩ = some (.int .i64 (K n).con) ∧ w'.cell? ⟨ta, to + n * 6 + 3, none⟩ = some (.slice (K n).fa (K n).fl (K n).fc) ∧ w'.cell? ⟨ta, to + n * 6 + 4, none⟩ = some (.slice (K n).la (K n).ll (K n).lc) ∧ w'.cell? ⟨ta, to + n * 6 + 5, none⟩ = some (.slice (K n).ra (K n).rl (K n).rc) ∧ w'.cell? ⟨tb, tp + n * 6, none⟩ = some (.int .i64 (J n).k) ∧ w'.cell? ⟨tb, tp + n * 6 + 1, none⟩ = some (.string (J n).nm) ∧ w'.cell? ⟨tb, tp + n * 6 + 2, none⟩ = some (.int .i64 (J n).con) ∧ w'.cell? ⟨tb, tp + n * 6 + 3, none⟩ = some (.slice (J n).fa (J n).fl (J n).fc) ∧ w'.cell? ⟨tb, tp + n * 6 + 4, none⟩ = some (.slice (J n).la (J n).ll (J n).lc) ∧ w'.cell? ⟨tb, tp + n * 6 + 5, none⟩ = some (.slice (J n).ra (J n).rl (J n).rc))
                (first | exact ⟨x0, x1, x2, x3, x4, x5, y0, y1, y2, y3, y4, y5⟩ | exact ⟨hm6.cellv x0 nat nak, hm6.cellv x1 nat nak, hm6.cellv x2 nat nak, hm6.cellv x3 nat nak, hm6.cellv x4 nat nak, hm6.cellv x5 nat nak, hm6.cellv y0 nbt nbk, hm6.cellv y1 nbt nbk, hm6.cellv y2 nbt nbk, hm6.cellv y3 nbt nbk, hm6.cellv y4 nbt nbk, hm6.cellv y5 nbt nbk⟩)
                (first | (go_at_call 25; (with_reducible refine CX.out.mono ?_); intro e w6 hp6; have he := hp6.no HC.out; have hm6 := he.2; have he1 := he.1; subst he1))
              go_wp2_with fail
              go_ret
              exact ⟨(MW.out.trans ((Kp.refl wr).drew.drew).mb).trans hm6, .inl ⟨by rw [← HO.out]; exact NC.out σn X0 Y0 n HW.out HX.out HY.out HC.out, rfl⟩⟩
                        | some σ' =>
              have HC := Lib.hid HCO.out
              clear hco
              go_wp2_with fail
              go_region_held3 (fun w' => w'.cell? ⟨ta, to + n * 6, none⟩ = some (.int .i64 (K n).k) ∧ w'.cell? ⟨ta, to + n * 6 + 1, none⟩ = some (.string (K n).nm) ∧ w'.cell? ⟨ta, to + n * 6 + 2, none⟩ = some (.int .i64 (K n).con) ∧ w'.cell? ⟨ta, to + n * 6 + 3, none⟩ = some (.slice (K n).fa (K n).fl (K n).fc) ∧ w'.cell? ⟨ta, to + n * 6 + 4, none⟩ = some (.slice (K n).la (K n).ll (K n).lc) ∧ w'.cell? ⟨ta, to + n * 6 + 5, none⟩ = some (.slice (K n).ra (K n).rl (K n).rc) ∧ w'.cell? ⟨tb, tp + n * 6, none⟩ = some (.int .i64 (J n).k) ∧ w'.cell? ⟨tb, tp + n * 6 + 1, none⟩ = some (.string (J n).nm) ∧ w'.cell? ⟨tb, tp + n * 6 + 2, none⟩ = some (.int .i64 (J n).con) ∧ w'.cell? ⟨tb, tp + n * 6 + 3, none⟩ = some (.slice (J n).fa (J n).fl (J n).fc) ∧ w'.cell? ⟨tb, tp + n * 6 + 4, none⟩ = some (.slice (J n).la (J n).ll (J n).lc) ∧ w'.cell? ⟨tb, tp + n * 6 + 5, none⟩ = some (.slice (J n).ra (J n).rl (J n).rc))
                (first | exact ⟨x0, x1, x2, x3, x4, x5, y0, y1, y2, y3, y4, y5⟩ | exact ⟨hm6.cellv x0 nat nak, hm6.cellv x1 nat nak, hm6.cellv x2 nat nak, hm6.cellv x3 nat nak, hm6.cellv x4 nat nak, hm6.cellv x5 nat nak, hm6.cellv y0 nbt nbk, hm6.cellv y1 nbt nbk, hm6.cellv y2 nbt nbk, hm6.cellv y3 nbt nbk, hm6.cellv y4 nbt nbk, hm6.cellv y5 nbt nbk⟩)
                (first | (go_at_call 25; (with_reducible refine CX.out.mono ?_); intro e w6 hp6; have he := hp6.yes HC.out; have hm6 := he.2.1; have he1 := he.1; have hb6 := Lib.hid he.2.2; subst he1))
              go_wp2_with fail
              go_roundw
              case rel => exact ⟨n + 1, by omega, by go_num, (HMR.out.trans ((Kp.refl wr).drew.drew).mb).trans hm6, fun i hi hf => by
                by_cases e : i = n
                · subst e; exact absurd hf hnf
                · exact HNM.out i (by omega) hf, σ', by rw [walkK_succ HX.out HY.out, HW.out]; exact HC.out, hb6.out⟩
              case measure => simp [intOf]; omega
        · obtain rfl : n = X.kids.length := by omega
          have hz3 : ¬ ((X.kids.length : Int) < (X.kids.length : Int)) := by omega
          go_wp2_with fail
          go_ret
          exact ⟨MW.out, .inr ⟨σn, HO.out.symm.trans (NY.out σn HNM.out HW.out), rfl, BE.out⟩⟩
/-- Match, on sound types. -/
theorem c_Match (bb bT bK : Nat) (L : List ByteArray) (na : Option Addr) (nc : Nat) (hlL : L.length * 16 ≤ 140737488351232) (hnd : L.Nodup) : ∀ (r R R' : Nat), r ≤ 9 → ∀ (X Y : Ty) (hx hy : Hd) (σ : St) (W : World), BdE bb bT bK L na nc σ W → Lies W (OffB bT bK) R X hx → Lies W (OffB bT bK) R' Y hy → (look r X).2.2 = true → (look r Y).2.2 = true →
    Calls Try.prog 25 #[.pointer (some ⟨bb, 0, none⟩), hx.val, hy.val] W (MQ bb bT bK L na nc (mtch L r σ X Y) W) := by
  intro r
  induction r with
  | zero => intro R R' _ X Y hx hy σ W _ _ _ hs; rw [look_zero] at hs; cases hs
  | succ r ih =>
    intro R R' hr X Y hx hy σ W hE hl hm hs hs'
    have hm0 := hm
    have l9 := look_up hs' hr
    cases R with
    | zero => exact hl.elim
    | succ R =>
      cases R' with
      | zero => exact hm.elim
      | succ R' =>
        obtain ⟨K, t, hh⟩ := hl
        obtain ⟨J, u, hg⟩ := hm
        by_cases hA : X.k = 12 ∧ X.nm ∈ L
        · obtain ⟨j, hj, hjs⟩ := List.mem_iff_getElem.1 hA.2
          have hs2 : L.getD j ByteArray.empty = hx.nm := by rw [List.getD_eq_getElem?_getD, List.getElem?_eq_getElem hj, ← t.en, ← hjs]; rfl
          have h12 : hx.k = 12 := t.ek.symm.trans hA.1
          cases hS : σ hx.nm with
          | none =>
            rw [mtch_new hA (by rw [t.en]; exact hS), t.en]
            exact rm_new bb bT bK L na nc σ j Y (R' + 1) hx hy W hE hm0 l9 h12 hj hs2 hnd hlL hS
          | some S =>
            rw [mtch_known hA (by rw [t.en]; exact hS)]
            exact rm_known bb bT bK L na nc σ j Y S (R' + 1) hx hy W hE hm0 l9 h12 hj hs2 hnd hlL hS
        · have ne : hx.k = 12 → ∀ n, n < L.length → L.getD n ByteArray.empty ≠ hx.nm := fun h12 n hn e => hA ⟨t.ek.trans h12, by
            rw [t.en, ← e, List.getD_eq_getElem?_getD, List.getElem?_eq_getElem hn]
            exact List.getElem_mem hn⟩
          by_cases hno : hx.k = hy.k ∧ hx.nm = hy.nm ∧ hx.con = hy.con ∧ hx.fl = hy.fl ∧ hx.ll = hy.ll ∧ hx.rl = hy.rl
          · obtain ⟨e1, e2, e3, e4, e5, e6⟩ := hno
            exact rm_yes bb bT bK L na nc σ r R R' X Y K J hx hy W hE hlL ne t u (few_of hs) (few_of hs') hh hg (look_parts hs).2 (look_parts hs').2 (fun X Y hx hy σ W a b c d e => ih R R' (by omega) X Y hx hy σ W a b c d e) hA e1 e2 e3 e4 e5 e6
          · rw [mtch_else hA, if_neg (fun ht => hno (by obtain ⟨a, b, c, d, e, f, _⟩ := (topEq_iff t u).1 (topB_true ht); exact ⟨a, b, c, d, e, f⟩))]
            exact rm_no bb bT bK L na nc σ hx hy W hE hlL ne hno
end Go.Proofs.Ytfjflfokmihcpaa
