/- The matcher (matcher$3) where what is wanted is of a name that is asked for, but no parameter. Condition: both types lie in memory, outside the map, and are sound. -/
import Derived.Test.YtfjflfokmihcpaaUe
namespace Go.Proofs.Ytfjflfokmihcpaa
open Go.RowKit
set_option linter.unusedVariables false
set_option linter.unusedSimpArgs false
set_option maxHeartbeats 6400000 in
set_option maxRecDepth 100000 in
theorem me_kb (bm bs bM bF bL : Nat) (L : List ByteArray) (r R R' : Nat) (ih : IHm bm bs bM bF bL L r R R') (σ : St) (A B : Ty) (hk : Int) (hnm : ByteArray) (hcon : Int) (hfa : Option Addr) (hfl hfc : Nat) (hla : Option Addr) (hll hlc : Nat) (hra : Option Addr) (hrl hrc : Nat) (gk : Int) (gnm : ByteArray) (gcon : Int) (gfa : Option Addr) (gfl gfc : Nat) (gla : Option Addr) (gll glc : Nat) (gra : Option Addr) (grl grc : Nat)
    (zk : Int) (znm : ByteArray) (zcon : Int) (zfa : Option Addr) (zfl zfc : Nat) (zla : Option Addr) (zll zlc : Nat) (zra : Option Addr) (zrl zrc : Nat) (K J : Nat → Hd) (w : World) (hE : EnvM bm bs bM bF bL w) (t : Top w (Off bm) A ⟨hk, hnm, hcon, hfa, hfl, hfc, hla, hll, hlc, hra, hrl, hrc⟩ K) (u : Top w (Off bm) B ⟨gk, gnm, gcon, gfa, gfl, gfc, gla, gll, glc, gra, grl, grc⟩ J) (hh : ∀ i X, A.kids[i]? = some X → Lies w (Off bm) R X (K i)) (hg : ∀ i X, B.kids[i]? = some X → Lies w (Off bm) R' X (J i))
    (sa : ∀ (i : Nat) (X : Ty), A.kids[i]? = some X → (look r X).2.2 = true) (sb : ∀ (i : Nat) (X : Ty), B.kids[i]? = some X → (look r X).2.2 = true) (fa : A.kids.length ≤ 17) (fb : B.kids.length ≤ 17) (hbm : bm < w.heap.size) (st : StM bm L σ w) (n : Nat) (fS : ByteArray → Option Value) (hM : MapIs w Try.prog 9 bm n fS) (hu : (fS hnm).getD hd0.val = Hd.val ⟨zk, znm, zcon, zfa, zfl, zfc, zla, zll, zlc, zra, zrl, zrc⟩) (hok : (fS hnm).isSome = true) (hx : hk ≠ 12) (eK : hk ≠ gk) :
    Calls Try.prog 51 #[Hd.val ⟨hk, hnm, hcon, hfa, hfl, hfc, hla, hll, hlc, hra, hrl, hrc⟩, Hd.val ⟨gk, gnm, gcon, gfa, gfl, gfc, gla, gll, glc, gra, grl, grc⟩, .pointer (some ⟨bs, 0, none⟩), .pointer (some ⟨bF, 0, none⟩), .pointer (some ⟨bL, 0, none⟩)] w (MP bm L (partsV L r σ A B) w) := by
  have HM := Lib.hid hM
  have HU := Lib.hid hu
  have HOK := Lib.hid hok
  have HSZ := Lib.hid (show hnm.size ≤ maxLen by have := t.rn; simp only at this; unfold maxLen; omega)
  have ST := Lib.hid st
  have KW0 := Lib.hid (show Kp w (((w.alloc (.cells #[.int .i64 hk, .string hnm, .int .i64 hcon, .slice hfa hfl hfc, .slice hla hll hlc, .slice hra hrl hrc] 42)).alloc (.cells #[.int .i64 gk, .string gnm, .int .i64 gcon, .slice gfa gfl gfc, .slice gla gll glc, .slice gra grl grc] 42)).alloc (.cells #[.int .i64 zk, .string znm, .int .i64 zcon, .slice zfa zfl zfc, .slice zla zll zlc, .slice zra zrl zrc] 42)) from (((Kp.refl w).alloc _).alloc _).alloc _)
  have cs := hE.cs
  have cF := hE.cF
  have cL := hE.cL
  have bsl : bs < w.heap.size := lt_of_cell cs
  have bFl : bF < w.heap.size := lt_of_cell cF
  have bLl : bL < w.heap.size := lt_of_cell cL
  obtain ⟨bs1, bs2, bs3⟩ : bs < w.heap.size + 1 ∧ bs < w.heap.size + 1 + 1 ∧ bs < w.heap.size + 1 + 1 + 1 := ⟨by omega, by omega, by omega⟩
  obtain ⟨bF1, bF2, bF3'⟩ : bF < w.heap.size + 1 ∧ bF < w.heap.size + 1 + 1 ∧ bF < w.heap.size + 1 + 1 + 1 := ⟨by omega, by omega, by omega⟩
  obtain ⟨bL1, bL2, bL3'⟩ : bL < w.heap.size + 1 ∧ bL < w.heap.size + 1 + 1 ∧ bL < w.heap.size + 1 + 1 + 1 := ⟨by omega, by omega, by omega⟩
  have HB : Hid (∀ W, Mk bm (((w.alloc (.cells #[.int .i64 hk, .string hnm, .int .i64 hcon, .slice hfa hfl hfc, .slice hla hll hlc, .slice hra hrl hrc] 42)).alloc (.cells #[.int .i64 gk, .string gnm, .int .i64 gcon, .slice gfa gfl gfc, .slice gla gll glc, .slice gra grl grc] 42)).alloc (.cells #[.int .i64 zk, .string znm, .int .i64 zcon, .slice zfa zfl zfc, .slice zla zll zlc, .slice zra zrl zrc] 42)) W → W.cell? ⟨bF, 0, none⟩ = some (.func (.func 49) #[] #[.pointer (some ⟨bM, 0, none⟩)]) ∧ W.cell? ⟨bL, 0, none⟩ = some (.func (.func 50) #[] #[.pointer (some ⟨bM, 0, none⟩)]) ∧ W.cell? ⟨w.heap.size, 0, none⟩ = some (.int .i64 hk) ∧ W.cell? ⟨w.heap.size, 1, none⟩ = some (.string hnm) ∧ W.cell? ⟨w.heap.size, 2, none⟩ = some (.int .i64 hcon) ∧ W.cell? ⟨w.heap.size, 3, none⟩ = some (.slice hfa hfl hfc) ∧ W.cell? ⟨w.heap.size, 4, none⟩ = some (.slice hla hll hlc) ∧ W.cell? ⟨w.heap.size, 5, none⟩ = some (.slice hra hrl hrc) ∧ W.cell? ⟨w.heap.size + 1, 0, none⟩ = some (.int .i64 gk) ∧ W.cell? ⟨w.heap.size + 1, 1, none⟩ = some (.string gnm) ∧ W.cell? ⟨w.heap.size + 1, 2, none⟩ = some (.int .i64 gcon) ∧ W.cell? ⟨w.heap.size + 1, 3, none⟩ = some (.slice gfa gfl gfc) ∧ W.cell? ⟨w.heap.size + 1, 4, none⟩ = some (.slice gla gll glc) ∧ W.cell? ⟨w.heap.size + 1, 5, none⟩ = some (.slice gra grl grc)) := Lib.hid (fun W km => by
    obtain ⟨p0, p1, p2, p3, p4, p5, ps⟩ := boxed (h := ⟨hk, hnm, hcon, hfa, hfl, hfc, hla, hll, hlc, hra, hrl, hrc⟩) (show Kp (w.alloc (.cells #[.int .i64 hk, .string hnm, .int .i64 hcon, .slice hfa hfl hfc, .slice hla hll hlc, .slice hra hrl hrc] 42)) (((w.alloc (.cells #[.int .i64 hk, .string hnm, .int .i64 hcon, .slice hfa hfl hfc, .slice hla hll hlc, .slice hra hrl hrc] 42)).alloc (.cells #[.int .i64 gk, .string gnm, .int .i64 gcon, .slice gfa gfl gfc, .slice gla gll glc, .slice gra grl grc] 42)).alloc (.cells #[.int .i64 zk, .string znm, .int .i64 zcon, .slice zfa zfl zfc, .slice zla zll zlc, .slice zra zrl zrc] 42)) from ((Kp.refl _).alloc _).alloc _)
    obtain ⟨q0, q1, q2, q3, q4, q5, qs⟩ := boxed (h := ⟨gk, gnm, gcon, gfa, gfl, gfc, gla, gll, glc, gra, grl, grc⟩) (show Kp ((w.alloc (.cells #[.int .i64 hk, .string hnm, .int .i64 hcon, .slice hfa hfl hfc, .slice hla hll hlc, .slice hra hrl hrc] 42)).alloc (.cells #[.int .i64 gk, .string gnm, .int .i64 gcon, .slice gfa gfl gfc, .slice gla gll glc, .slice gra grl grc] 42)) (((w.alloc (.cells #[.int .i64 hk, .string hnm, .int .i64 hcon, .slice hfa hfl hfc, .slice hla hll hlc, .slice hra hrl hrc] 42)).alloc (.cells #[.int .i64 gk, .string gnm, .int .i64 gcon, .slice gfa gfl gfc, .slice gla gll glc, .slice gra grl grc] 42)).alloc (.cells #[.int .i64 zk, .string znm, .int .i64 zcon, .slice zfa zfl zfc, .slice zla zll zlc, .slice zra zrl zrc] 42)) from (Kp.refl _).alloc _)
    simp only [World.size_alloc] at q0 q1 q2 q3 q4 q5
    have n1 : w.heap.size ≠ bm := by omega
    have n2 : w.heap.size + 1 ≠ bm := by omega
    exact ⟨km.cellv (KW0.out.cellv hE.cF) hE.nF, km.cellv (KW0.out.cellv hE.cL) hE.nL, km.cellv p0 n1, km.cellv p1 n1, km.cellv p2 n1, km.cellv p3 n1, km.cellv p4 n1, km.cellv p5 n1, km.cellv q0 n2, km.cellv q1 n2, km.cellv q2 n2, km.cellv q3 n2, km.cellv q4 n2, km.cellv q5 n2⟩)
  obtain ⟨y1, y2, y3, y4⟩ := parts_len t
  obtain ⟨z1, z2, z3, z4⟩ := parts_len u
  simp only at y1 y2 y3 y4 z1 z2 z3 z4
  have CF := Lib.hid (fun W (km : Mk bm w W) (hs : StM bm L σ W) => c_fieldsW bm bs bM bF bL L r R R' ih σ A.fn B.fn (fA A) (fA B) y1 z1 hfl gfl y4 z4 hfa gfa hfc gfc K J W (hE.turn km) (t.tf.mk km) (fun i X hX => (hh i X (fA_at hX)).mk km) (u.tf.mk km) (fun i X hX => (hg i X (fA_at hX)).mk km) (fun i X hX => sa i X (fA_at hX)) (fun i X hX => sb i X (fA_at hX)) (by have := t.es; simp only at this; omega) (Nat.lt_of_lt_of_le hbm km.sz) hs)
  have CL0 := Lib.hid (fun (σ1 : St) W (km : Mk bm w W) (hs : StM bm L σ1 W) => c_listV bm bs bM bF bL L r R R' ih σ1 (lA A) (lA B) hll gll y2 z2 hla gla hlc glc (fun i => K (hfl + i)) (fun i => J (gfl + i)) W (hE.turn km) (t.tl.mk km) (fun i X hX => (hh _ X (y4 ▸ lA_at hX)).mk km) (u.tl.mk km) (fun i X hX => (hg _ X (z4 ▸ lA_at hX)).mk km) (fun i X hX => sa _ X (lA_at hX)) (fun i X hX => sb _ X (lA_at hX)) (by have := t.es; simp only at this; omega) (Nat.lt_of_lt_of_le hbm km.sz) hs)
  have ea : A.nl = hll := t.el
  have eb : B.nl = gll := u.el
  have CR0 := Lib.hid (fun (σ1 : St) W (km : Mk bm w W) (hs : StM bm L σ1 W) => c_listV bm bs bM bF bL L r R R' ih σ1 (rA A) (rA B) hrl grl y3 z3 hra gra hrc grc (fun i => K (hfl + hll + i)) (fun i => J (gfl + gll + i)) W (hE.turn km) (t.tr.mk km) (fun i X hX => (hh _ X (by have := rA_at hX; rwa [y4, ea] at this)).mk km) (u.tr.mk km) (fun i X hX => (hg _ X (by have := rA_at hX; rwa [z4, eb] at this)).mk km) (fun i X hX => sa _ X (rA_at hX)) (fun i X hX => sb _ X (rA_at hX)) (by have := t.es; simp only at this; omega) (Nat.lt_of_lt_of_le hbm km.sz) hs)
  have ek1 : A.k = hk := t.ek
  have en1 : A.nm = hnm := t.en
  have ec1 : A.con = hcon := t.ec
  have ek2 : B.k = gk := u.ek
  have en2 : B.nm = gnm := u.en
  have ec2 : B.con = gcon := u.ec
  have TOP := Lib.hid (show (A.k = B.k ∧ A.nm = B.nm ∧ A.con = B.con) ↔ (hk = gk ∧ hnm = gnm ∧ hcon = gcon) by rw [ek1, en1, ec1, ek2, en2, ec2])
  clear hM hu hok t u hh hg sa sb st ih hE y1 y2 y3 y4 z1 z2 z3 z4 ea eb ek1 en1 ec1 ek2 en2 ec2
  have b0 : (hk != 12) = true := bne_iff_ne.2 hx
  clear hx
  have HN := Lib.hid (pv_top (L := L) (r := r) (σ := σ) (A := A) (B := B) (fun e => eK (TOP.out.1 e).1))
  have b1 : (hk == gk) = false := beq_false_of_ne eK
  clear eK
  go_enter Try.func51, Try.ntmps51
  go_wp2_with (first | ((with_reducible show wpList _ _ _ (⟨some 16, _, _, _, _, _⟩ :: _) _ _); refine wpList_map_ok (d := 16) _ _ 66 9 42 rfl Try.underlying9 Try.underlying66 _ (zeroY) bm n fS (by rfl) (((HM.out.alloc _).alloc _)) hnm (by rfl) HSZ.out (⟨zk, znm, zcon, zfa, zfl, zfc, zla, zll, zlc, zra, zrl, zrc⟩ : Hd).val HU.out true HOK.out ?_))
  go_ret
  exact ⟨KW0.out.mk, .inl ⟨HN.out, rfl⟩⟩
set_option maxHeartbeats 6400000 in
set_option maxRecDepth 100000 in
theorem me_nb (bm bs bM bF bL : Nat) (L : List ByteArray) (r R R' : Nat) (ih : IHm bm bs bM bF bL L r R R') (σ : St) (A B : Ty) (hk : Int) (hnm : ByteArray) (hcon : Int) (hfa : Option Addr) (hfl hfc : Nat) (hla : Option Addr) (hll hlc : Nat) (hra : Option Addr) (hrl hrc : Nat) (gk : Int) (gnm : ByteArray) (gcon : Int) (gfa : Option Addr) (gfl gfc : Nat) (gla : Option Addr) (gll glc : Nat) (gra : Option Addr) (grl grc : Nat)
    (zk : Int) (znm : ByteArray) (zcon : Int) (zfa : Option Addr) (zfl zfc : Nat) (zla : Option Addr) (zll zlc : Nat) (zra : Option Addr) (zrl zrc : Nat) (K J : Nat → Hd) (w : World) (hE : EnvM bm bs bM bF bL w) (t : Top w (Off bm) A ⟨hk, hnm, hcon, hfa, hfl, hfc, hla, hll, hlc, hra, hrl, hrc⟩ K) (u : Top w (Off bm) B ⟨gk, gnm, gcon, gfa, gfl, gfc, gla, gll, glc, gra, grl, grc⟩ J) (hh : ∀ i X, A.kids[i]? = some X → Lies w (Off bm) R X (K i)) (hg : ∀ i X, B.kids[i]? = some X → Lies w (Off bm) R' X (J i))
    (sa : ∀ (i : Nat) (X : Ty), A.kids[i]? = some X → (look r X).2.2 = true) (sb : ∀ (i : Nat) (X : Ty), B.kids[i]? = some X → (look r X).2.2 = true) (fa : A.kids.length ≤ 17) (fb : B.kids.length ≤ 17) (hbm : bm < w.heap.size) (st : StM bm L σ w) (n : Nat) (fS : ByteArray → Option Value) (hM : MapIs w Try.prog 9 bm n fS) (hu : (fS hnm).getD hd0.val = Hd.val ⟨zk, znm, zcon, zfa, zfl, zfc, zla, zll, zlc, zra, zrl, zrc⟩) (hok : (fS hnm).isSome = true) (hx : hk ≠ 12) (eK : hk = gk) (eN : hnm ≠ gnm) :
    Calls Try.prog 51 #[Hd.val ⟨hk, hnm, hcon, hfa, hfl, hfc, hla, hll, hlc, hra, hrl, hrc⟩, Hd.val ⟨gk, gnm, gcon, gfa, gfl, gfc, gla, gll, glc, gra, grl, grc⟩, .pointer (some ⟨bs, 0, none⟩), .pointer (some ⟨bF, 0, none⟩), .pointer (some ⟨bL, 0, none⟩)] w (MP bm L (partsV L r σ A B) w) := by
  have HM := Lib.hid hM
  have HU := Lib.hid hu
  have HOK := Lib.hid hok
  have HSZ := Lib.hid (show hnm.size ≤ maxLen by have := t.rn; simp only at this; unfold maxLen; omega)
  have ST := Lib.hid st
  have KW0 := Lib.hid (show Kp w (((w.alloc (.cells #[.int .i64 hk, .string hnm, .int .i64 hcon, .slice hfa hfl hfc, .slice hla hll hlc, .slice hra hrl hrc] 42)).alloc (.cells #[.int .i64 gk, .string gnm, .int .i64 gcon, .slice gfa gfl gfc, .slice gla gll glc, .slice gra grl grc] 42)).alloc (.cells #[.int .i64 zk, .string znm, .int .i64 zcon, .slice zfa zfl zfc, .slice zla zll zlc, .slice zra zrl zrc] 42)) from (((Kp.refl w).alloc _).alloc _).alloc _)
  have cs := hE.cs
  have cF := hE.cF
  have cL := hE.cL
  have bsl : bs < w.heap.size := lt_of_cell cs
  have bFl : bF < w.heap.size := lt_of_cell cF
  have bLl : bL < w.heap.size := lt_of_cell cL
  obtain ⟨bs1, bs2, bs3⟩ : bs < w.heap.size + 1 ∧ bs < w.heap.size + 1 + 1 ∧ bs < w.heap.size + 1 + 1 + 1 := ⟨by omega, by omega, by omega⟩
  obtain ⟨bF1, bF2, bF3'⟩ : bF < w.heap.size + 1 ∧ bF < w.heap.size + 1 + 1 ∧ bF < w.heap.size + 1 + 1 + 1 := ⟨by omega, by omega, by omega⟩
  obtain ⟨bL1, bL2, bL3'⟩ : bL < w.heap.size + 1 ∧ bL < w.heap.size + 1 + 1 ∧ bL < w.heap.size + 1 + 1 + 1 := ⟨by omega, by omega, by omega⟩
  have HB : Hid (∀ W, Mk bm (((w.alloc (.cells #[.int .i64 hk, .string hnm, .int .i64 hcon, .slice hfa hfl hfc, .slice hla hll hlc, .slice hra hrl hrc] 42)).alloc (.cells #[.int .i64 gk, .string gnm, .int .i64 gcon, .slice gfa gfl gfc, .slice gla gll glc, .slice gra grl grc] 42)).alloc (.cells #[.int .i64 zk, .string znm, .int .i64 zcon, .slice zfa zfl zfc, .slice zla zll zlc, .slice zra zrl zrc] 42)) W → W.cell? ⟨bF, 0, none⟩ = some (.func (.func 49) #[] #[.pointer (some ⟨bM, 0, none⟩)]) ∧ W.cell? ⟨bL, 0, none⟩ = some (.func (.func 50) #[] #[.pointer (some ⟨bM, 0, none⟩)]) ∧ W.cell? ⟨w.heap.size, 0, none⟩ = some (.int .i64 hk) ∧ W.cell? ⟨w.heap.size, 1, none⟩ = some (.string hnm) ∧ W.cell? ⟨w.heap.size, 2, none⟩ = some (.int .i64 hcon) ∧ W.cell? ⟨w.heap.size, 3, none⟩ = some (.slice hfa hfl hfc) ∧ W.cell? ⟨w.heap.size, 4, none⟩ = some (.slice hla hll hlc) ∧ W.cell? ⟨w.heap.size, 5, none⟩ = some (.slice hra hrl hrc) ∧ W.cell? ⟨w.heap.size + 1, 0, none⟩ = some (.int .i64 gk) ∧ W.cell? ⟨w.heap.size + 1, 1, none⟩ = some (.string gnm) ∧ W.cell? ⟨w.heap.size + 1, 2, none⟩ = some (.int .i64 gcon) ∧ W.cell? ⟨w.heap.size + 1, 3, none⟩ = some (.slice gfa gfl gfc) ∧ W.cell? ⟨w.heap.size + 1, 4, none⟩ = some (.slice gla gll glc) ∧ W.cell? ⟨w.heap.size + 1, 5, none⟩ = some (.slice gra grl grc)) := Lib.hid (fun W km => by
    obtain ⟨p0, p1, p2, p3, p4, p5, ps⟩ := boxed (h := ⟨hk, hnm, hcon, hfa, hfl, hfc, hla, hll, hlc, hra, hrl, hrc⟩) (show Kp (w.alloc (.cells #[.int .i64 hk, .string hnm, .int .i64 hcon, .slice hfa hfl hfc, .slice hla hll hlc, .slice hra hrl hrc] 42)) (((w.alloc (.cells #[.int .i64 hk, .string hnm, .int .i64 hcon, .slice hfa hfl hfc, .slice hla hll hlc, .slice hra hrl hrc] 42)).alloc (.cells #[.int .i64 gk, .string gnm, .int .i64 gcon, .slice gfa gfl gfc, .slice gla gll glc, .slice gra grl grc] 42)).alloc (.cells #[.int .i64 zk, .string znm, .int .i64 zcon, .slice zfa zfl zfc, .slice zla zll zlc, .slice zra zrl zrc] 42)) from ((Kp.refl _).alloc _).alloc _)
    obtain ⟨q0, q1, q2, q3, q4, q5, qs⟩ := boxed (h := ⟨gk, gnm, gcon, gfa, gfl, gfc, gla, gll, glc, gra, grl, grc⟩) (show Kp ((w.alloc (.cells #[.int .i64 hk, .string hnm, .int .i64 hcon, .slice hfa hfl hfc, .slice hla hll hlc, .slice hra hrl hrc] 42)).alloc (.cells #[.int .i64 gk, .string gnm, .int .i64 gcon, .slice gfa gfl gfc, .slice gla gll glc, .slice gra grl grc] 42)) (((w.alloc (.cells #[.int .i64 hk, .string hnm, .int .i64 hcon, .slice hfa hfl hfc, .slice hla hll hlc, .slice hra hrl hrc] 42)).alloc (.cells #[.int .i64 gk, .string gnm, .int .i64 gcon, .slice gfa gfl gfc, .slice gla gll glc, .slice gra grl grc] 42)).alloc (.cells #[.int .i64 zk, .string znm, .int .i64 zcon, .slice zfa zfl zfc, .slice zla zll zlc, .slice zra zrl zrc] 42)) from (Kp.refl _).alloc _)
    simp only [World.size_alloc] at q0 q1 q2 q3 q4 q5
    have n1 : w.heap.size ≠ bm := by omega
    have n2 : w.heap.size + 1 ≠ bm := by omega
    exact ⟨km.cellv (KW0.out.cellv hE.cF) hE.nF, km.cellv (KW0.out.cellv hE.cL) hE.nL, km.cellv p0 n1, km.cellv p1 n1, km.cellv p2 n1, km.cellv p3 n1, km.cellv p4 n1, km.cellv p5 n1, km.cellv q0 n2, km.cellv q1 n2, km.cellv q2 n2, km.cellv q3 n2, km.cellv q4 n2, km.cellv q5 n2⟩)
  obtain ⟨y1, y2, y3, y4⟩ := parts_len t
  obtain ⟨z1, z2, z3, z4⟩ := parts_len u
  simp only at y1 y2 y3 y4 z1 z2 z3 z4
  have CF := Lib.hid (fun W (km : Mk bm w W) (hs : StM bm L σ W) => c_fieldsW bm bs bM bF bL L r R R' ih σ A.fn B.fn (fA A) (fA B) y1 z1 hfl gfl y4 z4 hfa gfa hfc gfc K J W (hE.turn km) (t.tf.mk km) (fun i X hX => (hh i X (fA_at hX)).mk km) (u.tf.mk km) (fun i X hX => (hg i X (fA_at hX)).mk km) (fun i X hX => sa i X (fA_at hX)) (fun i X hX => sb i X (fA_at hX)) (by have := t.es; simp only at this; omega) (Nat.lt_of_lt_of_le hbm km.sz) hs)
  have CL0 := Lib.hid (fun (σ1 : St) W (km : Mk bm w W) (hs : StM bm L σ1 W) => c_listV bm bs bM bF bL L r R R' ih σ1 (lA A) (lA B) hll gll y2 z2 hla gla hlc glc (fun i => K (hfl + i)) (fun i => J (gfl + i)) W (hE.turn km) (t.tl.mk km) (fun i X hX => (hh _ X (y4 ▸ lA_at hX)).mk km) (u.tl.mk km) (fun i X hX => (hg _ X (z4 ▸ lA_at hX)).mk km) (fun i X hX => sa _ X (lA_at hX)) (fun i X hX => sb _ X (lA_at hX)) (by have := t.es; simp only at this; omega) (Nat.lt_of_lt_of_le hbm km.sz) hs)
  have ea : A.nl = hll := t.el
  have eb : B.nl = gll := u.el
  have CR0 := Lib.hid (fun (σ1 : St) W (km : Mk bm w W) (hs : StM bm L σ1 W) => c_listV bm bs bM bF bL L r R R' ih σ1 (rA A) (rA B) hrl grl y3 z3 hra gra hrc grc (fun i => K (hfl + hll + i)) (fun i => J (gfl + gll + i)) W (hE.turn km) (t.tr.mk km) (fun i X hX => (hh _ X (by have := rA_at hX; rwa [y4, ea] at this)).mk km) (u.tr.mk km) (fun i X hX => (hg _ X (by have := rA_at hX; rwa [z4, eb] at this)).mk km) (fun i X hX => sa _ X (rA_at hX)) (fun i X hX => sb _ X (rA_at hX)) (by have := t.es; simp only at this; omega) (Nat.lt_of_lt_of_le hbm km.sz) hs)
  have ek1 : A.k = hk := t.ek
  have en1 : A.nm = hnm := t.en
  have ec1 : A.con = hcon := t.ec
  have ek2 : B.k = gk := u.ek
  have en2 : B.nm = gnm := u.en
  have ec2 : B.con = gcon := u.ec
  have TOP := Lib.hid (show (A.k = B.k ∧ A.nm = B.nm ∧ A.con = B.con) ↔ (hk = gk ∧ hnm = gnm ∧ hcon = gcon) by rw [ek1, en1, ec1, ek2, en2, ec2])
  clear hM hu hok t u hh hg sa sb st ih hE y1 y2 y3 y4 z1 z2 z3 z4 ea eb ek1 en1 ec1 ek2 en2 ec2
  have b0 : (hk != 12) = true := bne_iff_ne.2 hx
  clear hx
  have HN := Lib.hid (pv_top (L := L) (r := r) (σ := σ) (A := A) (B := B) (fun e => eN (TOP.out.1 e).2.1))
  have b1 : (hk == gk) = true := by (rw [eK]; simp)
  have b2 : (hnm.toList == gnm.toList) = false := (same_or hnm gnm).elim (fun q => absurd q.1 eN) (fun q => q.2)
  clear eK eN
  go_enter Try.func51, Try.ntmps51
  go_wp2_with (first | ((with_reducible show wpList _ _ _ (⟨some 16, _, _, _, _, _⟩ :: _) _ _); refine wpList_map_ok (d := 16) _ _ 66 9 42 rfl Try.underlying9 Try.underlying66 _ (zeroY) bm n fS (by rfl) (((HM.out.alloc _).alloc _)) hnm (by rfl) HSZ.out (⟨zk, znm, zcon, zfa, zfl, zfc, zla, zll, zlc, zra, zrl, zrc⟩ : Hd).val HU.out true HOK.out ?_))
  go_ret
  exact ⟨KW0.out.mk, .inl ⟨HN.out, rfl⟩⟩
set_option maxHeartbeats 6400000 in
set_option maxRecDepth 100000 in
theorem me_cb (bm bs bM bF bL : Nat) (L : List ByteArray) (r R R' : Nat) (ih : IHm bm bs bM bF bL L r R R') (σ : St) (A B : Ty) (hk : Int) (hnm : ByteArray) (hcon : Int) (hfa : Option Addr) (hfl hfc : Nat) (hla : Option Addr) (hll hlc : Nat) (hra : Option Addr) (hrl hrc : Nat) (gk : Int) (gnm : ByteArray) (gcon : Int) (gfa : Option Addr) (gfl gfc : Nat) (gla : Option Addr) (gll glc : Nat) (gra : Option Addr) (grl grc : Nat)
    (zk : Int) (znm : ByteArray) (zcon : Int) (zfa : Option Addr) (zfl zfc : Nat) (zla : Option Addr) (zll zlc : Nat) (zra : Option Addr) (zrl zrc : Nat) (K J : Nat → Hd) (w : World) (hE : EnvM bm bs bM bF bL w) (t : Top w (Off bm) A ⟨hk, hnm, hcon, hfa, hfl, hfc, hla, hll, hlc, hra, hrl, hrc⟩ K) (u : Top w (Off bm) B ⟨gk, gnm, gcon, gfa, gfl, gfc, gla, gll, glc, gra, grl, grc⟩ J) (hh : ∀ i X, A.kids[i]? = some X → Lies w (Off bm) R X (K i)) (hg : ∀ i X, B.kids[i]? = some X → Lies w (Off bm) R' X (J i))
    (sa : ∀ (i : Nat) (X : Ty), A.kids[i]? = some X → (look r X).2.2 = true) (sb : ∀ (i : Nat) (X : Ty), B.kids[i]? = some X → (look r X).2.2 = true) (fa : A.kids.length ≤ 17) (fb : B.kids.length ≤ 17) (hbm : bm < w.heap.size) (st : StM bm L σ w) (n : Nat) (fS : ByteArray → Option Value) (hM : MapIs w Try.prog 9 bm n fS) (hu : (fS hnm).getD hd0.val = Hd.val ⟨zk, znm, zcon, zfa, zfl, zfc, zla, zll, zlc, zra, zrl, zrc⟩) (hok : (fS hnm).isSome = true) (hx : hk ≠ 12) (eK : hk = gk) (eN : hnm = gnm) (eC : hcon ≠ gcon) :
    Calls Try.prog 51 #[Hd.val ⟨hk, hnm, hcon, hfa, hfl, hfc, hla, hll, hlc, hra, hrl, hrc⟩, Hd.val ⟨gk, gnm, gcon, gfa, gfl, gfc, gla, gll, glc, gra, grl, grc⟩, .pointer (some ⟨bs, 0, none⟩), .pointer (some ⟨bF, 0, none⟩), .pointer (some ⟨bL, 0, none⟩)] w (MP bm L (partsV L r σ A B) w) := by
  have HM := Lib.hid hM
  have HU := Lib.hid hu
  have HOK := Lib.hid hok
  have HSZ := Lib.hid (show hnm.size ≤ maxLen by have := t.rn; simp only at this; unfold maxLen; omega)
  have ST := Lib.hid st
  have KW0 := Lib.hid (show Kp w (((w.alloc (.cells #[.int .i64 hk, .string hnm, .int .i64 hcon, .slice hfa hfl hfc, .slice hla hll hlc, .slice hra hrl hrc] 42)).alloc (.cells #[.int .i64 gk, .string gnm, .int .i64 gcon, .slice gfa gfl gfc, .slice gla gll glc, .slice gra grl grc] 42)).alloc (.cells #[.int .i64 zk, .string znm, .int .i64 zcon, .slice zfa zfl zfc, .slice zla zll zlc, .slice zra zrl zrc] 42)) from (((Kp.refl w).alloc _).alloc _).alloc _)
  have cs := hE.cs
  have cF := hE.cF
  have cL := hE.cL
  have bsl : bs < w.heap.size := lt_of_cell cs
  have bFl : bF < w.heap.size := lt_of_cell cF
  have bLl : bL < w.heap.size := lt_of_cell cL
  obtain ⟨bs1, bs2, bs3⟩ : bs < w.heap.size + 1 ∧ bs < w.heap.size + 1 + 1 ∧ bs < w.heap.size + 1 + 1 + 1 := ⟨by omega, by omega, by omega⟩
  obtain ⟨bF1, bF2, bF3'⟩ : bF < w.heap.size + 1 ∧ bF < w.heap.size + 1 + 1 ∧ bF < w.heap.size + 1 + 1 + 1 := ⟨by omega, by omega, by omega⟩
  obtain ⟨bL1, bL2, bL3'⟩ : bL < w.heap.size + 1 ∧ bL < w.heap.size + 1 + 1 ∧ bL < w.heap.size + 1 + 1 + 1 := ⟨by omega, by omega, by omega⟩
  have HB : Hid (∀ W, Mk bm (((w.alloc (.cells #[.int .i64 hk, .string hnm, .int .i64 hcon, .slice hfa hfl hfc, .slice hla hll hlc, .slice hra hrl hrc] 42)).alloc (.cells #[.int .i64 gk, .string gnm, .int .i64 gcon, .slice gfa gfl gfc, .slice gla gll glc, .slice gra grl grc] 42)).alloc (.cells #[.int .i64 zk, .string znm, .int .i64 zcon, .slice zfa zfl zfc, .slice zla zll zlc, .slice zra zrl zrc] 42)) W → W.cell? ⟨bF, 0, none⟩ = some (.func (.func 49) #[] #[.pointer (some ⟨bM, 0, none⟩)]) ∧ W.cell? ⟨bL, 0, none⟩ = some (.func (.func 50) #[] #[.pointer (some ⟨bM, 0, none⟩)]) ∧ W.cell? ⟨w.heap.size, 0, none⟩ = some (.int .i64 hk) ∧ W.cell? ⟨w.heap.size, 1, none⟩ = some (.string hnm) ∧ W.cell? ⟨w.heap.size, 2, none⟩ = some (.int .i64 hcon) ∧ W.cell? ⟨w.heap.size, 3, none⟩ = some (.slice hfa hfl hfc) ∧ W.cell? ⟨w.heap.size, 4, none⟩ = some (.slice hla hll hlc) ∧ W.cell? ⟨w.heap.size, 5, none⟩ = some (.slice hra hrl hrc) ∧ W.cell? ⟨w.heap.size + 1, 0, none⟩ = some (.int .i64 gk) ∧ W.cell? ⟨w.heap.size + 1, 1, none⟩ = some (.string gnm) ∧ W.cell? ⟨w.heap.size + 1, 2, none⟩ = some (.int .i64 gcon) ∧ W.cell? ⟨w.heap.size + 1, 3, none⟩ = some (.slice gfa gfl gfc) ∧ W.cell? ⟨w.heap.size + 1, 4, none⟩ = some (.slice gla gll glc) ∧ W.cell? ⟨w.heap.size + 1, 5, none⟩ = some (.slice gra grl grc)) := Lib.hid (fun W km => by
    obtain ⟨p0, p1, p2, p3, p4, p5, ps⟩ := boxed (h := ⟨hk, hnm, hcon, hfa, hfl, hfc, hla, hll, hlc, hra, hrl, hrc⟩) (show Kp (w.alloc (.cells #[.int .i64 hk, .string hnm, .int .i64 hcon, .slice hfa hfl hfc, .slice hla hll hlc, .slice hra hrl hrc] 42)) (((w.alloc (.cells #[.int .i64 hk, .string hnm, .int .i64 hcon, .slice hfa hfl hfc, .slice hla hll hlc, .slice hra hrl hrc] 42)).alloc (.cells #[.int .i64 gk, .string gnm, .int .i64 gcon, .slice gfa gfl gfc, .slice gla gll glc, .slice gra grl grc] 42)).alloc (.cells #[.int .i64 zk, .string znm, .int .i64 zcon, .slice zfa zfl zfc, .slice zla zll zlc, .slice zra zrl zrc] 42)) from ((Kp.refl _).alloc _).alloc _)
    obtain ⟨q0, q1, q2, q3, q4, q5, qs⟩ := boxed (h := ⟨gk, gnm, gcon, gfa, gfl, gfc, gla, gll, glc, gra, grl, grc⟩) (show Kp ((w.alloc (.cells #[.int .i64 hk, .string hnm, .int .i64 hcon, .slice hfa hfl hfc, .slice hla hll hlc, .slice hra hrl hrc] 42)).alloc (.cells #[.int .i64 gk, .string gnm, .int .i64 gcon, .slice gfa gfl gfc, .slice gla gll glc, .slice gra grl grc] 42)) (((w.alloc (.cells #[.int .i64 hk, .string hnm, .int .i64 hcon, .slice hfa hfl hfc, .slice hla hll hlc, .slice hra hrl hrc] 42)).alloc (.cells #[.int .i64 gk, .string gnm, .int .i64 gcon, .slice gfa gfl gfc, .slice gla gll glc, .slice gra grl grc] 42)).alloc (.cells #[.int .i64 zk, .string znm, .int .i64 zcon, .slice zfa zfl zfc, .slice zla zll zlc, .slice zra zrl zrc] 42)) from (Kp.refl _).alloc _)
    simp only [World.size_alloc] at q0 q1 q2 q3 q4 q5
    have n1 : w.heap.size ≠ bm := by omega
    have n2 : w.heap.size + 1 ≠ bm := by omega
    exact ⟨km.cellv (KW0.out.cellv hE.cF) hE.nF, km.cellv (KW0.out.cellv hE.cL) hE.nL, km.cellv p0 n1, km.cellv p1 n1, km.cellv p2 n1, km.cellv p3 n1, km.cellv p4 n1, km.cellv p5 n1, km.cellv q0 n2, km.cellv q1 n2, km.cellv q2 n2, km.cellv q3 n2, km.cellv q4 n2, km.cellv q5 n2⟩)
  obtain ⟨y1, y2, y3, y4⟩ := parts_len t
  obtain ⟨z1, z2, z3, z4⟩ := parts_len u
  simp only at y1 y2 y3 y4 z1 z2 z3 z4
  have CF := Lib.hid (fun W (km : Mk bm w W) (hs : StM bm L σ W) => c_fieldsW bm bs bM bF bL L r R R' ih σ A.fn B.fn (fA A) (fA B) y1 z1 hfl gfl y4 z4 hfa gfa hfc gfc K J W (hE.turn km) (t.tf.mk km) (fun i X hX => (hh i X (fA_at hX)).mk km) (u.tf.mk km) (fun i X hX => (hg i X (fA_at hX)).mk km) (fun i X hX => sa i X (fA_at hX)) (fun i X hX => sb i X (fA_at hX)) (by have := t.es; simp only at this; omega) (Nat.lt_of_lt_of_le hbm km.sz) hs)
  have CL0 := Lib.hid (fun (σ1 : St) W (km : Mk bm w W) (hs : StM bm L σ1 W) => c_listV bm bs bM bF bL L r R R' ih σ1 (lA A) (lA B) hll gll y2 z2 hla gla hlc glc (fun i => K (hfl + i)) (fun i => J (gfl + i)) W (hE.turn km) (t.tl.mk km) (fun i X hX => (hh _ X (y4 ▸ lA_at hX)).mk km) (u.tl.mk km) (fun i X hX => (hg _ X (z4 ▸ lA_at hX)).mk km) (fun i X hX => sa _ X (lA_at hX)) (fun i X hX => sb _ X (lA_at hX)) (by have := t.es; simp only at this; omega) (Nat.lt_of_lt_of_le hbm km.sz) hs)
  have ea : A.nl = hll := t.el
  have eb : B.nl = gll := u.el
  have CR0 := Lib.hid (fun (σ1 : St) W (km : Mk bm w W) (hs : StM bm L σ1 W) => c_listV bm bs bM bF bL L r R R' ih σ1 (rA A) (rA B) hrl grl y3 z3 hra gra hrc grc (fun i => K (hfl + hll + i)) (fun i => J (gfl + gll + i)) W (hE.turn km) (t.tr.mk km) (fun i X hX => (hh _ X (by have := rA_at hX; rwa [y4, ea] at this)).mk km) (u.tr.mk km) (fun i X hX => (hg _ X (by have := rA_at hX; rwa [z4, eb] at this)).mk km) (fun i X hX => sa _ X (rA_at hX)) (fun i X hX => sb _ X (rA_at hX)) (by have := t.es; simp only at this; omega) (Nat.lt_of_lt_of_le hbm km.sz) hs)
  have ek1 : A.k = hk := t.ek
  have en1 : A.nm = hnm := t.en
  have ec1 : A.con = hcon := t.ec
  have ek2 : B.k = gk := u.ek
  have en2 : B.nm = gnm := u.en
  have ec2 : B.con = gcon := u.ec
  have TOP := Lib.hid (show (A.k = B.k ∧ A.nm = B.nm ∧ A.con = B.con) ↔ (hk = gk ∧ hnm = gnm ∧ hcon = gcon) by rw [ek1, en1, ec1, ek2, en2, ec2])
  clear hM hu hok t u hh hg sa sb st ih hE y1 y2 y3 y4 z1 z2 z3 z4 ea eb ek1 en1 ec1 ek2 en2 ec2
  have b0 : (hk != 12) = true := bne_iff_ne.2 hx
  clear hx
  have HN := Lib.hid (pv_top (L := L) (r := r) (σ := σ) (A := A) (B := B) (fun e => eC (TOP.out.1 e).2.2))
  have b1 : (hk == gk) = true := by (rw [eK]; simp)
  have b2 : (hnm.toList == gnm.toList) = true := by (rw [eN]; simp)
  have b3 : (hcon == gcon) = false := beq_false_of_ne eC
  clear eK eN eC
  go_enter Try.func51, Try.ntmps51
  go_wp2_with (first | ((with_reducible show wpList _ _ _ (⟨some 16, _, _, _, _, _⟩ :: _) _ _); refine wpList_map_ok (d := 16) _ _ 66 9 42 rfl Try.underlying9 Try.underlying66 _ (zeroY) bm n fS (by rfl) (((HM.out.alloc _).alloc _)) hnm (by rfl) HSZ.out (⟨zk, znm, zcon, zfa, zfl, zfc, zla, zll, zlc, zra, zrl, zrc⟩ : Hd).val HU.out true HOK.out ?_))
  go_ret
  exact ⟨KW0.out.mk, .inl ⟨HN.out, rfl⟩⟩
set_option maxHeartbeats 6400000 in
set_option maxRecDepth 100000 in
theorem me_fb (bm bs bM bF bL : Nat) (L : List ByteArray) (r R R' : Nat) (ih : IHm bm bs bM bF bL L r R R') (σ : St) (A B : Ty) (hk : Int) (hnm : ByteArray) (hcon : Int) (hfa : Option Addr) (hfl hfc : Nat) (hla : Option Addr) (hll hlc : Nat) (hra : Option Addr) (hrl hrc : Nat) (gk : Int) (gnm : ByteArray) (gcon : Int) (gfa : Option Addr) (gfl gfc : Nat) (gla : Option Addr) (gll glc : Nat) (gra : Option Addr) (grl grc : Nat)
    (zk : Int) (znm : ByteArray) (zcon : Int) (zfa : Option Addr) (zfl zfc : Nat) (zla : Option Addr) (zll zlc : Nat) (zra : Option Addr) (zrl zrc : Nat) (K J : Nat → Hd) (w : World) (hE : EnvM bm bs bM bF bL w) (t : Top w (Off bm) A ⟨hk, hnm, hcon, hfa, hfl, hfc, hla, hll, hlc, hra, hrl, hrc⟩ K) (u : Top w (Off bm) B ⟨gk, gnm, gcon, gfa, gfl, gfc, gla, gll, glc, gra, grl, grc⟩ J) (hh : ∀ i X, A.kids[i]? = some X → Lies w (Off bm) R X (K i)) (hg : ∀ i X, B.kids[i]? = some X → Lies w (Off bm) R' X (J i))
    (sa : ∀ (i : Nat) (X : Ty), A.kids[i]? = some X → (look r X).2.2 = true) (sb : ∀ (i : Nat) (X : Ty), B.kids[i]? = some X → (look r X).2.2 = true) (fa : A.kids.length ≤ 17) (fb : B.kids.length ≤ 17) (hbm : bm < w.heap.size) (st : StM bm L σ w) (n : Nat) (fS : ByteArray → Option Value) (hM : MapIs w Try.prog 9 bm n fS) (hu : (fS hnm).getD hd0.val = Hd.val ⟨zk, znm, zcon, zfa, zfl, zfc, zla, zll, zlc, zra, zrl, zrc⟩) (hok : (fS hnm).isSome = true) (hx : hk ≠ 12) (eK : hk = gk) (eN : hnm = gnm) (eC : hcon = gcon) (hF : fieldsV (mtch L r) σ A.fn B.fn (fA A) (fA B) = none) :
    Calls Try.prog 51 #[Hd.val ⟨hk, hnm, hcon, hfa, hfl, hfc, hla, hll, hlc, hra, hrl, hrc⟩, Hd.val ⟨gk, gnm, gcon, gfa, gfl, gfc, gla, gll, glc, gra, grl, grc⟩, .pointer (some ⟨bs, 0, none⟩), .pointer (some ⟨bF, 0, none⟩), .pointer (some ⟨bL, 0, none⟩)] w (MP bm L (partsV L r σ A B) w) := by
  have HM := Lib.hid hM
  have HU := Lib.hid hu
  have HOK := Lib.hid hok
  have HSZ := Lib.hid (show hnm.size ≤ maxLen by have := t.rn; simp only at this; unfold maxLen; omega)
  have ST := Lib.hid st
  have KW0 := Lib.hid (show Kp w (((w.alloc (.cells #[.int .i64 hk, .string hnm, .int .i64 hcon, .slice hfa hfl hfc, .slice hla hll hlc, .slice hra hrl hrc] 42)).alloc (.cells #[.int .i64 gk, .string gnm, .int .i64 gcon, .slice gfa gfl gfc, .slice gla gll glc, .slice gra grl grc] 42)).alloc (.cells #[.int .i64 zk, .string znm, .int .i64 zcon, .slice zfa zfl zfc, .slice zla zll zlc, .slice zra zrl zrc] 42)) from (((Kp.refl w).alloc _).alloc _).alloc _)
  have cs := hE.cs
  have cF := hE.cF
  have cL := hE.cL
  have bsl : bs < w.heap.size := lt_of_cell cs
  have bFl : bF < w.heap.size := lt_of_cell cF
  have bLl : bL < w.heap.size := lt_of_cell cL
  obtain ⟨bs1, bs2, bs3⟩ : bs < w.heap.size + 1 ∧ bs < w.heap.size + 1 + 1 ∧ bs < w.heap.size + 1 + 1 + 1 := ⟨by omega, by omega, by omega⟩
  obtain ⟨bF1, bF2, bF3'⟩ : bF < w.heap.size + 1 ∧ bF < w.heap.size + 1 + 1 ∧ bF < w.heap.size + 1 + 1 + 1 := ⟨by omega, by omega, by omega⟩
  obtain ⟨bL1, bL2, bL3'⟩ : bL < w.heap.size + 1 ∧ bL < w.heap.size + 1 + 1 ∧ bL < w.heap.size + 1 + 1 + 1 := ⟨by omega, by omega, by omega⟩
  have HB : Hid (∀ W, Mk bm (((w.alloc (.cells #[.int .i64 hk, .string hnm, .int .i64 hcon, .slice hfa hfl hfc, .slice hla hll hlc, .slice hra hrl hrc] 42)).alloc (.cells #[.int .i64 gk, .string gnm, .int .i64 gcon, .slice gfa gfl gfc, .slice gla gll glc, .slice gra grl grc] 42)).alloc (.cells #[.int .i64 zk, .string znm, .int .i64 zcon, .slice zfa zfl zfc, .slice zla zll zlc, .slice zra zrl zrc] 42)) W → W.cell? ⟨bF, 0, none⟩ = some (.func (.func 49) #[] #[.pointer (some ⟨bM, 0, none⟩)]) ∧ W.cell? ⟨bL, 0, none⟩ = some (.func (.func 50) #[] #[.pointer (some ⟨bM, 0, none⟩)]) ∧ W.cell? ⟨w.heap.size, 0, none⟩ = some (.int .i64 hk) ∧ W.cell? ⟨w.heap.size, 1, none⟩ = some (.string hnm) ∧ W.cell? ⟨w.heap.size, 2, none⟩ = some (.int .i64 hcon) ∧ W.cell? ⟨w.heap.size, 3, none⟩ = some (.slice hfa hfl hfc) ∧ W.cell? ⟨w.heap.size, 4, none⟩ = some (.slice hla hll hlc) ∧ W.cell? ⟨w.heap.size, 5, none⟩ = some (.slice hra hrl hrc) ∧ W.cell? ⟨w.heap.size + 1, 0, none⟩ = some (.int .i64 gk) ∧ W.cell? ⟨w.heap.size + 1, 1, none⟩ = some (.string gnm) ∧ W.cell? ⟨w.heap.size + 1, 2, none⟩ = some (.int .i64 gcon) ∧ W.cell? ⟨w.heap.size + 1, 3, none⟩ = some (.slice gfa gfl gfc) ∧ W.cell? ⟨w.heap.size + 1, 4, none⟩ = some (.slice gla gll glc) ∧ W.cell? ⟨w.heap.size + 1, 5, none⟩ = some (.slice gra grl grc)) := Lib.hid (fun W km => by
    obtain ⟨p0, p1, p2, p3, p4, p5, ps⟩ := boxed (h := ⟨hk, hnm, hcon, hfa, hfl, hfc, hla, hll, hlc, hra, hrl, hrc⟩) (show Kp (w.alloc (.cells #[.int .i64 hk, .string hnm, .int .i64 hcon, .slice hfa hfl hfc, .slice hla hll hlc, .slice hra hrl hrc] 42)) (((w.alloc (.cells #[.int .i64 hk, .string hnm, .int .i64 hcon, .slice hfa hfl hfc, .slice hla hll hlc, .slice hra hrl hrc] 42)).alloc (.cells #[.int .i64 gk, .string gnm, .int .i64 gcon, .slice gfa gfl gfc, .slice gla gll glc, .slice gra grl grc] 42)).alloc (.cells #[.int .i64 zk, .string znm, .int .i64 zcon, .slice zfa zfl zfc, .slice zla zll zlc, .slice zra zrl zrc] 42)) from ((Kp.refl _).alloc _).alloc _)
    obtain ⟨q0, q1, q2, q3, q4, q5, qs⟩ := boxed (h := ⟨gk, gnm, gcon, gfa, gfl, gfc, gla, gll, glc, gra, grl, grc⟩) (show Kp ((w.alloc (.cells #[.int .i64 hk, .string hnm, .int .i64 hcon, .slice hfa hfl hfc, .slice hla hll hlc, .slice hra hrl hrc] 42)).alloc (.cells #[.int .i64 gk, .string gnm, .int .i64 gcon, .slice gfa gfl gfc, .slice gla gll glc, .slice gra grl grc] 42)) (((w.alloc (.cells #[.int .i64 hk, .string hnm, .int .i64 hcon, .slice hfa hfl hfc, .slice hla hll hlc, .slice hra hrl hrc] 42)).alloc (.cells #[.int .i64 gk, .string gnm, .int .i64 gcon, .slice gfa gfl gfc, .slice gla gll glc, .slice gra grl grc] 42)).alloc (.cells #[.int .i64 zk, .string znm, .int .i64 zcon, .slice zfa zfl zfc, .slice zla zll zlc, .slice zra zrl zrc] 42)) from (Kp.refl _).alloc _)
    simp only [World.size_alloc] at q0 q1 q2 q3 q4 q5
    have n1 : w.heap.size ≠ bm := by omega
    have n2 : w.heap.size + 1 ≠ bm := by omega
    exact ⟨km.cellv (KW0.out.cellv hE.cF) hE.nF, km.cellv (KW0.out.cellv hE.cL) hE.nL, km.cellv p0 n1, km.cellv p1 n1, km.cellv p2 n1, km.cellv p3 n1, km.cellv p4 n1, km.cellv p5 n1, km.cellv q0 n2, km.cellv q1 n2, km.cellv q2 n2, km.cellv q3 n2, km.cellv q4 n2, km.cellv q5 n2⟩)
  obtain ⟨y1, y2, y3, y4⟩ := parts_len t
  obtain ⟨z1, z2, z3, z4⟩ := parts_len u
  simp only at y1 y2 y3 y4 z1 z2 z3 z4
  have CF := Lib.hid (fun W (km : Mk bm w W) (hs : StM bm L σ W) => c_fieldsW bm bs bM bF bL L r R R' ih σ A.fn B.fn (fA A) (fA B) y1 z1 hfl gfl y4 z4 hfa gfa hfc gfc K J W (hE.turn km) (t.tf.mk km) (fun i X hX => (hh i X (fA_at hX)).mk km) (u.tf.mk km) (fun i X hX => (hg i X (fA_at hX)).mk km) (fun i X hX => sa i X (fA_at hX)) (fun i X hX => sb i X (fA_at hX)) (by have := t.es; simp only at this; omega) (Nat.lt_of_lt_of_le hbm km.sz) hs)
  have CL0 := Lib.hid (fun (σ1 : St) W (km : Mk bm w W) (hs : StM bm L σ1 W) => c_listV bm bs bM bF bL L r R R' ih σ1 (lA A) (lA B) hll gll y2 z2 hla gla hlc glc (fun i => K (hfl + i)) (fun i => J (gfl + i)) W (hE.turn km) (t.tl.mk km) (fun i X hX => (hh _ X (y4 ▸ lA_at hX)).mk km) (u.tl.mk km) (fun i X hX => (hg _ X (z4 ▸ lA_at hX)).mk km) (fun i X hX => sa _ X (lA_at hX)) (fun i X hX => sb _ X (lA_at hX)) (by have := t.es; simp only at this; omega) (Nat.lt_of_lt_of_le hbm km.sz) hs)
  have ea : A.nl = hll := t.el
  have eb : B.nl = gll := u.el
  have CR0 := Lib.hid (fun (σ1 : St) W (km : Mk bm w W) (hs : StM bm L σ1 W) => c_listV bm bs bM bF bL L r R R' ih σ1 (rA A) (rA B) hrl grl y3 z3 hra gra hrc grc (fun i => K (hfl + hll + i)) (fun i => J (gfl + gll + i)) W (hE.turn km) (t.tr.mk km) (fun i X hX => (hh _ X (by have := rA_at hX; rwa [y4, ea] at this)).mk km) (u.tr.mk km) (fun i X hX => (hg _ X (by have := rA_at hX; rwa [z4, eb] at this)).mk km) (fun i X hX => sa _ X (rA_at hX)) (fun i X hX => sb _ X (rA_at hX)) (by have := t.es; simp only at this; omega) (Nat.lt_of_lt_of_le hbm km.sz) hs)
  have ek1 : A.k = hk := t.ek
  have en1 : A.nm = hnm := t.en
  have ec1 : A.con = hcon := t.ec
  have ek2 : B.k = gk := u.ek
  have en2 : B.nm = gnm := u.en
  have ec2 : B.con = gcon := u.ec
  have TOP := Lib.hid (show (A.k = B.k ∧ A.nm = B.nm ∧ A.con = B.con) ↔ (hk = gk ∧ hnm = gnm ∧ hcon = gcon) by rw [ek1, en1, ec1, ek2, en2, ec2])
  clear hM hu hok t u hh hg sa sb st ih hE y1 y2 y3 y4 z1 z2 z3 z4 ea eb ek1 en1 ec1 ek2 en2 ec2
  have b0 : (hk != 12) = true := bne_iff_ne.2 hx
  clear hx
  have HN := Lib.hid (pv_f hF)
  have HF := Lib.hid hF
  clear hF
  have b1 : (hk == gk) = true := by (rw [eK]; simp)
  have b2 : (hnm.toList == gnm.toList) = true := by (rw [eN]; simp)
  have b3 : (hcon == gcon) = true := by (rw [eC]; simp)
  clear eK eN eC
  go_enter Try.func51, Try.ntmps51
  go_wp2_with (first | ((with_reducible show wpList _ _ _ (⟨some 16, _, _, _, _, _⟩ :: _) _ _); refine wpList_map_ok (d := 16) _ _ 66 9 42 rfl Try.underlying9 Try.underlying66 _ (zeroY) bm n fS (by rfl) (((HM.out.alloc _).alloc _)) hnm (by rfl) HSZ.out (⟨zk, znm, zcon, zfa, zfl, zfc, zla, zll, zlc, zra, zrl, zrc⟩ : Hd).val HU.out true HOK.out ?_) | (go_at_call 49; refine (CF.out _ KW0.out.mk (ST.out.keep KW0.out)).mono ?_; intro e w3 hp3; obtain ⟨he3, hk3⟩ := hp3.no HF.out; subst he3; obtain ⟨bF3, bL3, p0, p1, p2, p3, p4, p5, q0, q1, q2, q3, q4, q5⟩ := HB.out w3 hk3; have HK3 := Lib.hid (KW0.out.mk.trans hk3); have hz3 := hk3.sz))
  go_ret
  exact ⟨HK3.out, .inl ⟨HN.out, rfl⟩⟩
set_option maxHeartbeats 6400000 in
set_option maxRecDepth 100000 in
theorem me_lb (bm bs bM bF bL : Nat) (L : List ByteArray) (r R R' : Nat) (ih : IHm bm bs bM bF bL L r R R') (σ : St) (A B : Ty) (hk : Int) (hnm : ByteArray) (hcon : Int) (hfa : Option Addr) (hfl hfc : Nat) (hla : Option Addr) (hll hlc : Nat) (hra : Option Addr) (hrl hrc : Nat) (gk : Int) (gnm : ByteArray) (gcon : Int) (gfa : Option Addr) (gfl gfc : Nat) (gla : Option Addr) (gll glc : Nat) (gra : Option Addr) (grl grc : Nat)
    (zk : Int) (znm : ByteArray) (zcon : Int) (zfa : Option Addr) (zfl zfc : Nat) (zla : Option Addr) (zll zlc : Nat) (zra : Option Addr) (zrl zrc : Nat) (K J : Nat → Hd) (w : World) (hE : EnvM bm bs bM bF bL w) (t : Top w (Off bm) A ⟨hk, hnm, hcon, hfa, hfl, hfc, hla, hll, hlc, hra, hrl, hrc⟩ K) (u : Top w (Off bm) B ⟨gk, gnm, gcon, gfa, gfl, gfc, gla, gll, glc, gra, grl, grc⟩ J) (hh : ∀ i X, A.kids[i]? = some X → Lies w (Off bm) R X (K i)) (hg : ∀ i X, B.kids[i]? = some X → Lies w (Off bm) R' X (J i))
    (sa : ∀ (i : Nat) (X : Ty), A.kids[i]? = some X → (look r X).2.2 = true) (sb : ∀ (i : Nat) (X : Ty), B.kids[i]? = some X → (look r X).2.2 = true) (fa : A.kids.length ≤ 17) (fb : B.kids.length ≤ 17) (hbm : bm < w.heap.size) (st : StM bm L σ w) (n : Nat) (fS : ByteArray → Option Value) (hM : MapIs w Try.prog 9 bm n fS) (hu : (fS hnm).getD hd0.val = Hd.val ⟨zk, znm, zcon, zfa, zfl, zfc, zla, zll, zlc, zra, zrl, zrc⟩) (hok : (fS hnm).isSome = true) (hx : hk ≠ 12) (eK : hk = gk) (eN : hnm = gnm) (eC : hcon = gcon) (σ1 : St) (hF : fieldsV (mtch L r) σ A.fn B.fn (fA A) (fA B) = some σ1) (hL : walkK (mtch L r) σ1 (lA A) (lA B) = none) :
    Calls Try.prog 51 #[Hd.val ⟨hk, hnm, hcon, hfa, hfl, hfc, hla, hll, hlc, hra, hrl, hrc⟩, Hd.val ⟨gk, gnm, gcon, gfa, gfl, gfc, gla, gll, glc, gra, grl, grc⟩, .pointer (some ⟨bs, 0, none⟩), .pointer (some ⟨bF, 0, none⟩), .pointer (some ⟨bL, 0, none⟩)] w (MP bm L (partsV L r σ A B) w) := by
  have HM := Lib.hid hM
  have HU := Lib.hid hu
  have HOK := Lib.hid hok
  have HSZ := Lib.hid (show hnm.size ≤ maxLen by have := t.rn; simp only at this; unfold maxLen; omega)
  have ST := Lib.hid st
  have KW0 := Lib.hid (show Kp w (((w.alloc (.cells #[.int .i64 hk, .string hnm, .int .i64 hcon, .slice hfa hfl hfc, .slice hla hll hlc, .slice hra hrl hrc] 42)).alloc (.cells #[.int .i64 gk, .string gnm, .int .i64 gcon, .slice gfa gfl gfc, .slice gla gll glc, .slice gra grl grc] 42)).alloc (.cells #[.int .i64 zk, .string znm, .int .i64 zcon, .slice zfa zfl zfc, .slice zla zll zlc, .slice zra zrl zrc] 42)) from (((Kp.refl w).alloc _).alloc _).alloc _)
  have cs := hE.cs
  have cF := hE.cF
  have cL := hE.cL
  have bsl : bs < w.heap.size := lt_of_cell cs
  have bFl : bF < w.heap.size := lt_of_cell cF
  have bLl : bL < w.heap.size := lt_of_cell cL
  obtain ⟨bs1, bs2, bs3⟩ : bs < w.heap.size + 1 ∧ bs < w.heap.size + 1 + 1 ∧ bs < w.heap.size + 1 + 1 + 1 := ⟨by omega, by omega, by omega⟩
  obtain ⟨bF1, bF2, bF3'⟩ : bF < w.heap.size + 1 ∧ bF < w.heap.size + 1 + 1 ∧ bF < w.heap.size + 1 + 1 + 1 := ⟨by omega, by omega, by omega⟩
  obtain ⟨bL1, bL2, bL3'⟩ : bL < w.heap.size + 1 ∧ bL < w.heap.size + 1 + 1 ∧ bL < w.heap.size + 1 + 1 + 1 := ⟨by omega, by omega, by omega⟩
  have HB : Hid (∀ W, Mk bm (((w.alloc (.cells #[.int .i64 hk, .string hnm, .int .i64 hcon, .slice hfa hfl hfc, .slice hla hll hlc, .slice hra hrl hrc] 42)).alloc (.cells #[.int .i64 gk, .string gnm, .int .i64 gcon, .slice gfa gfl gfc, .slice gla gll glc, .slice gra grl grc] 42)).alloc (.cells #[.int .i64 zk, .string znm, .int .i64 zcon, .slice zfa zfl zfc, .slice zla zll zlc, .slice zra zrl zrc] 42)) W → W.cell? ⟨bF, 0, none⟩ = some (.func (.func 49) #[] #[.pointer (some ⟨bM, 0, none⟩)]) ∧ W.cell? ⟨bL, 0, none⟩ = some (.func (.func 50) #[] #[.pointer (some ⟨bM, 0, none⟩)]) ∧ W.cell? ⟨w.heap.size, 0, none⟩ = some (.int .i64 hk) ∧ W.cell? ⟨w.heap.size, 1, none⟩ = some (.string hnm) ∧ W.cell? ⟨w.heap.size, 2, none⟩ = some (.int .i64 hcon) ∧ W.cell? ⟨w.heap.size, 3, none⟩ = some (.slice hfa hfl hfc) ∧ W.cell? ⟨w.heap.size, 4, none⟩ = some (.slice hla hll hlc) ∧ W.cell? ⟨w.heap.size, 5, none⟩ = some (.slice hra hrl hrc) ∧ W.cell? ⟨w.heap.size + 1, 0, none⟩ = some (.int .i64 gk) ∧ W.cell? ⟨w.heap.size + 1, 1, none⟩ = some (.string gnm) ∧ W.cell? ⟨w.heap.size + 1, 2, none⟩ = some (.int .i64 gcon) ∧ W.cell? ⟨w.heap.size + 1, 3, none⟩ = some (.slice gfa gfl gfc) ∧ W.cell? ⟨w.heap.size + 1, 4, none⟩ = some (.slice gla gll glc) ∧ W.cell? ⟨w.heap.size + 1, 5, none⟩ = some (.slice gra grl grc)) := Lib.hid (fun W km => by
    obtain ⟨p0, p1, p2, p3, p4, p5, ps⟩ := boxed (h := ⟨hk, hnm, hcon, hfa, hfl, hfc, hla, hll, hlc, hra, hrl, hrc⟩) (show Kp (w.alloc (.cells #[.int .i64 hk, .string hnm, .int .i64 hcon, .slice hfa hfl hfc, .slice hla hll hlc, .slice hra hrl hrc] 42)) (((w.alloc (.cells #[.int .i64 hk, .string hnm, .int .i64 hcon, .slice hfa hfl hfc, .slice hla hll hlc, .slice hra hrl hrc] 42)).alloc (.cells #[.int .i64 gk, .string gnm, .int .i64 gcon, .slice gfa gfl gfc, .slice gla gll glc, .slice gra grl grc] 42)).alloc (.cells #[.int .i64 zk, .string znm, .int .i64 zcon, .slice zfa zfl zfc, .slice zla zll zlc, .slice zra zrl zrc] 42)) from ((Kp.refl _).alloc _).alloc _)
    obtain ⟨q0, q1, q2, q3, q4, q5, qs⟩ := boxed (h := ⟨gk, gnm, gcon, gfa, gfl, gfc, gla, gll, glc, gra, grl, grc⟩) (show Kp ((w.alloc (.cells #[.int .i64 hk, .string hnm, .int .i64 hcon, .slice hfa hfl hfc, .slice hla hll hlc, .slice hra hrl hrc] 42)).alloc (.cells #[.int .i64 gk, .string gnm, .int .i64 gcon, .slice gfa gfl gfc, .slice gla gll glc, .slice gra grl grc] 42)) (((w.alloc (.cells #[.int .i64 hk, .string hnm, .int .i64 hcon, .slice hfa hfl hfc, .slice hla hll hlc, .slice hra hrl hrc] 42)).alloc (.cells #[.int .i64 gk, .string gnm, .int .i64 gcon, .slice gfa gfl gfc, .slice gla gll glc, .slice gra grl grc] 42)).alloc (.cells #[.int .i64 zk, .string znm, .int .i64 zcon, .slice zfa zfl zfc, .slice zla zll zlc, .slice zra zrl zrc] 42)) from (Kp.refl _).alloc _)
    simp only [World.size_alloc] at q0 q1 q2 q3 q4 q5
    have n1 : w.heap.size ≠ bm := by omega
    have n2 : w.heap.size + 1 ≠ bm := by omega
    exact ⟨km.cellv (KW0.out.cellv hE.cF) hE.nF, km.cellv (KW0.out.cellv hE.cL) hE.nL, km.cellv p0 n1, km.cellv p1 n1, km.cellv p2 n1, km.cellv p3 n1, km.cellv p4 n1, km.cellv p5 n1, km.cellv q0 n2, km.cellv q1 n2, km.cellv q2 n2, km.cellv q3 n2, km.cellv q4 n2, km.cellv q5 n2⟩)
  obtain ⟨y1, y2, y3, y4⟩ := parts_len t
  obtain ⟨z1, z2, z3, z4⟩ := parts_len u
  simp only at y1 y2 y3 y4 z1 z2 z3 z4
  have CF := Lib.hid (fun W (km : Mk bm w W) (hs : StM bm L σ W) => c_fieldsW bm bs bM bF bL L r R R' ih σ A.fn B.fn (fA A) (fA B) y1 z1 hfl gfl y4 z4 hfa gfa hfc gfc K J W (hE.turn km) (t.tf.mk km) (fun i X hX => (hh i X (fA_at hX)).mk km) (u.tf.mk km) (fun i X hX => (hg i X (fA_at hX)).mk km) (fun i X hX => sa i X (fA_at hX)) (fun i X hX => sb i X (fA_at hX)) (by have := t.es; simp only at this; omega) (Nat.lt_of_lt_of_le hbm km.sz) hs)
  have CL0 := Lib.hid (fun (σ1 : St) W (km : Mk bm w W) (hs : StM bm L σ1 W) => c_listV bm bs bM bF bL L r R R' ih σ1 (lA A) (lA B) hll gll y2 z2 hla gla hlc glc (fun i => K (hfl + i)) (fun i => J (gfl + i)) W (hE.turn km) (t.tl.mk km) (fun i X hX => (hh _ X (y4 ▸ lA_at hX)).mk km) (u.tl.mk km) (fun i X hX => (hg _ X (z4 ▸ lA_at hX)).mk km) (fun i X hX => sa _ X (lA_at hX)) (fun i X hX => sb _ X (lA_at hX)) (by have := t.es; simp only at this; omega) (Nat.lt_of_lt_of_le hbm km.sz) hs)
  have ea : A.nl = hll := t.el
  have eb : B.nl = gll := u.el
  have CR0 := Lib.hid (fun (σ1 : St) W (km : Mk bm w W) (hs : StM bm L σ1 W) => c_listV bm bs bM bF bL L r R R' ih σ1 (rA A) (rA B) hrl grl y3 z3 hra gra hrc grc (fun i => K (hfl + hll + i)) (fun i => J (gfl + gll + i)) W (hE.turn km) (t.tr.mk km) (fun i X hX => (hh _ X (by have := rA_at hX; rwa [y4, ea] at this)).mk km) (u.tr.mk km) (fun i X hX => (hg _ X (by have := rA_at hX; rwa [z4, eb] at this)).mk km) (fun i X hX => sa _ X (rA_at hX)) (fun i X hX => sb _ X (rA_at hX)) (by have := t.es; simp only at this; omega) (Nat.lt_of_lt_of_le hbm km.sz) hs)
  have ek1 : A.k = hk := t.ek
  have en1 : A.nm = hnm := t.en
  have ec1 : A.con = hcon := t.ec
  have ek2 : B.k = gk := u.ek
  have en2 : B.nm = gnm := u.en
  have ec2 : B.con = gcon := u.ec
  have TOP := Lib.hid (show (A.k = B.k ∧ A.nm = B.nm ∧ A.con = B.con) ↔ (hk = gk ∧ hnm = gnm ∧ hcon = gcon) by rw [ek1, en1, ec1, ek2, en2, ec2])
  clear hM hu hok t u hh hg sa sb st ih hE y1 y2 y3 y4 z1 z2 z3 z4 ea eb ek1 en1 ec1 ek2 en2 ec2
  have b0 : (hk != 12) = true := bne_iff_ne.2 hx
  clear hx
  have HN := Lib.hid (pv_l hF hL)
  have HF := Lib.hid hF
  have HL := Lib.hid hL
  have CL := Lib.hid (CL0.out σ1)
  clear hF hL
  have b1 : (hk == gk) = true := by (rw [eK]; simp)
  have b2 : (hnm.toList == gnm.toList) = true := by (rw [eN]; simp)
  have b3 : (hcon == gcon) = true := by (rw [eC]; simp)
  clear eK eN eC
  go_enter Try.func51, Try.ntmps51
  go_wp2_with (first | ((with_reducible show wpList _ _ _ (⟨some 16, _, _, _, _, _⟩ :: _) _ _); refine wpList_map_ok (d := 16) _ _ 66 9 42 rfl Try.underlying9 Try.underlying66 _ (zeroY) bm n fS (by rfl) (((HM.out.alloc _).alloc _)) hnm (by rfl) HSZ.out (⟨zk, znm, zcon, zfa, zfl, zfc, zla, zll, zlc, zra, zrl, zrc⟩ : Hd).val HU.out true HOK.out ?_) | (go_at_call 49; refine (CF.out _ KW0.out.mk (ST.out.keep KW0.out)).mono ?_; intro e w3 hp3; obtain ⟨he3, hk3, hs3⟩ := hp3.yes HF.out; subst he3; obtain ⟨bF3, bL3, p0, p1, p2, p3, p4, p5, q0, q1, q2, q3, q4, q5⟩ := HB.out w3 hk3; have HK3 := Lib.hid (KW0.out.mk.trans hk3); have hz3 := hk3.sz) | (go_at_call 50; (with_reducible refine (CL.out _ HK3.out hs3).mono ?_); intro e w4 hp4; obtain ⟨he4, hk4⟩ := hp4.no HL.out; subst he4; obtain ⟨bF4, bL4, p0', p1', p2', p3', p4', p5', q0', q1', q2', q3', q4', q5'⟩ := HB.out w4 (hk3.trans hk4); have HK4 := Lib.hid (HK3.out.trans hk4); have hz4 := hk4.sz))
  go_ret
  exact ⟨HK4.out, .inl ⟨HN.out, rfl⟩⟩
set_option maxHeartbeats 6400000 in
set_option maxRecDepth 100000 in
theorem me_rb (bm bs bM bF bL : Nat) (L : List ByteArray) (r R R' : Nat) (ih : IHm bm bs bM bF bL L r R R') (σ : St) (A B : Ty) (hk : Int) (hnm : ByteArray) (hcon : Int) (hfa : Option Addr) (hfl hfc : Nat) (hla : Option Addr) (hll hlc : Nat) (hra : Option Addr) (hrl hrc : Nat) (gk : Int) (gnm : ByteArray) (gcon : Int) (gfa : Option Addr) (gfl gfc : Nat) (gla : Option Addr) (gll glc : Nat) (gra : Option Addr) (grl grc : Nat)
    (zk : Int) (znm : ByteArray) (zcon : Int) (zfa : Option Addr) (zfl zfc : Nat) (zla : Option Addr) (zll zlc : Nat) (zra : Option Addr) (zrl zrc : Nat) (K J : Nat → Hd) (w : World) (hE : EnvM bm bs bM bF bL w) (t : Top w (Off bm) A ⟨hk, hnm, hcon, hfa, hfl, hfc, hla, hll, hlc, hra, hrl, hrc⟩ K) (u : Top w (Off bm) B ⟨gk, gnm, gcon, gfa, gfl, gfc, gla, gll, glc, gra, grl, grc⟩ J) (hh : ∀ i X, A.kids[i]? = some X → Lies w (Off bm) R X (K i)) (hg : ∀ i X, B.kids[i]? = some X → Lies w (Off bm) R' X (J i))
    (sa : ∀ (i : Nat) (X : Ty), A.kids[i]? = some X → (look r X).2.2 = true) (sb : ∀ (i : Nat) (X : Ty), B.kids[i]? = some X → (look r X).2.2 = true) (fa : A.kids.length ≤ 17) (fb : B.kids.length ≤ 17) (hbm : bm < w.heap.size) (st : StM bm L σ w) (n : Nat) (fS : ByteArray → Option Value) (hM : MapIs w Try.prog 9 bm n fS) (hu : (fS hnm).getD hd0.val = Hd.val ⟨zk, znm, zcon, zfa, zfl, zfc, zla, zll, zlc, zra, zrl, zrc⟩) (hok : (fS hnm).isSome = true) (hx : hk ≠ 12) (eK : hk = gk) (eN : hnm = gnm) (eC : hcon = gcon) (σ1 : St) (hF : fieldsV (mtch L r) σ A.fn B.fn (fA A) (fA B) = some σ1) (σ2 : St) (hL : walkK (mtch L r) σ1 (lA A) (lA B) = some σ2) (hR : walkK (mtch L r) σ2 (rA A) (rA B) = none) :
    Calls Try.prog 51 #[Hd.val ⟨hk, hnm, hcon, hfa, hfl, hfc, hla, hll, hlc, hra, hrl, hrc⟩, Hd.val ⟨gk, gnm, gcon, gfa, gfl, gfc, gla, gll, glc, gra, grl, grc⟩, .pointer (some ⟨bs, 0, none⟩), .pointer (some ⟨bF, 0, none⟩), .pointer (some ⟨bL, 0, none⟩)] w (MP bm L (partsV L r σ A B) w) := by
  have HM := Lib.hid hM
  have HU := Lib.hid hu
  have HOK := Lib.hid hok
  have HSZ := Lib.hid (show hnm.size ≤ maxLen by have := t.rn; simp only at this; unfold maxLen; omega)
  have ST := Lib.hid st
  have KW0 := Lib.hid (show Kp w (((w.alloc (.cells #[.int .i64 hk, .string hnm, .int .i64 hcon, .slice hfa hfl hfc, .slice hla hll hlc, .slice hra hrl hrc] 42)).alloc (.cells #[.int .i64 gk, .string gnm, .int .i64 gcon, .slice gfa gfl gfc, .slice gla gll glc, .slice gra grl grc] 42)).alloc (.cells #[.int .i64 zk, .string znm, .int .i64 zcon, .slice zfa zfl zfc, .slice zla zll zlc, .slice zra zrl zrc] 42)) from (((Kp.refl w).alloc _).alloc _).alloc _)
  have cs := hE.cs
  have cF := hE.cF
  have cL := hE.cL
  have bsl : bs < w.heap.size := lt_of_cell cs
  have bFl : bF < w.heap.size := lt_of_cell cF
  have bLl : bL < w.heap.size := lt_of_cell cL
  obtain ⟨bs1, bs2, bs3⟩ : bs < w.heap.size + 1 ∧ bs < w.heap.size + 1 + 1 ∧ bs < w.heap.size + 1 + 1 + 1 := ⟨by omega, by omega, by omega⟩
  obtain ⟨bF1, bF2, bF3'⟩ : bF < w.heap.size + 1 ∧ bF < w.heap.size + 1 + 1 ∧ bF < w.heap.size + 1 + 1 + 1 := ⟨by omega, by omega, by omega⟩
  obtain ⟨bL1, bL2, bL3'⟩ : bL < w.heap.size + 1 ∧ bL < w.heap.size + 1 + 1 ∧ bL < w.heap.size + 1 + 1 + 1 := ⟨by omega, by omega, by omega⟩
  have HB : Hid (∀ W, Mk bm (((w.alloc (.cells #[.int .i64 hk, .string hnm, .int .i64 hcon, .slice hfa hfl hfc, .slice hla hll hlc, .slice hra hrl hrc] 42)).alloc (.cells #[.int .i64 gk, .string gnm, .int .i64 gcon, .slice gfa gfl gfc, .slice gla gll glc, .slice gra grl grc] 42)).alloc (.cells #[.int .i64 zk, .string znm, .int .i64 zcon, .slice zfa zfl zfc, .slice zla zll zlc, .slice zra zrl zrc] 42)) W → W.cell? ⟨bF, 0, none⟩ = some (.func (.func 49) #[] #[.pointer (some ⟨bM, 0, none⟩)]) ∧ W.cell? ⟨bL, 0, none⟩ = some (.func (.func 50) #[] #[.pointer (some ⟨bM, 0, none⟩)]) ∧ W.cell? ⟨w.heap.size, 0, none⟩ = some (.int .i64 hk) ∧ W.cell? ⟨w.heap.size, 1, none⟩ = some (.string hnm) ∧ W.cell? ⟨w.heap.size, 2, none⟩ = some (.int .i64 hcon) ∧ W.cell? ⟨w.heap.size, 3, none⟩ = some (.slice hfa hfl hfc) ∧ W.cell? ⟨w.heap.size, 4, none⟩ = some (.slice hla hll hlc) ∧ W.cell? ⟨w.heap.size, 5, none⟩ = some (.slice hra hrl hrc) ∧ W.cell? ⟨w.heap.size + 1, 0, none⟩ = some (.int .i64 gk) ∧ W.cell? ⟨w.heap.size + 1, 1, none⟩ = some (.string gnm) ∧ W.cell? ⟨w.heap.size + 1, 2, none⟩ = some (.int .i64 gcon) ∧ W.cell? ⟨w.heap.size + 1, 3, none⟩ = some (.slice gfa gfl gfc) ∧ W.cell? ⟨w.heap.size + 1, 4, none⟩ = some (.slice gla gll glc) ∧ W.cell? ⟨w.heap.size + 1, 5, none⟩ = some (.slice gra grl grc)) := Lib.hid (fun W km => by
    obtain ⟨p0, p1, p2, p3, p4, p5, ps⟩ := boxed (h := ⟨hk, hnm, hcon, hfa, hfl, hfc, hla, hll, hlc, hra, hrl, hrc⟩) (show Kp (w.alloc (.cells #[.int .i64 hk, .string hnm, .int .i64 hcon, .slice hfa hfl hfc, .slice hla hll hlc, .slice hra hrl hrc] 42)) (((w.alloc (.cells #[.int .i64 hk, .string hnm, .int .i64 hcon, .slice hfa hfl hfc, .slice hla hll hlc, .slice hra hrl hrc] 42)).alloc (.cells #[.int .i64 gk, .string gnm, .int .i64 gcon, .slice gfa gfl gfc, .slice gla gll glc, .slice gra grl grc] 42)).alloc (.cells #[.int .i64 zk, .string znm, .int .i64 zcon, .slice zfa zfl zfc, .slice zla zll zlc, .slice zra zrl zrc] 42)) from ((Kp.refl _).alloc _).alloc _)
    obtain ⟨q0, q1, q2, q3, q4, q5, qs⟩ := boxed (h := ⟨gk, gnm, gcon, gfa, gfl, gfc, gla, gll, glc, gra, grl, grc⟩) (show Kp ((w.alloc (.cells #[.int .i64 hk, .string hnm, .int .i64 hcon, .slice hfa hfl hfc, .slice hla hll hlc, .slice hra hrl hrc] 42)).alloc (.cells #[.int .i64 gk, .string gnm, .int .i64 gcon, .slice gfa gfl gfc, .slice gla gll glc, .slice gra grl grc] 42)) (((w.alloc (.cells #[.int .i64 hk, .string hnm, .int .i64 hcon, .slice hfa hfl hfc, .slice hla hll hlc, .slice hra hrl hrc] 42)).alloc (.cells #[.int .i64 gk, .string gnm, .int .i64 gcon, .slice gfa gfl gfc, .slice gla gll glc, .slice gra grl grc] 42)).alloc (.cells #[.int .i64 zk, .string znm, .int .i64 zcon, .slice zfa zfl zfc, .slice zla zll zlc, .slice zra zrl zrc] 42)) from (Kp.refl _).alloc _)
    simp only [World.size_alloc] at q0 q1 q2 q3 q4 q5
    have n1 : w.heap.size ≠ bm := by omega
    have n2 : w.heap.size + 1 ≠ bm := by omega
    exact ⟨km.cellv (KW0.out.cellv hE.cF) hE.nF, km.cellv (KW0.out.cellv hE.cL) hE.nL, km.cellv p0 n1, km.cellv p1 n1, km.cellv p2 n1, km.cellv p3 n1, km.cellv p4 n1, km.cellv p5 n1, km.cellv q0 n2, km.cellv q1 n2, km.cellv q2 n2, km.cellv q3 n2, km.cellv q4 n2, km.cellv q5 n2⟩)
  obtain ⟨y1, y2, y3, y4⟩ := parts_len t
  obtain ⟨z1, z2, z3, z4⟩ := parts_len u
  simp only at y1 y2 y3 y4 z1 z2 z3 z4
  have CF := Lib.hid (fun W (km : Mk bm w W) (hs : StM bm L σ W) => c_fieldsW bm bs bM bF bL L r R R' ih σ A.fn B.fn (fA A) (fA B) y1 z1 hfl gfl y4 z4 hfa gfa hfc gfc K J W (hE.turn km) (t.tf.mk km) (fun i X hX => (hh i X (fA_at hX)).mk km) (u.tf.mk km) (fun i X hX => (hg i X (fA_at hX)).mk km) (fun i X hX => sa i X (fA_at hX)) (fun i X hX => sb i X (fA_at hX)) (by have := t.es; simp only at this; omega) (Nat.lt_of_lt_of_le hbm km.sz) hs)
  have CL0 := Lib.hid (fun (σ1 : St) W (km : Mk bm w W) (hs : StM bm L σ1 W) => c_listV bm bs bM bF bL L r R R' ih σ1 (lA A) (lA B) hll gll y2 z2 hla gla hlc glc (fun i => K (hfl + i)) (fun i => J (gfl + i)) W (hE.turn km) (t.tl.mk km) (fun i X hX => (hh _ X (y4 ▸ lA_at hX)).mk km) (u.tl.mk km) (fun i X hX => (hg _ X (z4 ▸ lA_at hX)).mk km) (fun i X hX => sa _ X (lA_at hX)) (fun i X hX => sb _ X (lA_at hX)) (by have := t.es; simp only at this; omega) (Nat.lt_of_lt_of_le hbm km.sz) hs)
  have ea : A.nl = hll := t.el
  have eb : B.nl = gll := u.el
  have CR0 := Lib.hid (fun (σ1 : St) W (km : Mk bm w W) (hs : StM bm L σ1 W) => c_listV bm bs bM bF bL L r R R' ih σ1 (rA A) (rA B) hrl grl y3 z3 hra gra hrc grc (fun i => K (hfl + hll + i)) (fun i => J (gfl + gll + i)) W (hE.turn km) (t.tr.mk km) (fun i X hX => (hh _ X (by have := rA_at hX; rwa [y4, ea] at this)).mk km) (u.tr.mk km) (fun i X hX => (hg _ X (by have := rA_at hX; rwa [z4, eb] at this)).mk km) (fun i X hX => sa _ X (rA_at hX)) (fun i X hX => sb _ X (rA_at hX)) (by have := t.es; simp only at this; omega) (Nat.lt_of_lt_of_le hbm km.sz) hs)
  have ek1 : A.k = hk := t.ek
  have en1 : A.nm = hnm := t.en
  have ec1 : A.con = hcon := t.ec
  have ek2 : B.k = gk := u.ek
  have en2 : B.nm = gnm := u.en
  have ec2 : B.con = gcon := u.ec
  have TOP := Lib.hid (show (A.k = B.k ∧ A.nm = B.nm ∧ A.con = B.con) ↔ (hk = gk ∧ hnm = gnm ∧ hcon = gcon) by rw [ek1, en1, ec1, ek2, en2, ec2])
  clear hM hu hok t u hh hg sa sb st ih hE y1 y2 y3 y4 z1 z2 z3 z4 ea eb ek1 en1 ec1 ek2 en2 ec2
  have b0 : (hk != 12) = true := bne_iff_ne.2 hx
  clear hx
  have HN := Lib.hid ((pv_r (TOP.out.2 ⟨eK, eN, eC⟩) hF hL).trans hR)
  have HF := Lib.hid hF
  have HL := Lib.hid hL
  have HR := Lib.hid hR
  have CL := Lib.hid (CL0.out σ1)
  have CR := Lib.hid (CR0.out σ2)
  clear hF hL hR
  have b1 : (hk == gk) = true := by (rw [eK]; simp)
  have b2 : (hnm.toList == gnm.toList) = true := by (rw [eN]; simp)
  have b3 : (hcon == gcon) = true := by (rw [eC]; simp)
  clear eK eN eC
  go_enter Try.func51, Try.ntmps51
  go_wp2_with (first | ((with_reducible show wpList _ _ _ (⟨some 16, _, _, _, _, _⟩ :: _) _ _); refine wpList_map_ok (d := 16) _ _ 66 9 42 rfl Try.underlying9 Try.underlying66 _ (zeroY) bm n fS (by rfl) (((HM.out.alloc _).alloc _)) hnm (by rfl) HSZ.out (⟨zk, znm, zcon, zfa, zfl, zfc, zla, zll, zlc, zra, zrl, zrc⟩ : Hd).val HU.out true HOK.out ?_) | (go_at_call 49; refine (CF.out _ KW0.out.mk (ST.out.keep KW0.out)).mono ?_; intro e w3 hp3; obtain ⟨he3, hk3, hs3⟩ := hp3.yes HF.out; subst he3; obtain ⟨bF3, bL3, p0, p1, p2, p3, p4, p5, q0, q1, q2, q3, q4, q5⟩ := HB.out w3 hk3; have HK3 := Lib.hid (KW0.out.mk.trans hk3); have hz3 := hk3.sz) | (go_at_call 50; (with_reducible refine (CL.out _ HK3.out hs3).mono ?_); intro e w4 hp4; obtain ⟨he4, hk4, hs4⟩ := hp4.yes HL.out; subst he4; obtain ⟨bF4, bL4, p0', p1', p2', p3', p4', p5', q0', q1', q2', q3', q4', q5'⟩ := HB.out w4 (hk3.trans hk4); have HK4 := Lib.hid (HK3.out.trans hk4); have hz4 := hk4.sz) | (go_at_call 50; (with_reducible refine (CR.out _ HK4.out hs4).mono ?_); intro e w5 hp5; obtain ⟨he5, hk5⟩ := hp5.no HR.out; subst he5; have HK5 := Lib.hid (HK4.out.trans hk5)))
  go_ret
  exact ⟨HK5.out, .inl ⟨HN.out, rfl⟩⟩
set_option maxHeartbeats 6400000 in
set_option maxRecDepth 100000 in
theorem me_sb (bm bs bM bF bL : Nat) (L : List ByteArray) (r R R' : Nat) (ih : IHm bm bs bM bF bL L r R R') (σ : St) (A B : Ty) (hk : Int) (hnm : ByteArray) (hcon : Int) (hfa : Option Addr) (hfl hfc : Nat) (hla : Option Addr) (hll hlc : Nat) (hra : Option Addr) (hrl hrc : Nat) (gk : Int) (gnm : ByteArray) (gcon : Int) (gfa : Option Addr) (gfl gfc : Nat) (gla : Option Addr) (gll glc : Nat) (gra : Option Addr) (grl grc : Nat)
    (zk : Int) (znm : ByteArray) (zcon : Int) (zfa : Option Addr) (zfl zfc : Nat) (zla : Option Addr) (zll zlc : Nat) (zra : Option Addr) (zrl zrc : Nat) (K J : Nat → Hd) (w : World) (hE : EnvM bm bs bM bF bL w) (t : Top w (Off bm) A ⟨hk, hnm, hcon, hfa, hfl, hfc, hla, hll, hlc, hra, hrl, hrc⟩ K) (u : Top w (Off bm) B ⟨gk, gnm, gcon, gfa, gfl, gfc, gla, gll, glc, gra, grl, grc⟩ J) (hh : ∀ i X, A.kids[i]? = some X → Lies w (Off bm) R X (K i)) (hg : ∀ i X, B.kids[i]? = some X → Lies w (Off bm) R' X (J i))
    (sa : ∀ (i : Nat) (X : Ty), A.kids[i]? = some X → (look r X).2.2 = true) (sb : ∀ (i : Nat) (X : Ty), B.kids[i]? = some X → (look r X).2.2 = true) (fa : A.kids.length ≤ 17) (fb : B.kids.length ≤ 17) (hbm : bm < w.heap.size) (st : StM bm L σ w) (n : Nat) (fS : ByteArray → Option Value) (hM : MapIs w Try.prog 9 bm n fS) (hu : (fS hnm).getD hd0.val = Hd.val ⟨zk, znm, zcon, zfa, zfl, zfc, zla, zll, zlc, zra, zrl, zrc⟩) (hok : (fS hnm).isSome = true) (hx : hk ≠ 12) (eK : hk = gk) (eN : hnm = gnm) (eC : hcon = gcon) (σ1 : St) (hF : fieldsV (mtch L r) σ A.fn B.fn (fA A) (fA B) = some σ1) (σ2 : St) (hL : walkK (mtch L r) σ1 (lA A) (lA B) = some σ2) (σ3 : St) (hR : walkK (mtch L r) σ2 (rA A) (rA B) = some σ3) :
    Calls Try.prog 51 #[Hd.val ⟨hk, hnm, hcon, hfa, hfl, hfc, hla, hll, hlc, hra, hrl, hrc⟩, Hd.val ⟨gk, gnm, gcon, gfa, gfl, gfc, gla, gll, glc, gra, grl, grc⟩, .pointer (some ⟨bs, 0, none⟩), .pointer (some ⟨bF, 0, none⟩), .pointer (some ⟨bL, 0, none⟩)] w (MP bm L (partsV L r σ A B) w) := by
  have HM := Lib.hid hM
  have HU := Lib.hid hu
  have HOK := Lib.hid hok
  have HSZ := Lib.hid (show hnm.size ≤ maxLen by have := t.rn; simp only at this; unfold maxLen; omega)
  have ST := Lib.hid st
  have KW0 := Lib.hid (show Kp w (((w.alloc (.cells #[.int .i64 hk, .string hnm, .int .i64 hcon, .slice hfa hfl hfc, .slice hla hll hlc, .slice hra hrl hrc] 42)).alloc (.cells #[.int .i64 gk, .string gnm, .int .i64 gcon, .slice gfa gfl gfc, .slice gla gll glc, .slice gra grl grc] 42)).alloc (.cells #[.int .i64 zk, .string znm, .int .i64 zcon, .slice zfa zfl zfc, .slice zla zll zlc, .slice zra zrl zrc] 42)) from (((Kp.refl w).alloc _).alloc _).alloc _)
  have cs := hE.cs
  have cF := hE.cF
  have cL := hE.cL
  have bsl : bs < w.heap.size := lt_of_cell cs
  have bFl : bF < w.heap.size := lt_of_cell cF
  have bLl : bL < w.heap.size := lt_of_cell cL
  obtain ⟨bs1, bs2, bs3⟩ : bs < w.heap.size + 1 ∧ bs < w.heap.size + 1 + 1 ∧ bs < w.heap.size + 1 + 1 + 1 := ⟨by omega, by omega, by omega⟩
  obtain ⟨bF1, bF2, bF3'⟩ : bF < w.heap.size + 1 ∧ bF < w.heap.size + 1 + 1 ∧ bF < w.heap.size + 1 + 1 + 1 := ⟨by omega, by omega, by omega⟩
  obtain ⟨bL1, bL2, bL3'⟩ : bL < w.heap.size + 1 ∧ bL < w.heap.size + 1 + 1 ∧ bL < w.heap.size + 1 + 1 + 1 := ⟨by omega, by omega, by omega⟩
  have HB : Hid (∀ W, Mk bm (((w.alloc (.cells #[.int .i64 hk, .string hnm, .int .i64 hcon, .slice hfa hfl hfc, .slice hla hll hlc, .slice hra hrl hrc] 42)).alloc (.cells #[.int .i64 gk, .string gnm, .int .i64 gcon, .slice gfa gfl gfc, .slice gla gll glc, .slice gra grl grc] 42)).alloc (.cells #[.int .i64 zk, .string znm, .int .i64 zcon, .slice zfa zfl zfc, .slice zla zll zlc, .slice zra zrl zrc] 42)) W → W.cell? ⟨bF, 0, none⟩ = some (.func (.func 49) #[] #[.pointer (some ⟨bM, 0, none⟩)]) ∧ W.cell? ⟨bL, 0, none⟩ = some (.func (.func 50) #[] #[.pointer (some ⟨bM, 0, none⟩)]) ∧ W.cell? ⟨w.heap.size, 0, none⟩ = some (.int .i64 hk) ∧ W.cell? ⟨w.heap.size, 1, none⟩ = some (.string hnm) ∧ W.cell? ⟨w.heap.size, 2, none⟩ = some (.int .i64 hcon) ∧ W.cell? ⟨w.heap.size, 3, none⟩ = some (.slice hfa hfl hfc) ∧ W.cell? ⟨w.heap.size, 4, none⟩ = some (.slice hla hll hlc) ∧ W.cell? ⟨w.heap.size, 5, none⟩ = some (.slice hra hrl hrc) ∧ W.cell? ⟨w.heap.size + 1, 0, none⟩ = some (.int .i64 gk) ∧ W.cell? ⟨w.heap.size + 1, 1, none⟩ = some (.string gnm) ∧ W.cell? ⟨w.heap.size + 1, 2, none⟩ = some (.int .i64 gcon) ∧ W.cell? ⟨w.heap.size + 1, 3, none⟩ = some (.slice gfa gfl gfc) ∧ W.cell? ⟨w.heap.size + 1, 4, none⟩ = some (.slice gla gll glc) ∧ W.cell? ⟨w.heap.size + 1, 5, none⟩ = some (.slice gra grl grc)) := Lib.hid (fun W km => by
    obtain ⟨p0, p1, p2, p3, p4, p5, ps⟩ := boxed (h := ⟨hk, hnm, hcon, hfa, hfl, hfc, hla, hll, hlc, hra, hrl, hrc⟩) (show Kp (w.alloc (.cells #[.int .i64 hk, .string hnm, .int .i64 hcon, .slice hfa hfl hfc, .slice hla hll hlc, .slice hra hrl hrc] 42)) (((w.alloc (.cells #[.int .i64 hk, .string hnm, .int .i64 hcon, .slice hfa hfl hfc, .slice hla hll hlc, .slice hra hrl hrc] 42)).alloc (.cells #[.int .i64 gk, .string gnm, .int .i64 gcon, .slice gfa gfl gfc, .slice gla gll glc, .slice gra grl grc] 42)).alloc (.cells #[.int .i64 zk, .string znm, .int .i64 zcon, .slice zfa zfl zfc, .slice zla zll zlc, .slice zra zrl zrc] 42)) from ((Kp.refl _).alloc _).alloc _)
    obtain ⟨q0, q1, q2, q3, q4, q5, qs⟩ := boxed (h := ⟨gk, gnm, gcon, gfa, gfl, gfc, gla, gll, glc, gra, grl, grc⟩) (show Kp ((w.alloc (.cells #[.int .i64 hk, .string hnm, .int .i64 hcon, .slice hfa hfl hfc, .slice hla hll hlc, .slice hra hrl hrc] 42)).alloc (.cells #[.int .i64 gk, .string gnm, .int .i64 gcon, .slice gfa gfl gfc, .slice gla gll glc, .slice gra grl grc] 42)) (((w.alloc (.cells #[.int .i64 hk, .string hnm, .int .i64 hcon, .slice hfa hfl hfc, .slice hla hll hlc, .slice hra hrl hrc] 42)).alloc (.cells #[.int .i64 gk, .string gnm, .int .i64 gcon, .slice gfa gfl gfc, .slice gla gll glc, .slice gra grl grc] 42)).alloc (.cells #[.int .i64 zk, .string znm, .int .i64 zcon, .slice zfa zfl zfc, .slice zla zll zlc, .slice zra zrl zrc] 42)) from (Kp.refl _).alloc _)
    simp only [World.size_alloc] at q0 q1 q2 q3 q4 q5
    have n1 : w.heap.size ≠ bm := by omega
    have n2 : w.heap.size + 1 ≠ bm := by omega
    exact ⟨km.cellv (KW0.out.cellv hE.cF) hE.nF, km.cellv (KW0.out.cellv hE.cL) hE.nL, km.cellv p0 n1, km.cellv p1 n1, km.cellv p2 n1, km.cellv p3 n1, km.cellv p4 n1, km.cellv p5 n1, km.cellv q0 n2, km.cellv q1 n2, km.cellv q2 n2, km.cellv q3 n2, km.cellv q4 n2, km.cellv q5 n2⟩)
  obtain ⟨y1, y2, y3, y4⟩ := parts_len t
  obtain ⟨z1, z2, z3, z4⟩ := parts_len u
  simp only at y1 y2 y3 y4 z1 z2 z3 z4
  have CF := Lib.hid (fun W (km : Mk bm w W) (hs : StM bm L σ W) => c_fieldsW bm bs bM bF bL L r R R' ih σ A.fn B.fn (fA A) (fA B) y1 z1 hfl gfl y4 z4 hfa gfa hfc gfc K J W (hE.turn km) (t.tf.mk km) (fun i X hX => (hh i X (fA_at hX)).mk km) (u.tf.mk km) (fun i X hX => (hg i X (fA_at hX)).mk km) (fun i X hX => sa i X (fA_at hX)) (fun i X hX => sb i X (fA_at hX)) (by have := t.es; simp only at this; omega) (Nat.lt_of_lt_of_le hbm km.sz) hs)
  have CL0 := Lib.hid (fun (σ1 : St) W (km : Mk bm w W) (hs : StM bm L σ1 W) => c_listV bm bs bM bF bL L r R R' ih σ1 (lA A) (lA B) hll gll y2 z2 hla gla hlc glc (fun i => K (hfl + i)) (fun i => J (gfl + i)) W (hE.turn km) (t.tl.mk km) (fun i X hX => (hh _ X (y4 ▸ lA_at hX)).mk km) (u.tl.mk km) (fun i X hX => (hg _ X (z4 ▸ lA_at hX)).mk km) (fun i X hX => sa _ X (lA_at hX)) (fun i X hX => sb _ X (lA_at hX)) (by have := t.es; simp only at this; omega) (Nat.lt_of_lt_of_le hbm km.sz) hs)
  have ea : A.nl = hll := t.el
  have eb : B.nl = gll := u.el
  have CR0 := Lib.hid (fun (σ1 : St) W (km : Mk bm w W) (hs : StM bm L σ1 W) => c_listV bm bs bM bF bL L r R R' ih σ1 (rA A) (rA B) hrl grl y3 z3 hra gra hrc grc (fun i => K (hfl + hll + i)) (fun i => J (gfl + gll + i)) W (hE.turn km) (t.tr.mk km) (fun i X hX => (hh _ X (by have := rA_at hX; rwa [y4, ea] at this)).mk km) (u.tr.mk km) (fun i X hX => (hg _ X (by have := rA_at hX; rwa [z4, eb] at this)).mk km) (fun i X hX => sa _ X (rA_at hX)) (fun i X hX => sb _ X (rA_at hX)) (by have := t.es; simp only at this; omega) (Nat.lt_of_lt_of_le hbm km.sz) hs)
  have ek1 : A.k = hk := t.ek
  have en1 : A.nm = hnm := t.en
  have ec1 : A.con = hcon := t.ec
  have ek2 : B.k = gk := u.ek
  have en2 : B.nm = gnm := u.en
  have ec2 : B.con = gcon := u.ec
  have TOP := Lib.hid (show (A.k = B.k ∧ A.nm = B.nm ∧ A.con = B.con) ↔ (hk = gk ∧ hnm = gnm ∧ hcon = gcon) by rw [ek1, en1, ec1, ek2, en2, ec2])
  clear hM hu hok t u hh hg sa sb st ih hE y1 y2 y3 y4 z1 z2 z3 z4 ea eb ek1 en1 ec1 ek2 en2 ec2
  have b0 : (hk != 12) = true := bne_iff_ne.2 hx
  clear hx
  have HN := Lib.hid ((pv_r (TOP.out.2 ⟨eK, eN, eC⟩) hF hL).trans hR)
  have HF := Lib.hid hF
  have HL := Lib.hid hL
  have HR := Lib.hid hR
  have CL := Lib.hid (CL0.out σ1)
  have CR := Lib.hid (CR0.out σ2)
  clear hF hL hR
  have b1 : (hk == gk) = true := by (rw [eK]; simp)
  have b2 : (hnm.toList == gnm.toList) = true := by (rw [eN]; simp)
  have b3 : (hcon == gcon) = true := by (rw [eC]; simp)
  clear eK eN eC
  go_enter Try.func51, Try.ntmps51
  go_wp2_with (first | ((with_reducible show wpList _ _ _ (⟨some 16, _, _, _, _, _⟩ :: _) _ _); refine wpList_map_ok (d := 16) _ _ 66 9 42 rfl Try.underlying9 Try.underlying66 _ (zeroY) bm n fS (by rfl) (((HM.out.alloc _).alloc _)) hnm (by rfl) HSZ.out (⟨zk, znm, zcon, zfa, zfl, zfc, zla, zll, zlc, zra, zrl, zrc⟩ : Hd).val HU.out true HOK.out ?_) | (go_at_call 49; refine (CF.out _ KW0.out.mk (ST.out.keep KW0.out)).mono ?_; intro e w3 hp3; obtain ⟨he3, hk3, hs3⟩ := hp3.yes HF.out; subst he3; obtain ⟨bF3, bL3, p0, p1, p2, p3, p4, p5, q0, q1, q2, q3, q4, q5⟩ := HB.out w3 hk3; have HK3 := Lib.hid (KW0.out.mk.trans hk3); have hz3 := hk3.sz) | (go_at_call 50; (with_reducible refine (CL.out _ HK3.out hs3).mono ?_); intro e w4 hp4; obtain ⟨he4, hk4, hs4⟩ := hp4.yes HL.out; subst he4; obtain ⟨bF4, bL4, p0', p1', p2', p3', p4', p5', q0', q1', q2', q3', q4', q5'⟩ := HB.out w4 (hk3.trans hk4); have HK4 := Lib.hid (HK3.out.trans hk4); have hz4 := hk4.sz) | (go_at_call 50; (with_reducible refine (CR.out _ HK4.out hs4).mono ?_); intro e w5 hp5; obtain ⟨he5, hk5, hs5⟩ := hp5.yes HR.out; subst he5; have HK5 := Lib.hid (HK4.out.trans hk5)))
  go_ret
  exact ⟨HK5.out, .inr ⟨σ3, HN.out, rfl, hs5⟩⟩
end Go.Proofs.Ytfjflfokmihcpaa
