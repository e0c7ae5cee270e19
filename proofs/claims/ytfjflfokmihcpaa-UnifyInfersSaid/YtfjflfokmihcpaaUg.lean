/- The matcher (matcher$3) where what is wanted is one of the names; the matcher as a whole. Condition: both types lie in memory, outside the map, and are sound. -/
import Derived.Test.YtfjflfokmihcpaaUf
import Derived.Test.YtfjflfokmihcpaaFp
import Derived.Test.YtfjflfokmihcpaaM
namespace Go.Proofs.Ytfjflfokmihcpaa
open Go.RowKit
set_option linter.unusedVariables false
set_option linter.unusedSimpArgs false
set_option maxHeartbeats 1600000 in
theorem c_isKnown (h : Hd) (w : World) : Calls Try.prog 23 #[h.val] w fun e w' => e = .returned (.bool (h.k != 0)) ∧ Kp w w' := by
  go_enter Try.func23, Try.ntmps23
  go_wp2_with fail
  go_ret
  exact ⟨rfl, (Kp.refl w).alloc _⟩
set_option maxHeartbeats 6400000 in
set_option maxRecDepth 100000 in
theorem match_known (bm bs bM bF bL : Nat) (L : List ByteArray) (σ : St) (B : Ty) (R' : Nat) (hk : Int) (hnm : ByteArray) (hcon : Int) (hfa : Option Addr) (hfl hfc : Nat) (hla : Option Addr) (hll hlc : Nat) (hra : Option Addr) (hrl hrc : Nat) (gk : Int) (gnm : ByteArray) (gcon : Int) (gfa : Option Addr) (gfl gfc : Nat) (gla : Option Addr) (gll glc : Nat) (gra : Option Addr) (grl grc : Nat)
    (zk : Int) (znm : ByteArray) (zcon : Int) (zfa : Option Addr) (zfl zfc : Nat) (zla : Option Addr) (zll zlc : Nat) (zra : Option Addr) (zrl zrc : Nat) (w : World) (cs : w.cell? ⟨bs, 0, none⟩ = some (.map (some bm))) (hsz : hnm.size ≤ maxLen) (hg : Lies w (Off bm) R' B ⟨gk, gnm, gcon, gfa, gfl, gfc, gla, gll, glc, gra, grl, grc⟩) (sB : (look 9 B).2.2 = true) (hbm : bm < w.heap.size)
    (n : Nat) (fS : ByteArray → Option Value) (hM : MapIs w Try.prog 9 bm n fS) (hu : (fS hnm).getD hd0.val = Hd.val ⟨zk, znm, zcon, zfa, zfl, zfc, zla, zll, zlc, zra, zrl, zrc⟩) (hok : (fS hnm).isSome = true) (hx : hk = 12) (S : Ty) (R2 : Nat) (hS : Lies w (Off bm) R2 S ⟨zk, znm, zcon, zfa, zfl, zfc, zla, zll, zlc, zra, zrl, zrc⟩) (sS : (look 9 S).2.2 = true) (hz : zk ≠ 0) (st : StM bm L σ w) :
    Calls Try.prog 51 #[Hd.val ⟨hk, hnm, hcon, hfa, hfl, hfc, hla, hll, hlc, hra, hrl, hrc⟩, Hd.val ⟨gk, gnm, gcon, gfa, gfl, gfc, gla, gll, glc, gra, grl, grc⟩, .pointer (some ⟨bs, 0, none⟩), .pointer (some ⟨bF, 0, none⟩), .pointer (some ⟨bL, 0, none⟩)] w (MP bm L (if eqB S B = true then some σ else none) w) := by
  have HM := Lib.hid hM
  have HU := Lib.hid hu
  have HOK := Lib.hid hok
  have HSZ := Lib.hid hsz
  have HG := Lib.hid hg
  have SB := Lib.hid sB
  have KW0 := Lib.hid (show Kp w (((w.alloc (.cells #[.int .i64 hk, .string hnm, .int .i64 hcon, .slice hfa hfl hfc, .slice hla hll hlc, .slice hra hrl hrc] 42)).alloc (.cells #[.int .i64 gk, .string gnm, .int .i64 gcon, .slice gfa gfl gfc, .slice gla gll glc, .slice gra grl grc] 42)).alloc (.cells #[.int .i64 zk, .string znm, .int .i64 zcon, .slice zfa zfl zfc, .slice zla zll zlc, .slice zra zrl zrc] 42)) from (((Kp.refl w).alloc _).alloc _).alloc _)
  have b0 : (hk != 12) = false := by (rw [hx]; rfl)
  have bsl : bs < w.heap.size := lt_of_cell cs
  obtain ⟨bs1, bs2, bs3⟩ : bs < w.heap.size + 1 ∧ bs < w.heap.size + 1 + 1 ∧ bs < w.heap.size + 1 + 1 + 1 := ⟨by omega, by omega, by omega⟩
  have HB : Hid (∀ W, Kp (((w.alloc (.cells #[.int .i64 hk, .string hnm, .int .i64 hcon, .slice hfa hfl hfc, .slice hla hll hlc, .slice hra hrl hrc] 42)).alloc (.cells #[.int .i64 gk, .string gnm, .int .i64 gcon, .slice gfa gfl gfc, .slice gla gll glc, .slice gra grl grc] 42)).alloc (.cells #[.int .i64 zk, .string znm, .int .i64 zcon, .slice zfa zfl zfc, .slice zla zll zlc, .slice zra zrl zrc] 42)) W → W.cell? ⟨bs, 0, none⟩ = some (.map (some bm)) ∧ W.cell? ⟨w.heap.size, 1, none⟩ = some (.string hnm) ∧ W.cell? ⟨w.heap.size + 1, 0, none⟩ = some (.int .i64 gk) ∧ W.cell? ⟨w.heap.size + 1, 1, none⟩ = some (.string gnm) ∧ W.cell? ⟨w.heap.size + 1, 2, none⟩ = some (.int .i64 gcon) ∧ W.cell? ⟨w.heap.size + 1, 3, none⟩ = some (.slice gfa gfl gfc) ∧ W.cell? ⟨w.heap.size + 1, 4, none⟩ = some (.slice gla gll glc) ∧ W.cell? ⟨w.heap.size + 1, 5, none⟩ = some (.slice gra grl grc) ∧ W.cell? ⟨w.heap.size + 1 + 1, 0, none⟩ = some (.int .i64 zk) ∧ W.cell? ⟨w.heap.size + 1 + 1, 1, none⟩ = some (.string znm) ∧ W.cell? ⟨w.heap.size + 1 + 1, 2, none⟩ = some (.int .i64 zcon) ∧ W.cell? ⟨w.heap.size + 1 + 1, 3, none⟩ = some (.slice zfa zfl zfc) ∧ W.cell? ⟨w.heap.size + 1 + 1, 4, none⟩ = some (.slice zla zll zlc) ∧ W.cell? ⟨w.heap.size + 1 + 1, 5, none⟩ = some (.slice zra zrl zrc)) := Lib.hid (fun W km => by
    obtain ⟨p0, p1, p2, p3, p4, p5, ps⟩ := boxed (h := ⟨hk, hnm, hcon, hfa, hfl, hfc, hla, hll, hlc, hra, hrl, hrc⟩) (show Kp (w.alloc (.cells #[.int .i64 hk, .string hnm, .int .i64 hcon, .slice hfa hfl hfc, .slice hla hll hlc, .slice hra hrl hrc] 42)) (((w.alloc (.cells #[.int .i64 hk, .string hnm, .int .i64 hcon, .slice hfa hfl hfc, .slice hla hll hlc, .slice hra hrl hrc] 42)).alloc (.cells #[.int .i64 gk, .string gnm, .int .i64 gcon, .slice gfa gfl gfc, .slice gla gll glc, .slice gra grl grc] 42)).alloc (.cells #[.int .i64 zk, .string znm, .int .i64 zcon, .slice zfa zfl zfc, .slice zla zll zlc, .slice zra zrl zrc] 42)) from ((Kp.refl _).alloc _).alloc _)
    obtain ⟨q0, q1, q2, q3, q4, q5, qs⟩ := boxed (h := ⟨gk, gnm, gcon, gfa, gfl, gfc, gla, gll, glc, gra, grl, grc⟩) (show Kp ((w.alloc (.cells #[.int .i64 hk, .string hnm, .int .i64 hcon, .slice hfa hfl hfc, .slice hla hll hlc, .slice hra hrl hrc] 42)).alloc (.cells #[.int .i64 gk, .string gnm, .int .i64 gcon, .slice gfa gfl gfc, .slice gla gll glc, .slice gra grl grc] 42)) (((w.alloc (.cells #[.int .i64 hk, .string hnm, .int .i64 hcon, .slice hfa hfl hfc, .slice hla hll hlc, .slice hra hrl hrc] 42)).alloc (.cells #[.int .i64 gk, .string gnm, .int .i64 gcon, .slice gfa gfl gfc, .slice gla gll glc, .slice gra grl grc] 42)).alloc (.cells #[.int .i64 zk, .string znm, .int .i64 zcon, .slice zfa zfl zfc, .slice zla zll zlc, .slice zra zrl zrc] 42)) from (Kp.refl _).alloc _)
    obtain ⟨r0, r1, r2, r3, r4, r5, rs⟩ := boxed (h := ⟨zk, znm, zcon, zfa, zfl, zfc, zla, zll, zlc, zra, zrl, zrc⟩) (show Kp (((w.alloc (.cells #[.int .i64 hk, .string hnm, .int .i64 hcon, .slice hfa hfl hfc, .slice hla hll hlc, .slice hra hrl hrc] 42)).alloc (.cells #[.int .i64 gk, .string gnm, .int .i64 gcon, .slice gfa gfl gfc, .slice gla gll glc, .slice gra grl grc] 42)).alloc (.cells #[.int .i64 zk, .string znm, .int .i64 zcon, .slice zfa zfl zfc, .slice zla zll zlc, .slice zra zrl zrc] 42)) W from km)
    simp only [World.size_alloc] at q0 q1 q2 q3 q4 q5 r0 r1 r2 r3 r4 r5
    exact ⟨km.cellv (KW0.out.cellv cs), km.cellv p1, km.cellv q0, km.cellv q1, km.cellv q2, km.cellv q3, km.cellv q4, km.cellv q5, r0, r1, r2, r3, r4, r5⟩)
  have HS := Lib.hid hS
  have ST := Lib.hid st
  have CS := Lib.hid (fun W (k : Kp w W) => (c_Same R2 R' S B ⟨zk, znm, zcon, zfa, zfl, zfc, zla, zll, zlc, zra, zrl, zrc⟩ ⟨gk, gnm, gcon, gfa, gfl, gfc, gla, gll, glc, gra, grl, grc⟩ W (hS.any.keep k) (hg.any.keep k)).mono (fun e w' hp => (show e = .returned (.tuple #[.bool (eqB S B), .int .i64 0]) ∧ Kp W w' from ⟨hp.1.trans (by rw [sS, sB]; rfl), hp.2⟩)))
  have bz : (zk != 0) = true := bne_iff_ne.2 hz
  clear hM hu hok hsz hg sB hS sS hz st hx
  cases c2 : eqB S B with
  | false =>
    go_enter Try.func51, Try.ntmps51
    go_wp2_with (first | ((with_reducible show wpList _ _ _ (⟨some 16, _, _, _, _, _⟩ :: _) _ _); refine wpList_map_ok (d := 16) _ _ 66 9 42 rfl Try.underlying9 Try.underlying66 _ (zeroY) bm n fS (by rfl) (((HM.out.alloc _).alloc _)) hnm (by rfl) HSZ.out (⟨zk, znm, zcon, zfa, zfl, zfc, zla, zll, zlc, zra, zrl, zrc⟩ : Hd).val HU.out true HOK.out ?_) | (go_at_call 23; refine (c_isKnown ⟨zk, znm, zcon, zfa, zfl, zfc, zla, zll, zlc, zra, zrl, zrc⟩ _).mono ?_; rintro e w5 ⟨rfl, hk5⟩; rw [bz]; obtain ⟨cs5, p1, q0, q1, q2, q3, q4, q5, r0, r1, r2, r3, r4, r5⟩ := HB.out w5 hk5; have KW5 := Lib.hid (KW0.out.trans hk5); have hz5 := hk5.sz; clear hk5) | (go_at_call 52; refine (CS.out _ KW5.out).mono ?_; rintro e w6 ⟨rfl, hk6⟩; rw [c2]; have KW6 := Lib.hid (KW5.out.trans hk6); clear hk6))
    go_ret
    exact ⟨KW6.out.mk, .inl ⟨rfl, rfl⟩⟩
  | true =>
    go_enter Try.func51, Try.ntmps51
    go_wp2_with (first | ((with_reducible show wpList _ _ _ (⟨some 16, _, _, _, _, _⟩ :: _) _ _); refine wpList_map_ok (d := 16) _ _ 66 9 42 rfl Try.underlying9 Try.underlying66 _ (zeroY) bm n fS (by rfl) (((HM.out.alloc _).alloc _)) hnm (by rfl) HSZ.out (⟨zk, znm, zcon, zfa, zfl, zfc, zla, zll, zlc, zra, zrl, zrc⟩ : Hd).val HU.out true HOK.out ?_) | (go_at_call 23; refine (c_isKnown ⟨zk, znm, zcon, zfa, zfl, zfc, zla, zll, zlc, zra, zrl, zrc⟩ _).mono ?_; rintro e w5 ⟨rfl, hk5⟩; rw [bz]; obtain ⟨cs5, p1, q0, q1, q2, q3, q4, q5, r0, r1, r2, r3, r4, r5⟩ := HB.out w5 hk5; have KW5 := Lib.hid (KW0.out.trans hk5); have hz5 := hk5.sz; clear hk5) | (go_at_call 52; refine (CS.out _ KW5.out).mono ?_; rintro e w6 ⟨rfl, hk6⟩; rw [c2]; have KW6 := Lib.hid (KW5.out.trans hk6); clear hk6))
    go_ret
    exact ⟨KW6.out.mk, .inr ⟨σ, rfl, rfl, ST.out.keep KW6.out⟩⟩
set_option maxHeartbeats 6400000 in
set_option maxRecDepth 100000 in
theorem match_new (bm bs bM bF bL : Nat) (L : List ByteArray) (σ : St) (B : Ty) (R' : Nat) (hk : Int) (hnm : ByteArray) (hcon : Int) (hfa : Option Addr) (hfl hfc : Nat) (hla : Option Addr) (hll hlc : Nat) (hra : Option Addr) (hrl hrc : Nat) (gk : Int) (gnm : ByteArray) (gcon : Int) (gfa : Option Addr) (gfl gfc : Nat) (gla : Option Addr) (gll glc : Nat) (gra : Option Addr) (grl grc : Nat)
    (zk : Int) (znm : ByteArray) (zcon : Int) (zfa : Option Addr) (zfl zfc : Nat) (zla : Option Addr) (zll zlc : Nat) (zra : Option Addr) (zrl zrc : Nat) (w : World) (cs : w.cell? ⟨bs, 0, none⟩ = some (.map (some bm))) (hsz : hnm.size ≤ maxLen) (hg : Lies w (Off bm) R' B ⟨gk, gnm, gcon, gfa, gfl, gfc, gla, gll, glc, gra, grl, grc⟩) (sB : (look 9 B).2.2 = true) (hbm : bm < w.heap.size)
    (n : Nat) (fS : ByteArray → Option Value) (hM : MapIs w Try.prog 9 bm n fS) (hu : (fS hnm).getD hd0.val = Hd.val ⟨zk, znm, zcon, zfa, zfl, zfc, zla, zll, zlc, zra, zrl, zrc⟩) (hok : (fS hnm).isSome = true) (hx : hk = 12) (hz : zk = 0) (hn2 : n ≤ L.length + kn L σ) (hlL : L.length * 16 ≤ 140737488351232) (hF : ∀ s, (s ∉ L → fS s = none) ∧ (s ∈ L → ∃ hd : Hd, fS s = some hd.val ∧ StE bm w (σ s) hd)) (hm : hnm ∈ L) (hno : σ hnm = none) :
    Calls Try.prog 51 #[Hd.val ⟨hk, hnm, hcon, hfa, hfl, hfc, hla, hll, hlc, hra, hrl, hrc⟩, Hd.val ⟨gk, gnm, gcon, gfa, gfl, gfc, gla, gll, glc, gra, grl, grc⟩, .pointer (some ⟨bs, 0, none⟩), .pointer (some ⟨bF, 0, none⟩), .pointer (some ⟨bL, 0, none⟩)] w (MP bm L (some (sput σ hnm B)) w) := by
  have HM := Lib.hid hM
  have HU := Lib.hid hu
  have HOK := Lib.hid hok
  have HSZ := Lib.hid hsz
  have HG := Lib.hid hg
  have SB := Lib.hid sB
  have KW0 := Lib.hid (show Kp w (((w.alloc (.cells #[.int .i64 hk, .string hnm, .int .i64 hcon, .slice hfa hfl hfc, .slice hla hll hlc, .slice hra hrl hrc] 42)).alloc (.cells #[.int .i64 gk, .string gnm, .int .i64 gcon, .slice gfa gfl gfc, .slice gla gll glc, .slice gra grl grc] 42)).alloc (.cells #[.int .i64 zk, .string znm, .int .i64 zcon, .slice zfa zfl zfc, .slice zla zll zlc, .slice zra zrl zrc] 42)) from (((Kp.refl w).alloc _).alloc _).alloc _)
  have b0 : (hk != 12) = false := by (rw [hx]; rfl)
  have bsl : bs < w.heap.size := lt_of_cell cs
  obtain ⟨bs1, bs2, bs3⟩ : bs < w.heap.size + 1 ∧ bs < w.heap.size + 1 + 1 ∧ bs < w.heap.size + 1 + 1 + 1 := ⟨by omega, by omega, by omega⟩
  have HB : Hid (∀ W, Kp (((w.alloc (.cells #[.int .i64 hk, .string hnm, .int .i64 hcon, .slice hfa hfl hfc, .slice hla hll hlc, .slice hra hrl hrc] 42)).alloc (.cells #[.int .i64 gk, .string gnm, .int .i64 gcon, .slice gfa gfl gfc, .slice gla gll glc, .slice gra grl grc] 42)).alloc (.cells #[.int .i64 zk, .string znm, .int .i64 zcon, .slice zfa zfl zfc, .slice zla zll zlc, .slice zra zrl zrc] 42)) W → W.cell? ⟨bs, 0, none⟩ = some (.map (some bm)) ∧ W.cell? ⟨w.heap.size, 1, none⟩ = some (.string hnm) ∧ W.cell? ⟨w.heap.size + 1, 0, none⟩ = some (.int .i64 gk) ∧ W.cell? ⟨w.heap.size + 1, 1, none⟩ = some (.string gnm) ∧ W.cell? ⟨w.heap.size + 1, 2, none⟩ = some (.int .i64 gcon) ∧ W.cell? ⟨w.heap.size + 1, 3, none⟩ = some (.slice gfa gfl gfc) ∧ W.cell? ⟨w.heap.size + 1, 4, none⟩ = some (.slice gla gll glc) ∧ W.cell? ⟨w.heap.size + 1, 5, none⟩ = some (.slice gra grl grc) ∧ W.cell? ⟨w.heap.size + 1 + 1, 0, none⟩ = some (.int .i64 zk) ∧ W.cell? ⟨w.heap.size + 1 + 1, 1, none⟩ = some (.string znm) ∧ W.cell? ⟨w.heap.size + 1 + 1, 2, none⟩ = some (.int .i64 zcon) ∧ W.cell? ⟨w.heap.size + 1 + 1, 3, none⟩ = some (.slice zfa zfl zfc) ∧ W.cell? ⟨w.heap.size + 1 + 1, 4, none⟩ = some (.slice zla zll zlc) ∧ W.cell? ⟨w.heap.size + 1 + 1, 5, none⟩ = some (.slice zra zrl zrc)) := Lib.hid (fun W km => by
    obtain ⟨p0, p1, p2, p3, p4, p5, ps⟩ := boxed (h := ⟨hk, hnm, hcon, hfa, hfl, hfc, hla, hll, hlc, hra, hrl, hrc⟩) (show Kp (w.alloc (.cells #[.int .i64 hk, .string hnm, .int .i64 hcon, .slice hfa hfl hfc, .slice hla hll hlc, .slice hra hrl hrc] 42)) (((w.alloc (.cells #[.int .i64 hk, .string hnm, .int .i64 hcon, .slice hfa hfl hfc, .slice hla hll hlc, .slice hra hrl hrc] 42)).alloc (.cells #[.int .i64 gk, .string gnm, .int .i64 gcon, .slice gfa gfl gfc, .slice gla gll glc, .slice gra grl grc] 42)).alloc (.cells #[.int .i64 zk, .string znm, .int .i64 zcon, .slice zfa zfl zfc, .slice zla zll zlc, .slice zra zrl zrc] 42)) from ((Kp.refl _).alloc _).alloc _)
    obtain ⟨q0, q1, q2, q3, q4, q5, qs⟩ := boxed (h := ⟨gk, gnm, gcon, gfa, gfl, gfc, gla, gll, glc, gra, grl, grc⟩) (show Kp ((w.alloc (.cells #[.int .i64 hk, .string hnm, .int .i64 hcon, .slice hfa hfl hfc, .slice hla hll hlc, .slice hra hrl hrc] 42)).alloc (.cells #[.int .i64 gk, .string gnm, .int .i64 gcon, .slice gfa gfl gfc, .slice gla gll glc, .slice gra grl grc] 42)) (((w.alloc (.cells #[.int .i64 hk, .string hnm, .int .i64 hcon, .slice hfa hfl hfc, .slice hla hll hlc, .slice hra hrl hrc] 42)).alloc (.cells #[.int .i64 gk, .string gnm, .int .i64 gcon, .slice gfa gfl gfc, .slice gla gll glc, .slice gra grl grc] 42)).alloc (.cells #[.int .i64 zk, .string znm, .int .i64 zcon, .slice zfa zfl zfc, .slice zla zll zlc, .slice zra zrl zrc] 42)) from (Kp.refl _).alloc _)
    obtain ⟨r0, r1, r2, r3, r4, r5, rs⟩ := boxed (h := ⟨zk, znm, zcon, zfa, zfl, zfc, zla, zll, zlc, zra, zrl, zrc⟩) (show Kp (((w.alloc (.cells #[.int .i64 hk, .string hnm, .int .i64 hcon, .slice hfa hfl hfc, .slice hla hll hlc, .slice hra hrl hrc] 42)).alloc (.cells #[.int .i64 gk, .string gnm, .int .i64 gcon, .slice gfa gfl gfc, .slice gla gll glc, .slice gra grl grc] 42)).alloc (.cells #[.int .i64 zk, .string znm, .int .i64 zcon, .slice zfa zfl zfc, .slice zla zll zlc, .slice zra zrl zrc] 42)) W from km)
    simp only [World.size_alloc] at q0 q1 q2 q3 q4 q5 r0 r1 r2 r3 r4 r5
    exact ⟨km.cellv (KW0.out.cellv cs), km.cellv p1, km.cellv q0, km.cellv q1, km.cellv q2, km.cellv q3, km.cellv q4, km.cellv q5, r0, r1, r2, r3, r4, r5⟩)
  have bz : (zk != 0) = false := by (rw [hz]; rfl)
  have HF := Lib.hid hF
  have HMM := Lib.hid hm
  have HNO := Lib.hid hno
  have HN2 := Lib.hid hn2
  have hnl : n < maxLen := by have := kn_le L σ; unfold maxLen; omega
  clear hM hu hok hsz hg sB hz hx hF hm hno hn2
  go_enter Try.func51, Try.ntmps51
  go_wp2_with (first | ((with_reducible show wpList _ _ _ (⟨some 16, _, _, _, _, _⟩ :: _) _ _); refine wpList_map_ok (d := 16) _ _ 66 9 42 rfl Try.underlying9 Try.underlying66 _ (zeroY) bm n fS (by rfl) (((HM.out.alloc _).alloc _)) hnm (by rfl) HSZ.out (⟨zk, znm, zcon, zfa, zfl, zfc, zla, zll, zlc, zra, zrl, zrc⟩ : Hd).val HU.out true HOK.out ?_) | (go_at_call 23; refine (c_isKnown ⟨zk, znm, zcon, zfa, zfl, zfc, zla, zll, zlc, zra, zrl, zrc⟩ _).mono ?_; rintro e w5 ⟨rfl, hk5⟩; rw [bz]; obtain ⟨cs5, p1, q0, q1, q2, q3, q4, q5, r0, r1, r2, r3, r4, r5⟩ := HB.out w5 hk5; have KW5 := Lib.hid (KW0.out.trans hk5); have hz5 := hk5.sz; clear hk5) | (at_mapUpdate; refine wpList_map_set _ _ _ 66 9 42 rfl Try.underlying9 Try.underlying66 bm n fS (by rfl) (HM.out.keep KW5.out) hnl hnm (by rfl) HSZ.out (⟨gk, gnm, gcon, gfa, gfl, gfc, gla, gll, glc, gra, grl, grc⟩ : Hd).val (by rfl) ?_; intro w6 hm6 hg6))
  go_ret
  have k6 : Mk bm w w6 := KW5.out.mk.trans (Mk.grown hg6)
  exact ⟨k6, .inr ⟨_, rfl, rfl, StM.put HN2.out HF.out HMM.out HNO.out hm6 k6 HG.out SB.out⟩⟩
theorem look_up {r : Nat} {T : Ty} (h : (look r T).2.2 = true) (hr : r ≤ 9) : (look 9 T).2.2 = true := by
  have := lp_add h (9 - r)
  rw [show r + (9 - r) = 9 by omega] at this
  rw [this]
  exact h
theorem sound_k {r : Nat} {T : Ty} (h : (look r T).2.2 = true) : 1 ≤ T.k ∧ T.k ≤ 12 := by
  cases r with
  | zero => rw [look_zero] at h; cases h
  | succ r =>
    have := fm_k (h := hdOf T) (look_parts h).1
    simpa [hdOf] using this
/-- The matcher, on sound types. -/
theorem c_match (bm bs bM bF bL : Nat) (L : List ByteArray) (hlL : L.length * 16 ≤ 140737488351232) : ∀ (r R R' : Nat), r ≤ 9 → ∀ (X Y : Ty) (hx hy : Hd) (σ : St) (W : World), EnvM bm bs bM bF bL W → Lies W (Off bm) R X hx → Lies W (Off bm) R' Y hy → (look r X).2.2 = true → (look r Y).2.2 = true → StM bm L σ W →
    Calls Try.prog 51 #[hx.val, hy.val, .pointer (some ⟨bs, 0, none⟩), .pointer (some ⟨bF, 0, none⟩), .pointer (some ⟨bL, 0, none⟩)] W (MP bm L (mtch L r σ X Y) W) := by
  intro r
  induction r with
  | zero => intro R R' _ X Y hx hy σ W _ _ _ hs; rw [look_zero] at hs; cases hs
  | succ r ih =>
    intro R R' hr X Y hx hy σ W hE hl hm hs hs' hst
    have hm0 := hm
    have l9 := look_up hs' hr
    cases R with
    | zero => exact hl.elim
    | succ R =>
      cases R' with
      | zero => exact hm.elim
      | succ R' =>
        have f1 := few_of hs
        have f2 := few_of hs'
        obtain ⟨K, t, hh⟩ := hl
        obtain ⟨J, u, hg⟩ := hm
        have k1 := (look_parts hs).2
        have k2 := (look_parts hs').2
        have hst0 := hst
        obtain ⟨fS, n, hM, hn, hF⟩ := hst
        have hbm := hM.lt
        have ek := t.ek
        have en := t.en
        have hsz : hx.nm.size ≤ maxLen := by have := t.rn; unfold maxLen; omega
        obtain ⟨hk, hnm, hcon, hfa, hfl, hfc, hla, hll, hlc, hra, hrl, hrc⟩ := hx
        obtain ⟨gk, gnm, gcon, gfa, gfl, gfc, gla, gll, glc, gra, grl, grc⟩ := hy
        simp only at ek en hsz
        by_cases hA : X.k = 12 ∧ X.nm ∈ L
        · have hmem : hnm ∈ L := en ▸ hA.2
          have h12 : hk = 12 := ek.symm.trans hA.1
          obtain ⟨hd, e1, e2⟩ := (hF hnm).2 hmem
          rcases e2 with ⟨e3, e4⟩ | ⟨S, R2, e3, e4, e5⟩
          · rw [mtch_new hA (by rw [en]; exact e3), en]
            subst e4
            exact match_new bm bs bM bF bL L σ Y (R' + 1) hk hnm hcon hfa hfl hfc hla hll hlc hra hrl hrc gk gnm gcon gfa gfl gfc gla gll glc gra grl grc 0 ⟨#[]⟩ 0 none 0 0 none 0 0 none 0 0 W hE.cs hsz hm0 l9 hbm n fS hM (by rw [e1]; rfl) (by rw [e1]; rfl) h12 rfl hn hlL hF hmem e3
          · rw [mtch_known hA (by rw [en]; exact e3)]
            have hkk := (sound_k e5).1
            have e4' := e4
            cases R2 with
            | zero => exact e4.elim
            | succ R2 =>
              obtain ⟨K2, t2, _⟩ := e4
              have ek2 := t2.ek
              obtain ⟨zk, znm, zcon, zfa, zfl, zfc, zla, zll, zlc, zra, zrl, zrc⟩ := hd
              simp only at ek2
              exact match_known bm bs bM bF bL L σ Y (R' + 1) hk hnm hcon hfa hfl hfc hla hll hlc hra hrl hrc gk gnm gcon gfa gfl gfc gla gll glc gra grl grc zk znm zcon zfa zfl zfc zla zll zlc zra zrl zrc W hE.cs hsz hm0 l9 hbm n fS hM (by rw [e1]; rfl) (by rw [e1]; rfl) h12 S (R2 + 1) e4' e5 (by omega) hst0
        · have IH : IHm bm bs bM bF bL L r R R' := fun X Y hx hy σ W a b c d e f => ih R R' (by omega) X Y hx hy σ W a b c d e f
          have q1 := t.ef
          have q2 := t.el
          have q3 := t.es
          have q4 := u.ef
          have q5 := u.el
          have q6 := u.es
          rw [mtch_parts hA (by omega) (by omega)]
          show Calls _ _ _ _ (MP bm L (partsV L r σ X Y) W)
          obtain ⟨⟨zk, znm, zcon, zfa, zfl, zfc, zla, zll, zlc, zra, zrl, zrc⟩, hu⟩ : ∃ z : Hd, (fS hnm).getD hd0.val = z.val := by
            by_cases hm : hnm ∈ L
            · obtain ⟨hd, e1, _⟩ := (hF hnm).2 hm
              exact ⟨hd, by rw [e1]; rfl⟩
            · exact ⟨hd0, by rw [(hF hnm).1 hm]; rfl⟩
          cases hok : (fS hnm).isSome with
          | false =>
            by_cases eK : hk = gk
            case neg => exact me_ka bm bs bM bF bL L r R R' IH σ X Y hk hnm hcon hfa hfl hfc hla hll hlc hra hrl hrc gk gnm gcon gfa gfl gfc gla gll glc gra grl grc zk znm zcon zfa zfl zfc zla zll zlc zra zrl zrc K J W hE t u hh hg k1 k2 f1 f2 hbm hst0 n fS hM hu hok eK
            by_cases eN : hnm = gnm
            case neg => exact me_na bm bs bM bF bL L r R R' IH σ X Y hk hnm hcon hfa hfl hfc hla hll hlc hra hrl hrc gk gnm gcon gfa gfl gfc gla gll glc gra grl grc zk znm zcon zfa zfl zfc zla zll zlc zra zrl zrc K J W hE t u hh hg k1 k2 f1 f2 hbm hst0 n fS hM hu hok eK eN
            by_cases eC : hcon = gcon
            case neg => exact me_ca bm bs bM bF bL L r R R' IH σ X Y hk hnm hcon hfa hfl hfc hla hll hlc hra hrl hrc gk gnm gcon gfa gfl gfc gla gll glc gra grl grc zk znm zcon zfa zfl zfc zla zll zlc zra zrl zrc K J W hE t u hh hg k1 k2 f1 f2 hbm hst0 n fS hM hu hok eK eN eC
            cases hF2 : fieldsV (mtch L r) σ X.fn Y.fn (fA X) (fA Y) with
            | none => exact me_fa bm bs bM bF bL L r R R' IH σ X Y hk hnm hcon hfa hfl hfc hla hll hlc hra hrl hrc gk gnm gcon gfa gfl gfc gla gll glc gra grl grc zk znm zcon zfa zfl zfc zla zll zlc zra zrl zrc K J W hE t u hh hg k1 k2 f1 f2 hbm hst0 n fS hM hu hok eK eN eC hF2
            | some σ1 =>
              cases hL2 : walkK (mtch L r) σ1 (lA X) (lA Y) with
              | none => exact me_la bm bs bM bF bL L r R R' IH σ X Y hk hnm hcon hfa hfl hfc hla hll hlc hra hrl hrc gk gnm gcon gfa gfl gfc gla gll glc gra grl grc zk znm zcon zfa zfl zfc zla zll zlc zra zrl zrc K J W hE t u hh hg k1 k2 f1 f2 hbm hst0 n fS hM hu hok eK eN eC σ1 hF2 hL2
              | some σ2 =>
                cases hR2 : walkK (mtch L r) σ2 (rA X) (rA Y) with
                | none => exact me_ra bm bs bM bF bL L r R R' IH σ X Y hk hnm hcon hfa hfl hfc hla hll hlc hra hrl hrc gk gnm gcon gfa gfl gfc gla gll glc gra grl grc zk znm zcon zfa zfl zfc zla zll zlc zra zrl zrc K J W hE t u hh hg k1 k2 f1 f2 hbm hst0 n fS hM hu hok eK eN eC σ1 hF2 σ2 hL2 hR2
                | some σ3 => exact me_sa bm bs bM bF bL L r R R' IH σ X Y hk hnm hcon hfa hfl hfc hla hll hlc hra hrl hrc gk gnm gcon gfa gfl gfc gla gll glc gra grl grc zk znm zcon zfa zfl zfc zla zll zlc zra zrl zrc K J W hE t u hh hg k1 k2 f1 f2 hbm hst0 n fS hM hu hok eK eN eC σ1 hF2 σ2 hL2 σ3 hR2
          | true =>
            have hx : hk ≠ 12 := fun e => hA ⟨ek.trans e, by
              rw [en]
              by_cases hm : hnm ∈ L
              · exact hm
              · rw [(hF hnm).1 hm] at hok; cases hok⟩
            by_cases eK : hk = gk
            case neg => exact me_kb bm bs bM bF bL L r R R' IH σ X Y hk hnm hcon hfa hfl hfc hla hll hlc hra hrl hrc gk gnm gcon gfa gfl gfc gla gll glc gra grl grc zk znm zcon zfa zfl zfc zla zll zlc zra zrl zrc K J W hE t u hh hg k1 k2 f1 f2 hbm hst0 n fS hM hu hok hx eK
            by_cases eN : hnm = gnm
            case neg => exact me_nb bm bs bM bF bL L r R R' IH σ X Y hk hnm hcon hfa hfl hfc hla hll hlc hra hrl hrc gk gnm gcon gfa gfl gfc gla gll glc gra grl grc zk znm zcon zfa zfl zfc zla zll zlc zra zrl zrc K J W hE t u hh hg k1 k2 f1 f2 hbm hst0 n fS hM hu hok hx eK eN
            by_cases eC : hcon = gcon
            case neg => exact me_cb bm bs bM bF bL L r R R' IH σ X Y hk hnm hcon hfa hfl hfc hla hll hlc hra hrl hrc gk gnm gcon gfa gfl gfc gla gll glc gra grl grc zk znm zcon zfa zfl zfc zla zll zlc zra zrl zrc K J W hE t u hh hg k1 k2 f1 f2 hbm hst0 n fS hM hu hok hx eK eN eC
            cases hF2 : fieldsV (mtch L r) σ X.fn Y.fn (fA X) (fA Y) with
            | none => exact me_fb bm bs bM bF bL L r R R' IH σ X Y hk hnm hcon hfa hfl hfc hla hll hlc hra hrl hrc gk gnm gcon gfa gfl gfc gla gll glc gra grl grc zk znm zcon zfa zfl zfc zla zll zlc zra zrl zrc K J W hE t u hh hg k1 k2 f1 f2 hbm hst0 n fS hM hu hok hx eK eN eC hF2
            | some σ1 =>
              cases hL2 : walkK (mtch L r) σ1 (lA X) (lA Y) with
              | none => exact me_lb bm bs bM bF bL L r R R' IH σ X Y hk hnm hcon hfa hfl hfc hla hll hlc hra hrl hrc gk gnm gcon gfa gfl gfc gla gll glc gra grl grc zk znm zcon zfa zfl zfc zla zll zlc zra zrl zrc K J W hE t u hh hg k1 k2 f1 f2 hbm hst0 n fS hM hu hok hx eK eN eC σ1 hF2 hL2
              | some σ2 =>
                cases hR2 : walkK (mtch L r) σ2 (rA X) (rA Y) with
                | none => exact me_rb bm bs bM bF bL L r R R' IH σ X Y hk hnm hcon hfa hfl hfc hla hll hlc hra hrl hrc gk gnm gcon gfa gfl gfc gla gll glc gra grl grc zk znm zcon zfa zfl zfc zla zll zlc zra zrl zrc K J W hE t u hh hg k1 k2 f1 f2 hbm hst0 n fS hM hu hok hx eK eN eC σ1 hF2 σ2 hL2 hR2
                | some σ3 => exact me_sb bm bs bM bF bL L r R R' IH σ X Y hk hnm hcon hfa hfl hfc hla hll hlc hra hrl hrc gk gnm gcon gfa gfl gfc gla gll glc gra grl grc zk znm zcon zfa zfl zfc zla zll zlc zra zrl zrc K J W hE t u hh hg k1 k2 f1 f2 hbm hst0 n fS hM hu hok hx eK eN eC σ1 hF2 σ2 hL2 σ3 hR2
end Go.Proofs.Ytfjflfokmihcpaa
