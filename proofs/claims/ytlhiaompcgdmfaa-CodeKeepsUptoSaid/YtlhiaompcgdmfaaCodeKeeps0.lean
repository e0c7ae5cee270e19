/- The walk of CodeKeeps. Condition: the module and the bytes lie in memory, and are of no more than a million numbers or so. -/
import Derived.Test.YtlhiaompcgdmfaaK1
import Derived.Test.YtlhiaompcgdmfaaD11
import Derived.Test.YtlhiaompcgdmfaaS3
import Derived.Test.YtlhiaompcgdmfaaC0
import Derived.Deep.DeepCutAuto
namespace Go.Proofs.Ytlhiaompcgdmfaa
open Go.RowKit
set_option linter.unusedVariables false
set_option linter.unusedSimpArgs false
theorem enc_small (m : Mo) : (encR m).1.length ≤ 1048576 ∧ ((encR m).2 ≠ 0 → (encR m).1 = []) := by
  unfold encR
  split
  · exact ⟨by simp, fun _ => rfl⟩
  · split
    · exact ⟨by simp, fun _ => rfl⟩
    · exact ⟨by dsimp only; omega, fun h => absurd rfl h⟩
theorem dec_empty (l : List UInt8) : (decR l).2.2 ≠ 0 → (decR l).1.fu = [] := by
  unfold decR
  split
  · exact fun _ => rfl
  · split
    · exact fun _ => rfl
    · exact fun h => absurd rfl h
theorem lm_two {w : World} {B : Sel} {m : Mo} {v1 v2 : Value} (h1 : SL w B m.ty v1) (h2 : FL w B m.fu v2) : LM w B m [v1, v2] := ⟨v1, v2, rfl, h1, h2⟩
theorem lm_slices {w : World} {B : Sel} {m : Mo} {v1 v2 : Value} (h : LM w B m [v1, v2]) : ∃ a1 c1 a2 c2, v1 = .slice a1 m.ty.length c1 ∧ v2 = .slice a2 m.fu.length c2 := by
  obtain ⟨_, _, he, ⟨a1, c1, _, rfl, _⟩, ⟨a2, c2, _, rfl, _⟩⟩ := h
  simp only [List.cons.injEq, and_true] at he
  exact ⟨a1, c1, a2, c2, he.1, he.2⟩
theorem Tr.lm {N : Nat → Prop} {w w' : World} {B : Sel} {m : Mo} {cs : List Value} (h : Tr N w w') (hl : LM w B m cs) (hB : ∀ b, b < w.heap.size → B.S b → ¬ N b) : LM w' B m cs := goodM.turn hl h.fr h.sz hB
theorem bl_slice {w : World} {B : Sel} {l : List UInt8} {v : Value} (h : BL w B l v) : ∃ a c, v = .slice a l.length c := by
  obtain ⟨a, c, _, hv, _⟩ := h
  exact ⟨a, c, hv⟩
theorem rl_room {α : Type} {e : TypeId} {m by_ : Nat} {L : Ly α} {w : World} {B : Sel} {l : List α} {v : Value} (h : RL e m by_ L w B l v) (hb : 1 ≤ by_) : l.length ≤ 140737488351232 := by
  obtain ⟨_, _, _, _, _, h2, _⟩ := h
  have : l.length * 1 ≤ l.length * by_ := Nat.mul_le_mul_left _ hb
  omega
theorem fl_len {w : World} {B : Sel} {l : List Fu} {v : Value} (h : FL w B l v) {i : Nat} {x : Fu} (hix : l[i]? = some x) : x.lo.length ≤ 140737488351232 ∧ x.co.length ≤ 140737488351232 := by
  obtain ⟨_, _, C, _, _, _, _, _, hx⟩ := h
  obtain ⟨_, _, _, _, k1, _, k3, _⟩ := hx i x hix
  exact ⟨rl_room k1 (by decide), rl_room k3 (by decide)⟩
theorem ones : (#[Value.int .i64 99, .int .i64 0, .int .i64 0, .int .u64 0, .slice none 0 0] : Array Value).all (·.oneCell') = true := by simp [Value.oneCell']
def btw (lo hi : Nat) : Nat → Prop := fun k => lo ≤ k ∧ k < hi
set_option maxHeartbeats 6400000 in
set_option maxRecDepth 100000 in
theorem law_CodeKeeps (m : Mo) (v1 v2 : Value) (b : List UInt8) (vb : Value) (w : World) (hx : LM w A0 m [v1, v2]) (hy : BL w A0 b vb) (hz : (itMo m).length ≤ 1048576) (hzb : b.length ≤ 1048576) :
    Calls Try.prog 9 #[.agg #[v1, v2], vb] w fun e w' => e = .returned (.bool true) ∧ Kp w w' := by
  obtain ⟨i0, hi, hz0, hz1, hz2⟩ := info_parts infoU
  obtain ⟨ab, cb, rfl⟩ := bl_slice hy
  have HKB := Lib.hid ((Kp.refl w).alloc (.cells #[v1, v2] 25))
  have HRB := Lib.hid (heap_alloc_new w (.cells #[v1, v2] 25))
  obtain ⟨wB, hwB⟩ : ∃ wB, wB = w.alloc (.cells #[v1, v2] 25) := ⟨_, rfl⟩
  rw [← hwB] at HKB HRB
  have HX := Lib.hid (goodM.keep hx HKB.out)
  have HY := Lib.hid (hy.keep goodB HKB.out)
  have HZ := Lib.hid hz
  obtain ⟨L, E, he⟩ : ∃ L E, encR m = (L, E) := ⟨_, _, rfl⟩
  obtain ⟨x, pl, f, hd⟩ : ∃ x pl f, decR b = (x, pl, f) := ⟨_, _, _, rfl⟩
  have hLs := (enc_small m).1
  have hLe := (enc_small m).2
  have hxe := dec_empty b
  rw [he] at hLs hLe
  rw [hd] at hxe
  dsimp only at hLs hLe hxe
  have HLE := Lib.hid hLe
  have HXE := Lib.hid hxe
  have HE := Lib.hid he
  have HD := Lib.hid hd
  have HSM : ∀ y : Mo, Hid (sameMo y y = true) := fun y => Lib.hid ((sameMo_iff y y).2 rfl)
  clear hx hy hz he hd hLe hxe
  go_enter Try.func9, Try.ntmps9
  go_upto_region 1 with fail
  rw [← hwB]
  clear hwB
  obtain ⟨m0, m1⟩ := row2 HRB.out
  have mz := row_lt HRB.out
  go_upto_region 2 with (first
    | (go_at_call 11; (with_reducible refine (c_Own m v1 v2 wB HX.out).mono ?_); rintro e w1 ⟨x1, y1, rfl, hl1, hk1⟩; obtain ⟨q1, r1, q2, r2, rfl, rfl⟩ := lm_slices hl1; have L1 := Lib.hid hl1; have K1 := Lib.hid hk1; clear hl1 hk1))
  clear m0 m1 mz
  have HR2 := Lib.hid (heap_alloc_new w1 (.cells #[.slice q1 m.ty.length r1, .slice q2 m.fu.length r2] 25))
  have K2 := Lib.hid ((Kp.refl w1).alloc (.cells #[.slice q1 m.ty.length r1, .slice q2 m.fu.length r2] 25))
  obtain ⟨w2, hw2⟩ : ∃ w2, w2 = w1.alloc (.cells #[.slice q1 m.ty.length r1, .slice q2 m.fu.length r2] 25) := ⟨_, rfl⟩
  rw [← hw2] at HR2 K2 ⊢
  clear hw2
  have L2 := Lib.hid (goodM.keep L1.out K2.out)
  obtain ⟨p0, p1⟩ := row2 HR2.out
  have pz := row_lt HR2.out
  go_upto_region 5 with (first
    | (go_at_call 16; (with_reducible refine (c_Encode m _ _ w2 (goodM.weak L2.out (A0_le _)) (by have := HZ.out; omega)).mono ?_); rintro e w3 ⟨va, rfl, g1, g2⟩; rw [HE.out] at g1 ⊢; obtain ⟨aa, ca, rfl⟩ := bl_slice g1; have B3 := Lib.hid g1; have K3 := Lib.hid g2; obtain ⟨p0, p1⟩ := row2 (row_keep g2 HR2.out); have pz := row_lt (row_keep g2 HR2.out); clear g1 g2)
    | (go_at_call 16; (with_reducible refine (c_Encode m _ _ w3 (goodM.weak (goodM.keep L2.out K3.out) (A0_le _)) (by have := HZ.out; omega)).mono ?_); rintro e w4 ⟨vc, rfl, g1, g2⟩; rw [HE.out] at g1 ⊢; obtain ⟨ac, cc, rfl⟩ := bl_slice g1; have B4 := Lib.hid g1; have K4 := Lib.hid g2; clear g1 g2)
    | ((with_reducible show wpList _ _ _ (⟨some 38, _, _, _, _, _⟩ :: _) _ _); refine wpList_append_copy flatB (d := 38) _ _ 37 rfl 5 i0 _ 1 1 Try.underlying37 hi hz0 hz1 hz2 rfl (by decide) (by decide) _ 0 #[] (by rfl) (heap_alloc_new _ _) rfl w4.heap.size (Nat.le_refl _) wB A0 b _ (by rfl) HY.out (((((K1.out.trans K2.out).trans K3.out).trans K4.out)).alloc _) ?_; intro ao co w5 hl5 hg5; have B5 := Lib.hid hl5; have K5 := Lib.hid (((Kp.refl w4).alloc (.cells #[] 5)).grown hg5 (fun k hk => by simp at hk; omega)); clear hl5 hg5))
  clear p0 p1 pz
  go_upto_region 6 with (first
    | (go_at_call 18; (with_reducible refine (c_Decode b ao co w5 (B5.out.weak goodB (A0_le _))).mono ?_); rintro e w6 ⟨x6, a6, c6, b6, d6, at6, er6, rfl, g1, g2, g3, g4⟩; rw [HD.out] at g4; cases g4; have K6 := Lib.hid g1; have F6 := Lib.hid g3; clear g1 g2 g3))
  have HR7 := Lib.hid (heap_alloc_new w6 (.cells #[.slice a6 x.ty.length c6, .slice b6 x.fu.length d6] 25))
  have K7 := Lib.hid ((Kp.refl w6).alloc (.cells #[.slice a6 x.ty.length c6, .slice b6 x.fu.length d6] 25))
  obtain ⟨w7, hw7⟩ : ∃ w7, w7 = w6.alloc (.cells #[.slice a6 x.ty.length c6, .slice b6 x.fu.length d6] 25) := ⟨_, rfl⟩
  rw [← hw7] at HR7 K7 ⊢
  clear hw7
  go_upto_region 7 with (first
    | (go_at_call 18; (with_reducible refine (c_Decode b ao co w7 ((B5.out.keep goodB (K6.out.trans K7.out)).weak goodB (A0_le _))).mono ?_); rintro e w8 ⟨x8, a8, c8, b8, d8, at8, er8, rfl, g1, g2, g3, g4⟩; rw [HD.out] at g4; cases g4; have K8 := Lib.hid g1; have L8 := Lib.hid (lm_two g2 g3); clear g1 g2 g3))
  have HR9 := Lib.hid (heap_alloc_new w8 (.cells #[.slice a8 x.ty.length c8, .slice b8 x.fu.length d8] 25))
  have K9 := Lib.hid ((Kp.refl w8).alloc (.cells #[.slice a8 x.ty.length c8, .slice b8 x.fu.length d8] 25))
  obtain ⟨w9, hw9⟩ : ∃ w9, w9 = w8.alloc (.cells #[.slice a8 x.ty.length c8, .slice b8 x.fu.length d8] 25) := ⟨_, rfl⟩
  rw [← hw9] at HR9 K9 ⊢
  clear hw9
  have H89 := Lib.hid K9.out
  have H79 := Lib.hid (K8.out.trans K9.out)
  have H69 := Lib.hid (K7.out.trans H79.out)
  have H59 := Lib.hid (K6.out.trans H69.out)
  have H49 := Lib.hid (K5.out.trans H59.out)
  have H39 := Lib.hid (K4.out.trans H49.out)
  have H29 := Lib.hid (K3.out.trans H39.out)
  have H19 := Lib.hid (K2.out.trans H29.out)
  have HB9 := Lib.hid (K1.out.trans H19.out)
  have hz23 := K3.out.sz
  have hz34 := K4.out.sz
  have hz45 := K5.out.sz
  have hz56 := K6.out.sz
  have hz78 := K8.out.sz
  have hz12 := row_lt HR2.out
  have hz67 := row_lt HR7.out
  have hz89 := row_lt HR9.out
  have hz2 := H29.out.sz
  have HZS := Lib.hid (And.intro hz23 (And.intro hz34 (And.intro hz45 (And.intro hz56 (And.intro hz78 (And.intro hz12 (And.intro hz67 (And.intro hz89 hz2))))))))
  clear hz23 hz34 hz45 hz56 hz78 hz12 hz67 hz89 hz2
  go_upto_region 9 with (first
    | (go_at_call 13; (with_reducible refine (c_answers w9).mono ?_); rintro e w10 ⟨rfl, hk⟩; have K10 := Lib.hid hk; obtain ⟨p0, p1⟩ := row2 (row_keep (H29.out.trans hk) HR2.out); have pz := row_lt (row_keep (H29.out.trans hk) HR2.out); obtain ⟨m0, m1⟩ := row2 (row_keep (HB9.out.trans hk) HRB.out); have mz := row_lt (row_keep (HB9.out.trans hk) HRB.out); clear hk)
    | (go_at_call 20; (with_reducible refine (c_rSame m m [.slice q1 m.ty.length r1, .slice q2 m.fu.length r2] [v1, v2] w10 (goodM.weak (goodM.keep L2.out (H29.out.trans K10.out)) (A0_le _)) (goodM.keep HX.out (HB9.out.trans K10.out))).mono ?_); rintro e w11 ⟨rfl, hk⟩; rw [(HSM m).out]; have K11 := Lib.hid (K10.out.trans hk); have t1 := bytes_run w11 (B5.out.keep goodB (H59.out.trans K11.out)); have t2 := bytes_run w11 (HY.out.keep goodB (HB9.out.trans K11.out)); have t3 := bytes_run w11 (B3.out.keep goodB (H39.out.trans K11.out)); have t4 := bytes_run w11 (B4.out.keep goodB (H49.out.trans K11.out)); clear hk))
  clear p0 p1 pz m0 m1 mz t1 t2 t3 t4
  go_wp2_with fail
  have HO := Lib.hid ((OvR.of B3.out (by decide)).sm (Sm.kp (lo := w2.heap.size) (hi := w3.heap.size) (H39.out.trans K11.out)))
  go_loopw [17] (fun i wr => ∃ k : Nat, k ≤ L.length ∧ i = .int .i64 (k : Int) ∧ Tr (btw w2.heap.size w3.heap.size) w11 wr ∧ Sm w2.heap.size w3.heap.size w11 wr) (fun i _ => L.length - (intOf i).toNat)
  case atStart => exact ⟨0, by omega, rfl, Tr.refl _ _, Sm.refl _ _ _⟩
  case round =>
    obtain ⟨k, hk, rfl, htr, hsm⟩ := hrel
    have TR := Lib.hid htr
    have SM := Lib.hid hsm
    by_cases hlt : k < L.length
    · obtain ⟨_, bo, rfl, z1, z2, z3, hcell, hfz, hst, _, _⟩ := (HO.out.sm hsm).at hlt (by decide)
      obtain ⟨v, e0⟩ := hcell 0 (by decide)
      simp only [Nat.mul_one, Nat.add_zero] at e0
      have f0 := hfz k
      have ST := Lib.hid (hst k (.int .u8 99))
      have HN := Lib.hid (And.intro z1 z2)
      clear hcell hfz hst htr hsm z1 z2
      go_wp2_with fail
      go_roundw
      case rel => exact ⟨k + 1, by omega, by go_num, TR.out.set (.inl (show btw _ _ bo from HN.out)) _, SM.out.trans ST.out⟩
      case measure => simp [intOf]; omega
    · clear htr hsm
      obtain ⟨wL, hwL⟩ : ∃ wL, wL = wr := ⟨_, rfl⟩
      subst hwL
      obtain ⟨hz23, hz34, hz45, hz56, hz78, hz12, hz67, hz89, hz2⟩ := HZS.out
      have hzb : w.heap.size < w2.heap.size := by have := row_lt HRB.out; have := K1.out.sz; have := K2.out.sz; omega
      have hz11 := K11.out.sz
      have hzL := TR.out.sz
      have T29 := Lib.hid (((H29.out.trans K11.out).tr (btw w2.heap.size w3.heap.size)).trans TR.out (fun _ _ h => h))
      have hp := T29.out.row HR2.out (fun hn => by have := hn.1; omega)
      obtain ⟨p0, p1⟩ := row2 hp
      have pz := row_lt hp
      have LI := Lib.hid (T29.out.lm (goodM.below L2.out (Nat.le_refl _)) (fun b hb hS hn => by have h1 : b < w2.heap.size := hb; have := hn.1; omega))
      have T99 := Lib.hid ((K11.out.tr (btw w2.heap.size w3.heap.size)).trans TR.out (fun _ _ h => h))
      have hr := T99.out.row HR9.out (fun hn => by have := hn.2; omega)
      have LY := Lib.hid (((H89.out.trans K11.out).tr (btw w2.heap.size w3.heap.size)).trans TR.out (fun _ _ h => h) |>.lm L8.out (fun b hb (hS : w7.heap.size ≤ b) hn => by have := hn.2; omega))
      have h7 := ((H79.out.trans K11.out).tr (btw w2.heap.size w3.heap.size)).trans TR.out (fun _ _ h => h) |>.row HR7.out (fun hn => by have := hn.2; omega)
      have BC := Lib.hid (((H49.out.trans K11.out).tr (btw w2.heap.size w3.heap.size)).trans TR.out (fun _ _ h => h) |>.rl goodB (RL.below goodB B4.out (Nat.le_refl _)) (fun b hb hS hn => by have h1 : w3.heap.size ≤ b := hS.1; have := hn.2; omega))
      have OX := Lib.hid ((OvF.of F6.out).sm ((Sm.kp (H69.out.trans K11.out)).trans (Sm.tr TR.out (fun k h1 h2 hn => by have := hn.2; omega))))
      have HPL := Lib.hid hp
      have HRL := Lib.hid hr
      have H7L := Lib.hid h7
      have KWL := Lib.hid (HKB.out.trans ((TR.out.old (HB9.out.trans K11.out) (fun k hk => by have h1 : w2.heap.size ≤ k := hk.1; have := row_lt HRB.out; have := K1.out.sz; have := K2.out.sz; omega))))
      clear hp hr h7
      go_upto_region 14 with (first
        | (go_at_call 16; (with_reducible refine (c_Encode m _ _ wL (goodM.weak LI.out (A0_le _)) (by have := HZ.out; omega)).mono ?_); rintro e w12 ⟨vd, rfl, g1, g2⟩; rw [HE.out] at g1 ⊢; obtain ⟨ad, cd, rfl⟩ := bl_slice g1; have B12 := Lib.hid g1; have K12 := Lib.hid g2; clear g1 g2))
      clear p0 p1 pz
      obtain ⟨y0, y1⟩ := row2 (row_keep K12.out HRL.out)
      have yz := row_lt (row_keep K12.out HRL.out)
      go_upto_region 15 with (first
        | (go_at_call 11; (with_reducible refine (c_Own x _ _ w12 (goodM.weak (goodM.keep LY.out K12.out) (A0_le _))).mono ?_); rintro e w13 ⟨x13, y13, rfl, g1, g2⟩; obtain ⟨q13, r13, s13, t13, rfl, rfl⟩ := lm_slices g1; have L13 := Lib.hid g1; have K13 := Lib.hid (K12.out.trans g2); have KX := Lib.hid g2; clear g1 g2))
      clear y0 y1 yz
      have HR14 := Lib.hid (heap_alloc_new w13 (.cells #[.slice q13 x.ty.length r13, .slice s13 x.fu.length t13] 25))
      have K14 := Lib.hid ((Kp.refl w13).alloc (.cells #[.slice q13 x.ty.length r13, .slice s13 x.fu.length t13] 25))
      obtain ⟨w14, hw14⟩ : ∃ w14, w14 = w13.alloc (.cells #[.slice q13 x.ty.length r13, .slice s13 x.fu.length t13] 25) := ⟨_, rfl⟩
      rw [← hw14] at HR14 K14 ⊢
      clear hw14
      have K14b := Lib.hid (K13.out.trans K14.out)
      have OX14 := Lib.hid (OX.out.sm (Sm.kp K14b.out))
      have H7M := Lib.hid (row_keep K14b.out H7L.out)
      have hzL2 := K13.out.sz
      have hz14 := row_lt HR14.out
      go_wp2_with fail
      go_loopw [21] (fun i wr => ∃ k : Nat, k ≤ x.fu.length ∧ i = .int .i64 (k : Int) ∧ Tr (btw w5.heap.size w6.heap.size) w14 wr ∧ Sm w5.heap.size w6.heap.size w14 wr) (fun i _ => x.fu.length - (intOf i).toNat)
      case atStart => exact ⟨0, by omega, rfl, Tr.refl _ _, Sm.refl _ _ _⟩
      case round =>
        obtain ⟨wo, hwo⟩ : ∃ wo, wo = wr := ⟨_, rfl⟩
        subst hwo
        obtain ⟨i, hik, rfl, htr, hsm⟩ := hrel
        have TO := Lib.hid htr
        have SO := Lib.hid hsm
        have HB := Lib.hid (htr.row H7M.out (fun hn => by have := hn.2; omega))
        obtain ⟨c0, c1⟩ := row2 HB.out
        have cz := row_lt HB.out
        clear htr hsm
        by_cases hlt2 : i < x.fu.length
        · obtain ⟨fu, hfu⟩ : ∃ fu, x.fu[i]? = some fu := ⟨_, List.getElem?_eq_getElem hlt2⟩
          obtain ⟨bF, u1, u3, rfl, bz, g1, g4, o1, o3, hper⟩ := (OX14.out.sm SO.out).at hfu
          obtain ⟨a1, n1, rfl, _⟩ := id o1
          obtain ⟨a3, n3, rfl, _⟩ := id o3
          have O1 := Lib.hid o1
          have O3 := Lib.hid o3
          have HPer := Lib.hid hper
          have hx2 := rl_room F6.out (by decide)
          obtain ⟨hx3, hx4⟩ := fl_len F6.out hfu
          clear o1 o3 hper hfu
          go_wp2_with fail
          go_loopw [22] (fun iv wt => ∃ t : Nat, t ≤ fu.co.length ∧ iv = .int .i64 (t : Int) ∧ Tr (btw w5.heap.size w6.heap.size) wo wt ∧ Sm w5.heap.size w6.heap.size wo wt) (fun iv _ => fu.co.length - (intOf iv).toNat)
          case atStart => exact ⟨0, by omega, rfl, Tr.refl _ _, Sm.refl _ _ _⟩
          case round =>
            obtain ⟨wt, hwt⟩ : ∃ wt, wt = wr := ⟨_, rfl⟩
            subst hwt
            obtain ⟨t, ht, rfl, htr, hsm⟩ := hrel
            have TT := Lib.hid htr
            have ST := Lib.hid hsm
            obtain ⟨c0, c1⟩ := row2 (htr.row HB.out (fun hn => by have := hn.2; omega))
            have cz := row_lt (htr.row HB.out (fun hn => by have := hn.2; omega))
            obtain ⟨g1, g4, bz⟩ := HPer.out _ hsm
            clear htr hsm
            by_cases hlt3 : t < fu.co.length
            · obtain ⟨_, bo, rfl, z1, z2, z3, _, _, _, hst, hth⟩ := (O3.out.sm ST.out).at hlt3 (by decide)
              have HTH := Lib.hid hth
              have HST := Lib.hid hst
              have HN := Lib.hid (show btw w5.heap.size w6.heap.size bo from And.intro z1 z2)
              clear hst hth z1 z2
              go_wp2_with (first
                | ((with_reducible show wpList _ _ _ (⟨none, .store _ (.tmp 115) (.tmp 114), _, _, _, _⟩ :: _) _ _); (refine wpList_store_mid rfl 55 _ _ rfl bo (t * 5) #[.int .i64 99, .int .i64 0, .int .i64 0, .int .u64 0, .slice none 0 0] (by rfl) (by rfl) HTH.out (by rfl) ones ?_)))
              go_roundw
              case rel => exact ⟨t + 1, by omega, by go_num, Tr.sets HN.out _ _ _ _ TT.out, ST.out.trans (HST.out _ _)⟩
              case measure => simp [intOf]; omega
            · go_wp2_with fail
              go_loopw [23] (fun iv wr => ∃ t : Nat, t ≤ fu.lo.length ∧ iv = .int .i64 (t : Int) ∧ Tr (btw w5.heap.size w6.heap.size) wo wr ∧ Sm w5.heap.size w6.heap.size wo wr) (fun iv _ => fu.lo.length - (intOf iv).toNat)
              case atStart => exact ⟨0, by omega, rfl, TT.out, ST.out⟩
              case round =>
                obtain ⟨ws, hws⟩ : ∃ ws, ws = wr := ⟨_, rfl⟩
                subst hws
                obtain ⟨s, hs, rfl, htr, hsm⟩ := hrel
                have TS := Lib.hid htr
                have SS := Lib.hid hsm
                obtain ⟨c0, c1⟩ := row2 (htr.row HB.out (fun hn => by have := hn.2; omega))
                have cz := row_lt (htr.row HB.out (fun hn => by have := hn.2; omega))
                obtain ⟨g1, g4, bz⟩ := HPer.out _ hsm
                clear htr hsm
                by_cases hlt4 : s < fu.lo.length
                · obtain ⟨_, bo, rfl, z1, z2, z3, hcell, hfz, hst, _, _⟩ := (O1.out.sm SS.out).at hlt4 (by decide)
                  obtain ⟨v, e0⟩ := hcell 0 (by decide)
                  simp only [Nat.mul_one, Nat.add_zero] at e0
                  have f0 := hfz s
                  have HST := Lib.hid (hst s (.int .i64 99))
                  have HN := Lib.hid (show btw w5.heap.size w6.heap.size bo from And.intro z1 z2)
                  clear hcell hfz hst z1 z2
                  go_wp2_with fail
                  go_roundw
                  case rel => exact ⟨s + 1, by omega, by go_num, TS.out.set (.inl HN.out) _, SS.out.trans HST.out⟩
                  case measure => simp [intOf]; omega
                · go_wp2_with fail
                  go_roundw
                  case rel => exact ⟨i + 1, by omega, by go_num, TO.out.trans TS.out (fun _ _ h => h), SO.out.trans SS.out⟩
                  case measure => simp [intOf]; omega
        · obtain ⟨wM, hwM⟩ : ∃ wM, wM = wo := ⟨_, rfl⟩
          subst hwM
          have BDM := Lib.hid (TO.out.rl goodB (B12.out.keep goodB (KX.out.trans K14.out)) (fun b hb (hS : wL.heap.size ≤ b) hn => by have := hn.2; omega))
          have BCM := Lib.hid (TO.out.rl goodB (BC.out.keep goodB K14b.out) (fun b hb hS hn => by have h1 : b < w4.heap.size := hS.2; have := hn.1; omega))
          have LYM := Lib.hid (TO.out.lm (goodM.keep LY.out K14b.out) (fun b hb (hS : w7.heap.size ≤ b) hn => by have := hn.2; omega))
          have hzx := K12.out.sz
          have L13M := Lib.hid (TO.out.lm (goodM.keep L13.out K14.out) (fun b hb (hS : w12.heap.size ≤ b) hn => by have := hn.2; omega))
          have HRM := Lib.hid (TO.out.row (row_keep K14b.out HRL.out) (fun hn => by have := hn.2; omega))
          have HSM20 := Lib.hid (TO.out.row HR14.out (fun hn => by have := hn.2; omega))
          have HKM := Lib.hid (TO.out.old (KWL.out.trans K14b.out) (fun k hk => by have h1 : w5.heap.size ≤ k := hk.1; omega))
          obtain ⟨y0, y1⟩ := row2 HRM.out
          have yz := row_lt HRM.out
          obtain ⟨z0, z1⟩ := row2 HSM20.out
          have zz := row_lt HSM20.out
          have t1 := bytes_run wM BDM.out
          have t2 := bytes_run wM BCM.out
          by_cases hE0 : E = 0
          · have bE : (E == 0) = true := by simpa using hE0
            clear hE0
            by_cases hF0 : f = 0
            · have bf : (f == 0) = true := by simpa using hF0
              clear hF0
              go_wp2_with (first
                | (go_at_call 20; (with_reducible refine (c_rSame x x [.slice a8 x.ty.length c8, .slice b8 x.fu.length d8] [.slice q13 x.ty.length r13, .slice s13 x.fu.length t13] wM (goodM.weak LYM.out (A0_le _)) (goodM.weak L13M.out (A0_le _))).mono ?_); rintro e wN ⟨rfl, hk⟩; rw [(HSM x).out]; have KN := Lib.hid hk; obtain ⟨y0, y1⟩ := row2 (row_keep hk HRM.out); have yz := row_lt (row_keep hk HRM.out); clear hk))
              go_ret
              exact ⟨rfl, HKM.out.trans KN.out⟩
            · have bf : (f == 0) = false := by simpa using hF0
              have bx : ((x.fu.length : Int) == 0) = true := by rw [HXE.out hF0]; rfl
              clear hF0
              go_wp2_with (first
                | (go_at_call 20; (with_reducible refine (c_rSame x x [.slice a8 x.ty.length c8, .slice b8 x.fu.length d8] [.slice q13 x.ty.length r13, .slice s13 x.fu.length t13] wM (goodM.weak LYM.out (A0_le _)) (goodM.weak L13M.out (A0_le _))).mono ?_); rintro e wN ⟨rfl, hk⟩; rw [(HSM x).out]; have KN := Lib.hid hk; obtain ⟨y0, y1⟩ := row2 (row_keep hk HRM.out); have yz := row_lt (row_keep hk HRM.out); clear hk))
              go_ret
              exact ⟨rfl, HKM.out.trans KN.out⟩
          · have bE : (E == 0) = false := by simpa using hE0
            have bL : ((L.length : Int) == 0) = true := by rw [HLE.out hE0]; rfl
            clear hE0
            by_cases hF0 : f = 0
            · have bf : (f == 0) = true := by simpa using hF0
              clear hF0
              go_wp2_with (first
                | (go_at_call 20; (with_reducible refine (c_rSame x x [.slice a8 x.ty.length c8, .slice b8 x.fu.length d8] [.slice q13 x.ty.length r13, .slice s13 x.fu.length t13] wM (goodM.weak LYM.out (A0_le _)) (goodM.weak L13M.out (A0_le _))).mono ?_); rintro e wN ⟨rfl, hk⟩; rw [(HSM x).out]; have KN := Lib.hid hk; obtain ⟨y0, y1⟩ := row2 (row_keep hk HRM.out); have yz := row_lt (row_keep hk HRM.out); clear hk))
              go_ret
              exact ⟨rfl, HKM.out.trans KN.out⟩
            · have bf : (f == 0) = false := by simpa using hF0
              have bx : ((x.fu.length : Int) == 0) = true := by rw [HXE.out hF0]; rfl
              clear hF0
              go_wp2_with (first
                | (go_at_call 20; (with_reducible refine (c_rSame x x [.slice a8 x.ty.length c8, .slice b8 x.fu.length d8] [.slice q13 x.ty.length r13, .slice s13 x.fu.length t13] wM (goodM.weak LYM.out (A0_le _)) (goodM.weak L13M.out (A0_le _))).mono ?_); rintro e wN ⟨rfl, hk⟩; rw [(HSM x).out]; have KN := Lib.hid hk; obtain ⟨y0, y1⟩ := row2 (row_keep hk HRM.out); have yz := row_lt (row_keep hk HRM.out); clear hk))
              go_ret
              exact ⟨rfl, HKM.out.trans KN.out⟩
end Go.Proofs.Ytlhiaompcgdmfaa
