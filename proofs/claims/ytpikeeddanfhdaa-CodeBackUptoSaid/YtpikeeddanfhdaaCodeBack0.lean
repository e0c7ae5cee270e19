/- The walk of CodeBack. Condition: the module and the bytes lie in memory, and are of no more than a million numbers or so. -/
import Derived.Test.YtpikeeddanfhdaaD15
namespace Go.Proofs.Ytpikeeddanfhdaa
open Go.RowKit
set_option linter.unusedVariables false
set_option linter.unusedSimpArgs false
theorem lm_mk {w : World} {B : Sel} {m : Mo} {v1 v2 : Value} (h1 : SL w B m.ty v1) (h2 : FL w B m.fu v2) : LM w B m [v1, v2] := ⟨v1, v2, rfl, h1, h2⟩
theorem bl_some {w : World} {B : Sel} {l : List UInt8} {a : Option Addr} {c : Nat} (h : BL w B l (.slice a l.length c)) (h0 : 0 < l.length) : ∃ b o, a = some ⟨b, o, none⟩ := by
  obtain ⟨a2, c2, C, he, _, _, _, ht, _⟩ := h
  simp only [Value.slice.injEq, true_and] at he
  obtain ⟨rfl, rfl⟩ := he
  obtain ⟨b, o, h1, _⟩ := ht.2 h0
  exact ⟨b, o, h1⟩
theorem c_DecodeN (l : List UInt8) (a : Option Addr) (n c : Nat) (w : World) (hl : BL w A0 l (.slice a n c)) : Calls Try.prog 18 #[.slice a n c] w (DecP l w) := by
  have hn : n = l.length := by
    obtain ⟨_, _, _, he, _⟩ := hl
    simp only [Value.slice.injEq] at he
    exact he.2.1
  subst hn
  exact c_Decode l a c w hl
theorem num_pos (i : It) : 1 ≤ (ser i).length := by cases i <;> exact (num_len _).1
theorem ser_items : ∀ {l : List It} {s : List UInt8}, Ser l s → l.length ≤ s.length
  | [], _, _ => Nat.zero_le _
  | i :: l, u, h => by
    obtain ⟨s, t, h1, h2, rfl⟩ := (ser_cons i l u).1 h
    have e1 := ((ser_one i s).1 h1).2
    have e2 := num_pos i
    have e3 := ser_items h2
    rw [e1, List.length_append, List.length_cons]; omega
set_option maxHeartbeats 3200000 in
set_option maxRecDepth 100000 in
theorem back_nn (m : Mo) (v1 v2 : Value) (b : List UInt8) (ab : Option Addr) (cb : Nat) (cut : Int) (w : World) (hx : LM w A0 m [v1, v2]) (hy : BL w A0 b (.slice ab b.length cb)) (hz : (itMo m).length ≤ 1048576) (hzb : b.length ≤ 1048576) (E : Int) (he : (encR m).2 = E) (hne : E ≠ 0) (D : Int) (hdv : (decR b).2.2 = D) (hdn : D ≠ 0) :
    Calls Try.prog 6 #[.agg #[v1, v2], .slice ab b.length cb, .int .u16 cut] w fun e w' => e = .returned (.bool true) ∧ Kp w w' := by
  obtain ⟨i0, hi, hz0, hz1, hz2⟩ := info_parts infoU
  have HK0 := Lib.hid ((Kp.refl w).alloc (.cells #[v1, v2] 25))
  have HX := Lib.hid (goodM.keep hx HK0.out)
  have HY := Lib.hid (hy.keep goodB HK0.out)
  have HZ := Lib.hid hz
  have HE := Lib.hid he
  have hEb : (E == 0) = false := by rw [beq_eq_false_iff_ne]; exact hne
  have HDV := Lib.hid hdv
  have hDb : (D != 0) = true := by rw [bne_iff_ne]; exact hdn
  have HDN := Lib.hid (dec_none (show ¬ (decR b).2.2 = 0 by rw [hdv]; exact hdn))
  obtain ⟨m0, m1⟩ := row2 (heap_alloc_new w (.cells #[v1, v2] 25))
  clear hx hy hz he hdv
  go_enter Try.func6, Try.ntmps6
  go_wp2_with (first | (go_at_call 11; (with_reducible refine (c_Own m v1 v2 _ HX.out).mono ?_); rintro e w1 ⟨z1, z2, rfl, hl1, hk1⟩) | (go_at_call 16; (with_reducible refine (c_Encode m _ _ _ (goodM.weak hl1 (A0_le _)) (by have := HZ.out; omega)).mono ?_); rintro e w2 ⟨v, rfl, hb2, hk2⟩; obtain ⟨ax, cx, _, rfl, _⟩ := id hb2; rw [HE.out]) | (go_at_call 13; (with_reducible refine (c_answers _).mono ?_); rintro e w3 ⟨rfl, hk3⟩) | ((with_reducible show wpList _ _ _ (⟨some 106, _, _, _, _, _⟩ :: _) _ _); refine wpList_append_copyG flatB (d := 106) _ _ 37 rfl 5 i0 _ 1 1 Try.underlying37 hi hz0 hz1 hz2 rfl (by decide) (by decide) _ _ (by rfl) rfl (by first | rfl | simp) _ _ b _ (by rfl) HY.out (by first | exact (by (repeat (first | with_reducible exact Kp.refl _ | with_reducible refine Kp.alloc ?_ _ | with_reducible refine Kp.drew ?_ | with_reducible refine Kp.back (by assumption) ?_))) | exact Kp.refl _) ?_; intro c1 d1 w4 hg4 hkw4) | (go_at_call 18; (with_reducible refine (c_Decode b _ _ _ (((hg4.all (by_ := 1) goodB (by omega)).weak goodB (A0_le _)))).mono ?_); rintro e w5 ⟨x5, p5, r5, s5, t5, at5, er5, rfl, hkw5, hs5, hf5, hd5⟩; have HX5 := Lib.hid (show (⟨[], []⟩ : Mo) = x5 by rw [← HDN.out, hd5]); have e5 : D = er5 := (by rw [← HDV.out, hd5]); subst e5) | (go_at_call 20; (with_reducible refine (c_rSame x5 ⟨[], []⟩ [.slice p5 x5.ty.length r5, .slice s5 x5.fu.length t5] [.slice none 0 0, .slice none 0 0] _ (goodM.keep (goodM.weak (lm_mk hs5 hf5) (A0_le _)) (by (repeat (first | with_reducible exact Kp.refl _ | with_reducible refine Kp.alloc ?_ _ | with_reducible refine Kp.drew ?_ | with_reducible refine Kp.back (by assumption) ?_)))) (lm_mk (m := ⟨[], []⟩) (sl_nil _ _) (fl_nil _ _))).mono ?_); rintro e w6 ⟨rfl, hk6⟩; rw [show sameMo x5 ⟨[], []⟩ = true by rw [← HX5.out]; rfl]))
  all_goals go_ret
  all_goals exact ⟨rfl, HK0.out.trans (by (repeat (first | with_reducible exact Kp.refl _ | with_reducible refine Kp.alloc ?_ _ | with_reducible refine Kp.drew ?_ | with_reducible refine Kp.back (by assumption) ?_)))⟩
set_option maxHeartbeats 3200000 in
set_option maxRecDepth 100000 in
theorem back_ny (m : Mo) (v1 v2 : Value) (b : List UInt8) (ab : Option Addr) (cb : Nat) (cut : Int) (w : World) (hx : LM w A0 m [v1, v2]) (hy : BL w A0 b (.slice ab b.length cb)) (hz : (itMo m).length ≤ 1048576) (hzb : b.length ≤ 1048576) (E : Int) (he : (encR m).2 = E) (hne : E ≠ 0) (hdv : (decR b).2.2 = 0) :
    Calls Try.prog 6 #[.agg #[v1, v2], .slice ab b.length cb, .int .u16 cut] w fun e w' => e = .returned (.bool true) ∧ Kp w w' := by
  obtain ⟨i0, hi, hz0, hz1, hz2⟩ := info_parts infoU
  have HK0 := Lib.hid ((Kp.refl w).alloc (.cells #[v1, v2] 25))
  have HX := Lib.hid (goodM.keep hx HK0.out)
  have HY := Lib.hid (hy.keep goodB HK0.out)
  have HZ := Lib.hid hz
  have HE := Lib.hid he
  have hEb : (E == 0) = false := by rw [beq_eq_false_iff_ne]; exact hne
  have HDV := Lib.hid hdv
  obtain ⟨m0, m1⟩ := row2 (heap_alloc_new w (.cells #[v1, v2] 25))
  clear hx hy hz he hdv
  go_enter Try.func6, Try.ntmps6
  go_wp2_with (first | (go_at_call 11; (with_reducible refine (c_Own m v1 v2 _ HX.out).mono ?_); rintro e w1 ⟨z1, z2, rfl, hl1, hk1⟩) | (go_at_call 16; (with_reducible refine (c_Encode m _ _ _ (goodM.weak hl1 (A0_le _)) (by have := HZ.out; omega)).mono ?_); rintro e w2 ⟨v, rfl, hb2, hk2⟩; obtain ⟨ax, cx, _, rfl, _⟩ := id hb2; rw [HE.out]) | (go_at_call 13; (with_reducible refine (c_answers _).mono ?_); rintro e w3 ⟨rfl, hk3⟩) | ((with_reducible show wpList _ _ _ (⟨some 106, _, _, _, _, _⟩ :: _) _ _); refine wpList_append_copyG flatB (d := 106) _ _ 37 rfl 5 i0 _ 1 1 Try.underlying37 hi hz0 hz1 hz2 rfl (by decide) (by decide) _ _ (by rfl) rfl (by first | rfl | simp) _ _ b _ (by rfl) HY.out (by first | exact (by (repeat (first | with_reducible exact Kp.refl _ | with_reducible refine Kp.alloc ?_ _ | with_reducible refine Kp.drew ?_ | with_reducible refine Kp.back (by assumption) ?_))) | exact Kp.refl _) ?_; intro c1 d1 w4 hg4 hkw4) | (go_at_call 18; (with_reducible refine (c_Decode b _ _ _ (((hg4.all (by_ := 1) goodB (by omega)).weak goodB (A0_le _)))).mono ?_); rintro e w5 ⟨x5, p5, r5, s5, t5, at5, er5, rfl, hkw5, hs5, hf5, hd5⟩; have e5 : 0 = er5 := (by rw [← HDV.out, hd5]); have HB5 := Lib.hid (show encR x5 = (b, 0) by have := (dec_enc HDV.out).1; rw [hd5] at this; exact this); have HO5 := Lib.hid (show okM x5 by have := (dec_enc HDV.out).2; rw [hd5] at this; exact this); subst e5) | (go_at_call 16; (with_reducible refine (c_Encode x5 _ _ _ (goodM.keep (goodM.weak (lm_mk hs5 hf5) (A0_le _)) (by (repeat (first | with_reducible exact Kp.refl _ | with_reducible refine Kp.alloc ?_ _ | with_reducible refine Kp.drew ?_ | with_reducible refine Kp.back (by assumption) ?_)))) (by have := ser_items (enc_ser HO5.out (by rw [HB5.out])).1; rw [HB5.out] at this; dsimp only at this; omega)).mono ?_); rintro e w6 ⟨v6, rfl, hb6, hk6⟩; rw [HB5.out] at hb6 ⊢; obtain ⟨ay, cy, _, rfl, _⟩ := id hb6; have hs1 := run_bytes w6 hb6; have hs2 := run_bytes w6 (HY.out.keep goodB (by (repeat (first | with_reducible exact Kp.refl _ | with_reducible refine Kp.alloc ?_ _ | with_reducible refine Kp.drew ?_ | with_reducible refine Kp.back (by assumption) ?_))))))
  all_goals go_ret
  all_goals exact ⟨rfl, HK0.out.trans (by (repeat (first | with_reducible exact Kp.refl _ | with_reducible refine Kp.alloc ?_ _ | with_reducible refine Kp.drew ?_ | with_reducible refine Kp.back (by assumption) ?_)))⟩
end Go.Proofs.Ytpikeeddanfhdaa
