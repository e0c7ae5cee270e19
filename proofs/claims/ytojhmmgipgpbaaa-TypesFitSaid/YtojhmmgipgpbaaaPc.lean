/- The walk of TypesFit. Condition: the type lies in memory. -/
import Derived.Test.YtojhmmgipgpbaaaPb
import Derived.Test.YtojhmmgipgpbaaaZ
import Derived.Test.YtojhmmgipgpbaaaF2
import Derived.Test.YtojhmmgipgpbaaaJ
namespace Go.Proofs.Ytojhmmgipgpbaaa
open Go.RowKit
set_option linter.unusedVariables false
set_option linter.unusedSimpArgs false
set_option maxHeartbeats 12800000 in
set_option maxRecDepth 100000 in
theorem fit_bad (R : Nat) (T : Ty) (h : Hd) (w : World) (con : Int) (hl : Lies w A0 R T h) (hs : (look 9 T).2.2 = false) :
    Calls Try.prog 4 #[h.val, .int .i64 con] w fun e w' => e = .returned (.bool true) ∧ Kp w w' := by
  have HL := Lib.hid hl
  have HS := Lib.hid hs
  clear hl
  have KB := Lib.hid (show Kp w (w.alloc (.cells #[.int .i64 h.k, .string h.nm, .int .i64 h.con, .slice h.fa h.fl h.fc, .slice h.la h.ll h.lc, .slice h.ra h.rl h.rc] 25)) from (Kp.refl w).alloc _)
  clear hs
  go_enter Try.func4, Try.ntmps4
  go_wp2_with (first | (go_at_call 23; (with_reducible refine (c_Sound R T h _ (HL.out.keep (KB.out.trans KD5.out))).mono ?_); rintro e w6 ⟨rfl, hk6⟩; rw [HS.out]; have KD6 := Lib.hid (KD5.out.trans hk6); have KE6 := Lib.hid (KE5.out.trans hk6); obtain ⟨z4_0, z4_1, z4_2, z4_3, z4_4, z4_5, z4s⟩ := boxed (h := h) (KD6.out); have z4l : w.heap.size < w6.heap.size := z4s) | (go_at_call 18; (with_reducible refine (c_answers _).mono ?_); rintro e w5 ⟨rfl, hk5⟩; have KD5 := Lib.hid (KD4.out.trans hk5); have KE5 := Lib.hid hk5; obtain ⟨z3_0, z3_1, z3_2, z3_3, z3_4, z3_5, z3s⟩ := boxed (h := h) (KD5.out); have z3l : w.heap.size < w5.heap.size := z3s) | (go_at_call 22; (with_reducible refine (par_bad R T h3 _ LI3.out HS.out).mono ?_); rintro e w4 ⟨rfl, hk4⟩; have KD4 := Lib.hid (KD3.out.trans hk4); obtain ⟨z2_0, z2_1, z2_2, z2_3, z2_4, z2_5, z2s⟩ := boxed (h := h) (KD4.out); have z2l : w.heap.size < w4.heap.size := z2s) | (go_at_call 13; (with_reducible refine (c_own R T h _ (HL.out.keep (KB.out.trans KD2.out))).mono ?_); rintro e w3 ⟨h3, rfl, hl3, hk3⟩; have KD3 := Lib.hid (KD2.out.trans hk3); have LI3 := Lib.hid (hl3.weak (A0_le _))) | (go_at_call 21; (with_reducible refine (fits_bad R T h1 _ con LI1.out HS.out).mono ?_); rintro e w2 ⟨rfl, hk2⟩; have KD2 := Lib.hid (KD1.out.trans hk2); obtain ⟨z1_0, z1_1, z1_2, z1_3, z1_4, z1_5, z1s⟩ := boxed (h := h) (KD2.out); have z1l : w.heap.size < w2.heap.size := z1s) | (go_at_call 13; (with_reducible refine (c_own R T h _ (HL.out.keep KB.out)).mono ?_); rintro e w1 ⟨h1, rfl, hl1, hk1⟩; have KD1 := Lib.hid hk1; have LI1 := Lib.hid (hl1.weak (A0_le _))))
  go_ret
  exact ⟨by first | rfl | (simp; done), KB.out.trans KD6.out⟩
set_option maxHeartbeats 12800000 in
set_option maxRecDepth 100000 in
theorem fit_low (R : Nat) (T : Ty) (h : Hd) (w : World) (con : Int) (hl : Lies w A0 R T h) (hs : (look 9 T).2.2 = true) (hc : con < 1) :
    Calls Try.prog 4 #[h.val, .int .i64 con] w fun e w' => e = .returned (.bool true) ∧ Kp w w' := by
  have HL := Lib.hid hl
  have HS := Lib.hid hs
  clear hl
  have HLB := Lib.hid (show (holes 9 T []).length ≤ 9223372036854775807 by have h1 := holes_len hs []; have h2 := HB_9; simp only [List.length_nil] at h1; omega)
  have HC := Lib.hid (show ¬ (1 ≤ con ∧ con ≤ 3) by omega)
  have d1 : decide (con < 1) = true := decide_eq_true hc
  have KB := Lib.hid (show Kp w (w.alloc (.cells #[.int .i64 h.k, .string h.nm, .int .i64 h.con, .slice h.fa h.fl h.fc, .slice h.la h.ll h.lc, .slice h.ra h.rl h.rc] 25)) from (Kp.refl w).alloc _)
  clear hs
  go_enter Try.func4, Try.ntmps4
  go_wp2_with (first | (go_at_call 24; (with_reducible refine (c_sameTexts _ _ _ ad4 ad7 c4 c7 (holes 9 T []) (HT4.out.keep KE7.out) HT7.out HLB.out).mono ?_); rintro e w8 ⟨rfl, hk8⟩; have KD8 := Lib.hid (KD7.out.trans hk8); obtain ⟨z5_0, z5_1, z5_2, z5_3, z5_4, z5_5, z5s⟩ := boxed (h := h) (KD8.out); have z5l : w.heap.size < w8.heap.size := z5s) | (go_at_call 25; (with_reducible refine (c_Holes0 R T h _ (HL.out.keep (KB.out.trans KD6.out)) HS.out).mono ?_); rintro e w7 ⟨v7, rfl, ho7, hk7⟩; obtain ⟨ad7, c7, hv7, _, ht7⟩ := ho7.tab; rw [hv7]; have HT7 := Lib.hid ht7; clear ht7 ho7 hv7; have KD7 := Lib.hid (KD6.out.trans hk7); have KE7 := Lib.hid (KE6.out.trans hk7)) | (go_at_call 23; (with_reducible refine (c_Sound R T h _ (HL.out.keep (KB.out.trans KD5.out))).mono ?_); rintro e w6 ⟨rfl, hk6⟩; rw [HS.out]; have KD6 := Lib.hid (KD5.out.trans hk6); have KE6 := Lib.hid (KE5.out.trans hk6); obtain ⟨z4_0, z4_1, z4_2, z4_3, z4_4, z4_5, z4s⟩ := boxed (h := h) (KD6.out); have z4l : w.heap.size < w6.heap.size := z4s) | (go_at_call 18; (with_reducible refine (c_answers _).mono ?_); rintro e w5 ⟨rfl, hk5⟩; have KD5 := Lib.hid (KD4.out.trans hk5); have KE5 := Lib.hid hk5; obtain ⟨z3_0, z3_1, z3_2, z3_3, z3_4, z3_5, z3s⟩ := boxed (h := h) (KD5.out); have z3l : w.heap.size < w5.heap.size := z3s) | (go_at_call 22; (with_reducible refine (par_good R T h3 _ LI3.out HS.out).mono ?_); rintro e w4 ⟨v4, rfl, ho4, hk4⟩; obtain ⟨ad4, c4, hv4, _, ht4⟩ := ho4.tab; rw [hv4]; have HT4 := Lib.hid ht4; clear ht4 ho4 hv4; have KD4 := Lib.hid (KD3.out.trans hk4); obtain ⟨z2_0, z2_1, z2_2, z2_3, z2_4, z2_5, z2s⟩ := boxed (h := h) (KD4.out); have z2l : w.heap.size < w4.heap.size := z2s) | (go_at_call 13; (with_reducible refine (c_own R T h _ (HL.out.keep (KB.out.trans KD2.out))).mono ?_); rintro e w3 ⟨h3, rfl, hl3, hk3⟩; have KD3 := Lib.hid (KD2.out.trans hk3); have LI3 := Lib.hid (hl3.weak (A0_le _))) | (go_at_call 21; (with_reducible refine (fits_none R T h1 _ con LI1.out HS.out HC.out).mono ?_); rintro e w2 ⟨rfl, hk2⟩; have KD2 := Lib.hid (KD1.out.trans hk2); obtain ⟨z1_0, z1_1, z1_2, z1_3, z1_4, z1_5, z1s⟩ := boxed (h := h) (KD2.out); have z1l : w.heap.size < w2.heap.size := z1s) | (go_at_call 13; (with_reducible refine (c_own R T h _ (HL.out.keep KB.out)).mono ?_); rintro e w1 ⟨h1, rfl, hl1, hk1⟩; have KD1 := Lib.hid hk1; have LI1 := Lib.hid (hl1.weak (A0_le _))))
  go_ret
  exact ⟨by first | rfl | (simp; done), KB.out.trans KD8.out⟩
set_option maxHeartbeats 12800000 in
set_option maxRecDepth 100000 in
theorem fit_high (R : Nat) (T : Ty) (h : Hd) (w : World) (con : Int) (hl : Lies w A0 R T h) (hs : (look 9 T).2.2 = true) (hc : 3 < con) :
    Calls Try.prog 4 #[h.val, .int .i64 con] w fun e w' => e = .returned (.bool true) ∧ Kp w w' := by
  have HL := Lib.hid hl
  have HS := Lib.hid hs
  clear hl
  have HLB := Lib.hid (show (holes 9 T []).length ≤ 9223372036854775807 by have h1 := holes_len hs []; have h2 := HB_9; simp only [List.length_nil] at h1; omega)
  have HC := Lib.hid (show ¬ (1 ≤ con ∧ con ≤ 3) by omega)
  have d1 : decide (con < 1) = false := decide_eq_false (by omega)
  have d2 : decide (3 < con) = true := decide_eq_true hc
  have KB := Lib.hid (show Kp w (w.alloc (.cells #[.int .i64 h.k, .string h.nm, .int .i64 h.con, .slice h.fa h.fl h.fc, .slice h.la h.ll h.lc, .slice h.ra h.rl h.rc] 25)) from (Kp.refl w).alloc _)
  clear hs
  go_enter Try.func4, Try.ntmps4
  go_wp2_with (first | (go_at_call 24; (with_reducible refine (c_sameTexts _ _ _ ad4 ad7 c4 c7 (holes 9 T []) (HT4.out.keep KE7.out) HT7.out HLB.out).mono ?_); rintro e w8 ⟨rfl, hk8⟩; have KD8 := Lib.hid (KD7.out.trans hk8); obtain ⟨z5_0, z5_1, z5_2, z5_3, z5_4, z5_5, z5s⟩ := boxed (h := h) (KD8.out); have z5l : w.heap.size < w8.heap.size := z5s) | (go_at_call 25; (with_reducible refine (c_Holes0 R T h _ (HL.out.keep (KB.out.trans KD6.out)) HS.out).mono ?_); rintro e w7 ⟨v7, rfl, ho7, hk7⟩; obtain ⟨ad7, c7, hv7, _, ht7⟩ := ho7.tab; rw [hv7]; have HT7 := Lib.hid ht7; clear ht7 ho7 hv7; have KD7 := Lib.hid (KD6.out.trans hk7); have KE7 := Lib.hid (KE6.out.trans hk7)) | (go_at_call 23; (with_reducible refine (c_Sound R T h _ (HL.out.keep (KB.out.trans KD5.out))).mono ?_); rintro e w6 ⟨rfl, hk6⟩; rw [HS.out]; have KD6 := Lib.hid (KD5.out.trans hk6); have KE6 := Lib.hid (KE5.out.trans hk6); obtain ⟨z4_0, z4_1, z4_2, z4_3, z4_4, z4_5, z4s⟩ := boxed (h := h) (KD6.out); have z4l : w.heap.size < w6.heap.size := z4s) | (go_at_call 18; (with_reducible refine (c_answers _).mono ?_); rintro e w5 ⟨rfl, hk5⟩; have KD5 := Lib.hid (KD4.out.trans hk5); have KE5 := Lib.hid hk5; obtain ⟨z3_0, z3_1, z3_2, z3_3, z3_4, z3_5, z3s⟩ := boxed (h := h) (KD5.out); have z3l : w.heap.size < w5.heap.size := z3s) | (go_at_call 22; (with_reducible refine (par_good R T h3 _ LI3.out HS.out).mono ?_); rintro e w4 ⟨v4, rfl, ho4, hk4⟩; obtain ⟨ad4, c4, hv4, _, ht4⟩ := ho4.tab; rw [hv4]; have HT4 := Lib.hid ht4; clear ht4 ho4 hv4; have KD4 := Lib.hid (KD3.out.trans hk4); obtain ⟨z2_0, z2_1, z2_2, z2_3, z2_4, z2_5, z2s⟩ := boxed (h := h) (KD4.out); have z2l : w.heap.size < w4.heap.size := z2s) | (go_at_call 13; (with_reducible refine (c_own R T h _ (HL.out.keep (KB.out.trans KD2.out))).mono ?_); rintro e w3 ⟨h3, rfl, hl3, hk3⟩; have KD3 := Lib.hid (KD2.out.trans hk3); have LI3 := Lib.hid (hl3.weak (A0_le _))) | (go_at_call 21; (with_reducible refine (fits_none R T h1 _ con LI1.out HS.out HC.out).mono ?_); rintro e w2 ⟨rfl, hk2⟩; have KD2 := Lib.hid (KD1.out.trans hk2); obtain ⟨z1_0, z1_1, z1_2, z1_3, z1_4, z1_5, z1s⟩ := boxed (h := h) (KD2.out); have z1l : w.heap.size < w2.heap.size := z1s) | (go_at_call 13; (with_reducible refine (c_own R T h _ (HL.out.keep KB.out)).mono ?_); rintro e w1 ⟨h1, rfl, hl1, hk1⟩; have KD1 := Lib.hid hk1; have LI1 := Lib.hid (hl1.weak (A0_le _))))
  go_ret
  exact ⟨by first | rfl | (simp; done), KB.out.trans KD8.out⟩
set_option maxHeartbeats 12800000 in
set_option maxRecDepth 100000 in
theorem fit_rng (R : Nat) (T : Ty) (h : Hd) (w : World) (con : Int) (hl : Lies w A0 R T h) (hs : (look 9 T).2.2 = true) (hc : 1 ≤ con ∧ con ≤ 3) (bb : Bool) (hfb : fitB T con = bb) :
    Calls Try.prog 4 #[h.val, .int .i64 con] w fun e w' => e = .returned (.bool true) ∧ Kp w w' := by
  have HL := Lib.hid hl
  have HS := Lib.hid hs
  clear hl
  have HLB := Lib.hid (show (holes 9 T []).length ≤ 9223372036854775807 by have h1 := holes_len hs []; have h2 := HB_9; simp only [List.length_nil] at h1; omega)
  have HC := Lib.hid hc
  have HFB := Lib.hid hfb
  have d1 : decide (con < 1) = false := decide_eq_false (by omega)
  have d2 : decide (3 < con) = false := decide_eq_false (by omega)
  clear hc hfb
  have KB := Lib.hid (show Kp w (w.alloc (.cells #[.int .i64 h.k, .string h.nm, .int .i64 h.con, .slice h.fa h.fl h.fc, .slice h.la h.ll h.lc, .slice h.ra h.rl h.rc] 25)) from (Kp.refl w).alloc _)
  clear hs
  go_enter Try.func4, Try.ntmps4
  go_wp2_with (first | (go_at_call 26; (with_reducible refine (c_Meets R T h _ con (HL.out.keep (KB.out.trans KD8.out)) HS.out HC.out).mono ?_); rintro e w9 ⟨rfl, hk9⟩; rw [HFB.out]; have KD9 := Lib.hid (KD8.out.trans hk9)) | (go_at_call 24; (with_reducible refine (c_sameTexts _ _ _ ad4 ad7 c4 c7 (holes 9 T []) (HT4.out.keep KE7.out) HT7.out HLB.out).mono ?_); rintro e w8 ⟨rfl, hk8⟩; have KD8 := Lib.hid (KD7.out.trans hk8); obtain ⟨z5_0, z5_1, z5_2, z5_3, z5_4, z5_5, z5s⟩ := boxed (h := h) (KD8.out); have z5l : w.heap.size < w8.heap.size := z5s) | (go_at_call 25; (with_reducible refine (c_Holes0 R T h _ (HL.out.keep (KB.out.trans KD6.out)) HS.out).mono ?_); rintro e w7 ⟨v7, rfl, ho7, hk7⟩; obtain ⟨ad7, c7, hv7, _, ht7⟩ := ho7.tab; rw [hv7]; have HT7 := Lib.hid ht7; clear ht7 ho7 hv7; have KD7 := Lib.hid (KD6.out.trans hk7); have KE7 := Lib.hid (KE6.out.trans hk7)) | (go_at_call 23; (with_reducible refine (c_Sound R T h _ (HL.out.keep (KB.out.trans KD5.out))).mono ?_); rintro e w6 ⟨rfl, hk6⟩; rw [HS.out]; have KD6 := Lib.hid (KD5.out.trans hk6); have KE6 := Lib.hid (KE5.out.trans hk6); obtain ⟨z4_0, z4_1, z4_2, z4_3, z4_4, z4_5, z4s⟩ := boxed (h := h) (KD6.out); have z4l : w.heap.size < w6.heap.size := z4s) | (go_at_call 18; (with_reducible refine (c_answers _).mono ?_); rintro e w5 ⟨rfl, hk5⟩; have KD5 := Lib.hid (KD4.out.trans hk5); have KE5 := Lib.hid hk5; obtain ⟨z3_0, z3_1, z3_2, z3_3, z3_4, z3_5, z3s⟩ := boxed (h := h) (KD5.out); have z3l : w.heap.size < w5.heap.size := z3s) | (go_at_call 22; (with_reducible refine (par_good R T h3 _ LI3.out HS.out).mono ?_); rintro e w4 ⟨v4, rfl, ho4, hk4⟩; obtain ⟨ad4, c4, hv4, _, ht4⟩ := ho4.tab; rw [hv4]; have HT4 := Lib.hid ht4; clear ht4 ho4 hv4; have KD4 := Lib.hid (KD3.out.trans hk4); obtain ⟨z2_0, z2_1, z2_2, z2_3, z2_4, z2_5, z2s⟩ := boxed (h := h) (KD4.out); have z2l : w.heap.size < w4.heap.size := z2s) | (go_at_call 13; (with_reducible refine (c_own R T h _ (HL.out.keep (KB.out.trans KD2.out))).mono ?_); rintro e w3 ⟨h3, rfl, hl3, hk3⟩; have KD3 := Lib.hid (KD2.out.trans hk3); have LI3 := Lib.hid (hl3.weak (A0_le _))) | (go_at_call 21; (with_reducible refine (fits_some R T h1 _ con LI1.out HS.out HC.out).mono ?_); rintro e w2 ⟨rfl, hk2⟩; have KD2 := Lib.hid (KD1.out.trans hk2); rw [HFB.out]; obtain ⟨z1_0, z1_1, z1_2, z1_3, z1_4, z1_5, z1s⟩ := boxed (h := h) (KD2.out); have z1l : w.heap.size < w2.heap.size := z1s) | (go_at_call 13; (with_reducible refine (c_own R T h _ (HL.out.keep KB.out)).mono ?_); rintro e w1 ⟨h1, rfl, hl1, hk1⟩; have KD1 := Lib.hid hk1; have LI1 := Lib.hid (hl1.weak (A0_le _))))
  go_ret
  exact ⟨by first | rfl | (simp; done), KB.out.trans KD9.out⟩
theorem law_TypesFit (R : Nat) (T : Ty) (h : Hd) (w : World) (con : Int) (hl : Lies w A0 R T h) :
    Calls Try.prog 4 #[h.val, .int .i64 con] w fun e w' => e = .returned (.bool true) ∧ Kp w w' := by
  cases hs : (look 9 T).2.2 with
  | false => exact fit_bad R T h w con hl hs
  | true =>
    by_cases h1 : con < 1
    · exact fit_low R T h w con hl hs h1
    by_cases h3 : 3 < con
    · exact fit_high R T h w con hl hs h3
    · exact fit_rng R T h w con hl hs (by omega) _ rfl
end Go.Proofs.Ytojhmmgipgpbaaa
