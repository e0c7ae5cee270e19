/- The token at a place, by the reference. No condition but the text's size. -/
import Derived.Test.YtjpmgloofcgfnaaDoorG2
namespace Go.Proofs.YtjpmgloofcgfnaaDoor
open Go.RowKit
set_option linter.unusedVariables false
set_option linter.unusedSimpArgs false

def nextE (t : Tk) (en er : Int) : Value := .tuple #[t.val, .int .i64 en, .int .i64 er]
set_option maxHeartbeats 1600000 in
set_option maxRecDepth 100000 in
theorem next_num (s : ByteArray) (p en : Nat) (w : World) (hp : p < s.size) (hs : s.size ≤ 65536) (hE : p + spanE (s.extract p s.size) = en) (hen : en ≤ s.size) (x er : Int) (hd : 48 ≤ (byt s p).toNat ∧ (byt s p).toNat ≤ 57) (hl : p < en) (hn : numV (s.extract p en).data.toList = (x, er)) :
    Calls Tryd.prog 26 #[.string s, .int .i64 p] w fun e w' => e = .returned (nextE ⟨2, s.extract p en, x, p⟩ (en : Int) er) ∧ Kp w w' := by
  have CS := Lib.hid (fun W => c_stretch s p W (by omega) hs)
  rw [hE] at CS
  have i1 : (0 : Int) ≤ p := by omega
  have i2 : (p : Int) < s.size := by omega
  have i3 : (p : Int) ≤ en := by omega
  have i4 : (en : Int) ≤ s.size := by omega
  have hb := byt_get hp
  have b1 : (48 : Int) ≤ ((s[p]'hp).toNat : Int) := by rw [hb]; omega
  have b2 : ((s[p]'hp).toNat : Int) ≤ 57 := by rw [hb]; omega
  have i5 : (p : Int) < en := by omega
  have HN := Lib.hid (show numT (numV (s.extract p en).data.toList) = .tuple #[.int .u64 x, .int .i64 er] by rw [hn]; rfl)
  have CN := Lib.hid (fun W => c_rNumber (s.extract p en) W (by rw [ByteArray.size_extract]; omega))
  clear hb
  clear hE hn hd
  go_enter Tryd.func26, Tryd.ntmps26
  go_wp2_with (first | (go_at_call 41; (with_reducible refine (CS.out _).mono ?_); rintro e w2 ⟨rfl, hk2⟩; have K2 := Lib.hid hk2; obtain ⟨u0, u1, u2, u3, uf, uz⟩ := boxR (t := noTk) hk2; simp only [noTk] at u0 u1 u2 u3; clear hk2) | (go_at_call 15; (with_reducible refine (CN.out _).mono ?_); rintro e w3 ⟨rfl, rfl⟩; rw [HN.out]))
  refine bodyPost_ret (v := nextE ⟨2, s.extract p en, x, p⟩ (en : Int) er) (by simp [results, Tryd.results26, go_sem, nextE, noTk, u0, u1, u2, u3, uf, uz]) rfl ⟨rfl, ?_⟩
  repeat (first | exact (((Kp.refl w).alloc _).trans K2.out) | refine Kp.setCell ?_ (by simp) _)
set_option maxHeartbeats 1600000 in
set_option maxRecDepth 100000 in
theorem next_large_lo (s : ByteArray) (p en : Nat) (w : World) (hp : p < s.size) (hs : s.size ≤ 65536) (hE : p + spanE (s.extract p s.size) = en) (hen : en ≤ s.size) (hd : (byt s p).toNat < 48) (hl : p < en) (h64 : 64 < en - p) :
    Calls Tryd.prog 26 #[.string s, .int .i64 p] w fun e w' => e = .returned (nextE noTk (en : Int) 6) ∧ Kp w w' := by
  have CS := Lib.hid (fun W => c_stretch s p W (by omega) hs)
  rw [hE] at CS
  have i1 : (0 : Int) ≤ p := by omega
  have i2 : (p : Int) < s.size := by omega
  have i3 : (p : Int) ≤ en := by omega
  have i4 : (en : Int) ≤ s.size := by omega
  have hb := byt_get hp
  have i5 : (p : Int) < en := by omega
  have b1 : decide ((48 : Int) ≤ ((s[p]'hp).toNat : Int)) = false := decide_eq_false (by rw [hb]; omega)
  have b2 : decide (48 ≤ (s[p]'hp).toNat) = false := decide_eq_false (by rw [hb]; omega)
  have b3 : ¬ 48 ≤ (s[p]'hp).toNat := by rw [hb]; omega
  clear hb
  have i6 : (64 : Int) < (en : Int) - p := by omega
  clear hE hd
  go_enter Tryd.func26, Tryd.ntmps26
  go_wp2_with (first | (go_at_call 41; (with_reducible refine (CS.out _).mono ?_); rintro e w2 ⟨rfl, hk2⟩; have K2 := Lib.hid hk2; obtain ⟨u0, u1, u2, u3, uf, uz⟩ := boxR (t := noTk) hk2; simp only [noTk] at u0 u1 u2 u3; clear hk2))
  refine bodyPost_ret (v := nextE noTk (en : Int) 6) (by simp [results, Tryd.results26, go_sem, nextE, noTk, u0, u1, u2, u3, uf, uz]) rfl ⟨rfl, ?_⟩
  repeat (first | exact (((Kp.refl w).alloc _).trans K2.out) | refine Kp.setCell ?_ (by simp) _)
set_option maxHeartbeats 1600000 in
set_option maxRecDepth 100000 in
theorem next_w3_lo (s : ByteArray) (p en : Nat) (w : World) (hp : p < s.size) (hs : s.size ≤ 65536) (hE : p + spanE (s.extract p s.size) = en) (hen : en ≤ s.size) (hd : (byt s p).toNat < 48) (hl : p < en) (h64 : en - p ≤ 64) (hw : inB wordsL (s.extract p en) = true) :
    Calls Tryd.prog 26 #[.string s, .int .i64 p] w fun e w' => e = .returned (nextE ⟨3, s.extract p en, 0, p⟩ (en : Int) 0) ∧ Kp w w' := by
  have CS := Lib.hid (fun W => c_stretch s p W (by omega) hs)
  rw [hE] at CS
  have i1 : (0 : Int) ≤ p := by omega
  have i2 : (p : Int) < s.size := by omega
  have i3 : (p : Int) ≤ en := by omega
  have i4 : (en : Int) ≤ s.size := by omega
  have hb := byt_get hp
  have i5 : (p : Int) < en := by omega
  have b1 : decide ((48 : Int) ≤ ((s[p]'hp).toNat : Int)) = false := decide_eq_false (by rw [hb]; omega)
  have b2 : decide (48 ≤ (s[p]'hp).toNat) = false := decide_eq_false (by rw [hb]; omega)
  have b3 : ¬ 48 ≤ (s[p]'hp).toNat := by rw [hb]; omega
  clear hb
  have i6 : (en : Int) - p ≤ 64 := by omega
  have HW := Lib.hid hw
  clear hE hd hw
  go_enter Tryd.func26, Tryd.ntmps26
  go_wp2_with (first | (go_at_call 41; (with_reducible refine (CS.out _).mono ?_); rintro e w2 ⟨rfl, hk2⟩; have K2 := Lib.hid hk2; obtain ⟨u0, u1, u2, u3, uf, uz⟩ := boxR (t := noTk) hk2; simp only [noTk] at u0 u1 u2 u3; clear hk2) | (go_at_call 19; (with_reducible refine (c_rWord (s.extract p en) _).mono ?_); rintro e w3 ⟨rfl, hk3⟩; rw [HW.out]; obtain ⟨u0, u1, u2, u3, uf, uz⟩ := boxR (t := noTk) (Kp.trans K2.out hk3); simp only [noTk] at u0 u1 u2 u3; have K3 := Lib.hid (K2.out.trans hk3); clear hk3))
  refine bodyPost_ret (v := nextE ⟨3, s.extract p en, 0, p⟩ (en : Int) 0) (by simp [results, Tryd.results26, go_sem, nextE, noTk, u0, u1, u2, u3, uf, uz]) rfl ⟨rfl, ?_⟩
  repeat (first | exact (((Kp.refl w).alloc _).trans K3.out) | refine Kp.setCell ?_ (by simp) _)
set_option maxHeartbeats 1600000 in
set_option maxRecDepth 100000 in
theorem next_w1_lo (s : ByteArray) (p en : Nat) (w : World) (hp : p < s.size) (hs : s.size ≤ 65536) (hE : p + spanE (s.extract p s.size) = en) (hen : en ≤ s.size) (hd : (byt s p).toNat < 48) (hl : p < en) (h64 : en - p ≤ 64) (hw : inB wordsL (s.extract p en) = false) :
    Calls Tryd.prog 26 #[.string s, .int .i64 p] w fun e w' => e = .returned (nextE ⟨1, s.extract p en, 0, p⟩ (en : Int) 0) ∧ Kp w w' := by
  have CS := Lib.hid (fun W => c_stretch s p W (by omega) hs)
  rw [hE] at CS
  have i1 : (0 : Int) ≤ p := by omega
  have i2 : (p : Int) < s.size := by omega
  have i3 : (p : Int) ≤ en := by omega
  have i4 : (en : Int) ≤ s.size := by omega
  have hb := byt_get hp
  have i5 : (p : Int) < en := by omega
  have b1 : decide ((48 : Int) ≤ ((s[p]'hp).toNat : Int)) = false := decide_eq_false (by rw [hb]; omega)
  have b2 : decide (48 ≤ (s[p]'hp).toNat) = false := decide_eq_false (by rw [hb]; omega)
  have b3 : ¬ 48 ≤ (s[p]'hp).toNat := by rw [hb]; omega
  clear hb
  have i6 : (en : Int) - p ≤ 64 := by omega
  have HW := Lib.hid hw
  clear hE hd hw
  go_enter Tryd.func26, Tryd.ntmps26
  go_wp2_with (first | (go_at_call 41; (with_reducible refine (CS.out _).mono ?_); rintro e w2 ⟨rfl, hk2⟩; have K2 := Lib.hid hk2; obtain ⟨u0, u1, u2, u3, uf, uz⟩ := boxR (t := noTk) hk2; simp only [noTk] at u0 u1 u2 u3; clear hk2) | (go_at_call 19; (with_reducible refine (c_rWord (s.extract p en) _).mono ?_); rintro e w3 ⟨rfl, hk3⟩; rw [HW.out]; obtain ⟨u0, u1, u2, u3, uf, uz⟩ := boxR (t := noTk) (Kp.trans K2.out hk3); simp only [noTk] at u0 u1 u2 u3; have K3 := Lib.hid (K2.out.trans hk3); clear hk3))
  refine bodyPost_ret (v := nextE ⟨1, s.extract p en, 0, p⟩ (en : Int) 0) (by simp [results, Tryd.results26, go_sem, nextE, noTk, u0, u1, u2, u3, uf, uz]) rfl ⟨rfl, ?_⟩
  repeat (first | exact (((Kp.refl w).alloc _).trans K3.out) | refine Kp.setCell ?_ (by simp) _)
set_option maxHeartbeats 1600000 in
set_option maxRecDepth 100000 in
theorem next_large_hi (s : ByteArray) (p en : Nat) (w : World) (hp : p < s.size) (hs : s.size ≤ 65536) (hE : p + spanE (s.extract p s.size) = en) (hen : en ≤ s.size) (hd : 57 < (byt s p).toNat) (hl : p < en) (h64 : 64 < en - p) :
    Calls Tryd.prog 26 #[.string s, .int .i64 p] w fun e w' => e = .returned (nextE noTk (en : Int) 6) ∧ Kp w w' := by
  have CS := Lib.hid (fun W => c_stretch s p W (by omega) hs)
  rw [hE] at CS
  have i1 : (0 : Int) ≤ p := by omega
  have i2 : (p : Int) < s.size := by omega
  have i3 : (p : Int) ≤ en := by omega
  have i4 : (en : Int) ≤ s.size := by omega
  have hb := byt_get hp
  have i5 : (p : Int) < en := by omega
  have b1 : (48 : Int) ≤ ((s[p]'hp).toNat : Int) := by rw [hb]; omega
  have b2 : decide (((s[p]'hp).toNat : Int) ≤ 57) = false := decide_eq_false (by rw [hb]; omega)
  have b3 : decide ((s[p]'hp).toNat ≤ 57) = false := decide_eq_false (by rw [hb]; omega)
  have b4 : ¬ (s[p]'hp).toNat ≤ 57 := by rw [hb]; omega
  clear hb
  have i6 : (64 : Int) < (en : Int) - p := by omega
  clear hE hd
  go_enter Tryd.func26, Tryd.ntmps26
  go_wp2_with (first | (go_at_call 41; (with_reducible refine (CS.out _).mono ?_); rintro e w2 ⟨rfl, hk2⟩; have K2 := Lib.hid hk2; obtain ⟨u0, u1, u2, u3, uf, uz⟩ := boxR (t := noTk) hk2; simp only [noTk] at u0 u1 u2 u3; clear hk2))
  refine bodyPost_ret (v := nextE noTk (en : Int) 6) (by simp [results, Tryd.results26, go_sem, nextE, noTk, u0, u1, u2, u3, uf, uz]) rfl ⟨rfl, ?_⟩
  repeat (first | exact (((Kp.refl w).alloc _).trans K2.out) | refine Kp.setCell ?_ (by simp) _)
set_option maxHeartbeats 1600000 in
set_option maxRecDepth 100000 in
theorem next_w3_hi (s : ByteArray) (p en : Nat) (w : World) (hp : p < s.size) (hs : s.size ≤ 65536) (hE : p + spanE (s.extract p s.size) = en) (hen : en ≤ s.size) (hd : 57 < (byt s p).toNat) (hl : p < en) (h64 : en - p ≤ 64) (hw : inB wordsL (s.extract p en) = true) :
    Calls Tryd.prog 26 #[.string s, .int .i64 p] w fun e w' => e = .returned (nextE ⟨3, s.extract p en, 0, p⟩ (en : Int) 0) ∧ Kp w w' := by
  have CS := Lib.hid (fun W => c_stretch s p W (by omega) hs)
  rw [hE] at CS
  have i1 : (0 : Int) ≤ p := by omega
  have i2 : (p : Int) < s.size := by omega
  have i3 : (p : Int) ≤ en := by omega
  have i4 : (en : Int) ≤ s.size := by omega
  have hb := byt_get hp
  have i5 : (p : Int) < en := by omega
  have b1 : (48 : Int) ≤ ((s[p]'hp).toNat : Int) := by rw [hb]; omega
  have b2 : decide (((s[p]'hp).toNat : Int) ≤ 57) = false := decide_eq_false (by rw [hb]; omega)
  have b3 : decide ((s[p]'hp).toNat ≤ 57) = false := decide_eq_false (by rw [hb]; omega)
  have b4 : ¬ (s[p]'hp).toNat ≤ 57 := by rw [hb]; omega
  clear hb
  have i6 : (en : Int) - p ≤ 64 := by omega
  have HW := Lib.hid hw
  clear hE hd hw
  go_enter Tryd.func26, Tryd.ntmps26
  go_wp2_with (first | (go_at_call 41; (with_reducible refine (CS.out _).mono ?_); rintro e w2 ⟨rfl, hk2⟩; have K2 := Lib.hid hk2; obtain ⟨u0, u1, u2, u3, uf, uz⟩ := boxR (t := noTk) hk2; simp only [noTk] at u0 u1 u2 u3; clear hk2) | (go_at_call 19; (with_reducible refine (c_rWord (s.extract p en) _).mono ?_); rintro e w3 ⟨rfl, hk3⟩; rw [HW.out]; obtain ⟨u0, u1, u2, u3, uf, uz⟩ := boxR (t := noTk) (Kp.trans K2.out hk3); simp only [noTk] at u0 u1 u2 u3; have K3 := Lib.hid (K2.out.trans hk3); clear hk3))
  refine bodyPost_ret (v := nextE ⟨3, s.extract p en, 0, p⟩ (en : Int) 0) (by simp [results, Tryd.results26, go_sem, nextE, noTk, u0, u1, u2, u3, uf, uz]) rfl ⟨rfl, ?_⟩
  repeat (first | exact (((Kp.refl w).alloc _).trans K3.out) | refine Kp.setCell ?_ (by simp) _)
set_option maxHeartbeats 1600000 in
set_option maxRecDepth 100000 in
theorem next_w1_hi (s : ByteArray) (p en : Nat) (w : World) (hp : p < s.size) (hs : s.size ≤ 65536) (hE : p + spanE (s.extract p s.size) = en) (hen : en ≤ s.size) (hd : 57 < (byt s p).toNat) (hl : p < en) (h64 : en - p ≤ 64) (hw : inB wordsL (s.extract p en) = false) :
    Calls Tryd.prog 26 #[.string s, .int .i64 p] w fun e w' => e = .returned (nextE ⟨1, s.extract p en, 0, p⟩ (en : Int) 0) ∧ Kp w w' := by
  have CS := Lib.hid (fun W => c_stretch s p W (by omega) hs)
  rw [hE] at CS
  have i1 : (0 : Int) ≤ p := by omega
  have i2 : (p : Int) < s.size := by omega
  have i3 : (p : Int) ≤ en := by omega
  have i4 : (en : Int) ≤ s.size := by omega
  have hb := byt_get hp
  have i5 : (p : Int) < en := by omega
  have b1 : (48 : Int) ≤ ((s[p]'hp).toNat : Int) := by rw [hb]; omega
  have b2 : decide (((s[p]'hp).toNat : Int) ≤ 57) = false := decide_eq_false (by rw [hb]; omega)
  have b3 : decide ((s[p]'hp).toNat ≤ 57) = false := decide_eq_false (by rw [hb]; omega)
  have b4 : ¬ (s[p]'hp).toNat ≤ 57 := by rw [hb]; omega
  clear hb
  have i6 : (en : Int) - p ≤ 64 := by omega
  have HW := Lib.hid hw
  clear hE hd hw
  go_enter Tryd.func26, Tryd.ntmps26
  go_wp2_with (first | (go_at_call 41; (with_reducible refine (CS.out _).mono ?_); rintro e w2 ⟨rfl, hk2⟩; have K2 := Lib.hid hk2; obtain ⟨u0, u1, u2, u3, uf, uz⟩ := boxR (t := noTk) hk2; simp only [noTk] at u0 u1 u2 u3; clear hk2) | (go_at_call 19; (with_reducible refine (c_rWord (s.extract p en) _).mono ?_); rintro e w3 ⟨rfl, hk3⟩; rw [HW.out]; obtain ⟨u0, u1, u2, u3, uf, uz⟩ := boxR (t := noTk) (Kp.trans K2.out hk3); simp only [noTk] at u0 u1 u2 u3; have K3 := Lib.hid (K2.out.trans hk3); clear hk3))
  refine bodyPost_ret (v := nextE ⟨1, s.extract p en, 0, p⟩ (en : Int) 0) (by simp [results, Tryd.results26, go_sem, nextE, noTk, u0, u1, u2, u3, uf, uz]) rfl ⟨rfl, ?_⟩
  repeat (first | exact (((Kp.refl w).alloc _).trans K3.out) | refine Kp.setCell ?_ (by simp) _)
set_option maxHeartbeats 1600000 in
set_option maxRecDepth 100000 in
theorem next_none (s : ByteArray) (p en : Nat) (w : World) (hp : p < s.size) (hs : s.size ≤ 65536) (hE : p + spanE (s.extract p s.size) = en) (hen : en ≤ s.size) (hl : p = en) (hv : signV (s.extract p s.size).data.toList = ⟨#[]⟩) :
    Calls Tryd.prog 26 #[.string s, .int .i64 p] w fun e w' => e = .returned (nextE noTk (p : Int) 4) ∧ Kp w w' := by
  have CS := Lib.hid (fun W => c_stretch s p W (by omega) hs)
  rw [hE] at CS
  have i1 : (0 : Int) ≤ p := by omega
  have i2 : (p : Int) < s.size := by omega
  have i3 : (p : Int) ≤ en := by omega
  have i4 : (en : Int) ≤ s.size := by omega
  subst hl
  have HV := Lib.hid hv
  clear hE hv
  go_enter Tryd.func26, Tryd.ntmps26
  go_wp2_with (first | (go_at_call 41; (with_reducible refine (CS.out _).mono ?_); rintro e w2 ⟨rfl, hk2⟩; have K2 := Lib.hid hk2; obtain ⟨u0, u1, u2, u3, uf, uz⟩ := boxR (t := noTk) hk2; simp only [noTk] at u0 u1 u2 u3; clear hk2) | (go_at_call 42; (with_reducible refine (c_rSign s p _ hp hs).mono ?_); rintro e w3 ⟨rfl, hk3⟩; rw [HV.out]; obtain ⟨u0, u1, u2, u3, uf, uz⟩ := boxR (t := noTk) (Kp.trans K2.out hk3); simp only [noTk] at u0 u1 u2 u3; have K3 := Lib.hid (K2.out.trans hk3); clear hk3))
  refine bodyPost_ret (v := nextE noTk (p : Int) 4) (by simp [results, Tryd.results26, go_sem, nextE, noTk, u0, u1, u2, u3, uf, uz]) rfl ⟨rfl, ?_⟩
  repeat (first | exact (((Kp.refl w).alloc _).trans K3.out) | refine Kp.setCell ?_ (by simp) _)
set_option maxHeartbeats 1600000 in
set_option maxRecDepth 100000 in
theorem next_semi (s : ByteArray) (p en : Nat) (w : World) (hp : p < s.size) (hs : s.size ≤ 65536) (hE : p + spanE (s.extract p s.size) = en) (hen : en ≤ s.size) (hl : p = en) (hv : signV (s.extract p s.size).data.toList = ⟨#[59]⟩) :
    Calls Tryd.prog 26 #[.string s, .int .i64 p] w fun e w' => e = .returned (nextE ⟨5, ⟨#[59]⟩, 0, (p : Int)⟩ ((p : Int) + 1) 0) ∧ Kp w w' := by
  have CS := Lib.hid (fun W => c_stretch s p W (by omega) hs)
  rw [hE] at CS
  have i1 : (0 : Int) ≤ p := by omega
  have i2 : (p : Int) < s.size := by omega
  have i3 : (p : Int) ≤ en := by omega
  have i4 : (en : Int) ≤ s.size := by omega
  subst hl
  have HV := Lib.hid hv
  clear hE hv
  go_enter Tryd.func26, Tryd.ntmps26
  go_wp2_with (first | (go_at_call 41; (with_reducible refine (CS.out _).mono ?_); rintro e w2 ⟨rfl, hk2⟩; have K2 := Lib.hid hk2; obtain ⟨u0, u1, u2, u3, uf, uz⟩ := boxR (t := noTk) hk2; simp only [noTk] at u0 u1 u2 u3; clear hk2) | (go_at_call 42; (with_reducible refine (c_rSign s p _ hp hs).mono ?_); rintro e w3 ⟨rfl, hk3⟩; rw [HV.out]; obtain ⟨u0, u1, u2, u3, uf, uz⟩ := boxR (t := noTk) (Kp.trans K2.out hk3); simp only [noTk] at u0 u1 u2 u3; have K3 := Lib.hid (K2.out.trans hk3); clear hk3))
  refine bodyPost_ret (v := nextE ⟨5, ⟨#[59]⟩, 0, (p : Int)⟩ ((p : Int) + 1) 0) (by simp [results, Tryd.results26, go_sem, nextE, noTk, u0, u1, u2, u3, uf, uz]) rfl ⟨rfl, ?_⟩
  repeat (first | exact (((Kp.refl w).alloc _).trans K3.out) | refine Kp.setCell ?_ (by simp) _)
set_option maxHeartbeats 1600000 in
set_option maxRecDepth 100000 in
theorem next_sign (s : ByteArray) (p en : Nat) (w : World) (hp : p < s.size) (hs : s.size ≤ 65536) (hE : p + spanE (s.extract p s.size) = en) (hen : en ≤ s.size) (hl : p = en) (g : ByteArray) (hv : signV (s.extract p s.size).data.toList = g) (g0 : g ≠ ⟨#[]⟩) (g1 : g ≠ ⟨#[59]⟩) (g2 : g.size ≤ 2) :
    Calls Tryd.prog 26 #[.string s, .int .i64 p] w fun e w' => e = .returned (nextE ⟨4, g, 0, (p : Int)⟩ ((p : Int) + g.size) 0) ∧ Kp w w' := by
  have CS := Lib.hid (fun W => c_stretch s p W (by omega) hs)
  rw [hE] at CS
  have i1 : (0 : Int) ≤ p := by omega
  have i2 : (p : Int) < s.size := by omega
  have i3 : (p : Int) ≤ en := by omega
  have i4 : (en : Int) ≤ s.size := by omega
  subst hl
  have HV := Lib.hid hv
  obtain ⟨hem, hem2⟩ := em_no (s := g) (fun e => g0 (em_yes e))
  have q1 : (g.toList == [59]) = false := ne_list g1
  clear hE hv g0 g1
  go_enter Tryd.func26, Tryd.ntmps26
  go_wp2_with (first | (go_at_call 41; (with_reducible refine (CS.out _).mono ?_); rintro e w2 ⟨rfl, hk2⟩; have K2 := Lib.hid hk2; obtain ⟨u0, u1, u2, u3, uf, uz⟩ := boxR (t := noTk) hk2; simp only [noTk] at u0 u1 u2 u3; clear hk2) | (go_at_call 42; (with_reducible refine (c_rSign s p _ hp hs).mono ?_); rintro e w3 ⟨rfl, hk3⟩; rw [HV.out]; obtain ⟨u0, u1, u2, u3, uf, uz⟩ := boxR (t := noTk) (Kp.trans K2.out hk3); simp only [noTk] at u0 u1 u2 u3; have K3 := Lib.hid (K2.out.trans hk3); clear hk3))
  refine bodyPost_ret (v := nextE ⟨4, g, 0, (p : Int)⟩ ((p : Int) + g.size) 0) (by simp [results, Tryd.results26, go_sem, nextE, noTk, u0, u1, u2, u3, uf, uz]) rfl ⟨rfl, ?_⟩
  repeat (first | exact (((Kp.refl w).alloc _).trans K3.out) | refine Kp.setCell ?_ (by simp) _)
end Go.Proofs.YtjpmgloofcgfnaaDoor
