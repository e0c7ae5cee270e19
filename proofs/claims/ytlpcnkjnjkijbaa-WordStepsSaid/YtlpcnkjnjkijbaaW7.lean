/- The statement WordSteps, walked: at every input the call returns true, and of what was there nothing has turned. -/
import Derived.Test.YtlpcnkjnjkijbaaW6
import Derived.Test.YtlpcnkjnjkijbaaPlain2
namespace Go.Proofs.Ytlpcnkjnjkijbaa
open Go.RowKit Plain
set_option linter.unusedVariables false
theorem keep {w w' : World} (hk : Kp w w') {b o : Nat} {v : Value} (hc : w.cell? ⟨b, o, none⟩ = some v) : w'.cell? ⟨b, o, none⟩ = some v := by
  have hb : b < w.heap.size := by
    apply Classical.byContradiction
    intro hn
    have : w.heap[b]? = none := by simp; omega
    simp [World.cell?, this] at hc
  rw [hk.cell hb, hc]
theorem ng_3 (n : Int) : ng 3 n = false := by simp [ng, sg]
set_option maxRecDepth 100000 in
theorem law_WordSteps (k x y m n : Int) (w : World) (hx : 0 ≤ x ∧ x < 18446744073709551616) (hy : 0 ≤ y ∧ y < 18446744073709551616) (hm : 0 ≤ m ∧ m ≤ 255) (hn : 0 ≤ n ∧ n ≤ 255) :
    Calls Try.prog 9 #[.int .i64 k, .int .u64 x, .int .u64 y, .int .u8 m, .int .u8 n] w fun e w' => e = .returned (.bool true) ∧ Kp w w' := by
  have HX := Lib.hid hx
  have HY := Lib.hid hy
  clear hx hy
  cases h : wh k with
  | false =>
    go_enter Try.func9, Try.ntmps9
    go_wp2_with (first | (go_at_call 14; with_reducible refine (c_answers _).mono ?_; rintro e w' ⟨rfl, hka⟩) | (go_at_call 17; with_reducible refine (c_Whole _ _).mono ?_; rintro e w' ⟨rfl, rfl⟩))
    go_ret
    exact ⟨rfl, by (repeat (first | exact Kp.refl _ | refine Kp.back (by assumption) ?_))⟩
  | true =>
    have HM := Lib.hid (show 0 ≤ m / 2 ∧ m / 2 < 18446744073709551616 by omega)
    have HN := Lib.hid (show 0 ≤ n / 2 ∧ n / 2 < 18446744073709551616 by omega)
    have HS := Lib.hid (show 0 ≤ m / 2 + n / 2 ∧ m / 2 + n / 2 < 18446744073709551616 by omega)
    have g1 := Lib.hid (show iz 3 (m / 2) = true by simp [iz, wr3]; omega)
    have g2 := Lib.hid (show iz 3 (n / 2) = true by simp [iz, wr3]; omega)
    have g3 := Lib.hid (show iz 3 (m / 2 + n / 2) = true by simp [iz, wr3]; omega)
    have f1 : (wr k (wr k (wr k x * 2 ^ min (m / 2).toNat 64) * 2 ^ min (n / 2).toNat 64) != wr k (wr k x * 2 ^ min (m / 2 + n / 2).toNat 64)) = false := by
      rw [shl_two h, show (m / 2 + n / 2).toNat = (m / 2).toNat + (n / 2).toNat by omega]; simp
    have f2 : (sv k (sv k (wr k x) / 2 ^ min (m / 2).toNat 64 % 18446744073709551616) / 2 ^ min (n / 2).toNat 64 % 18446744073709551616 != sv k (wr k x) / 2 ^ min (m / 2 + n / 2).toNat 64 % 18446744073709551616) = false := by
      have := dn_two h (iz_wr h x) (m / 2).toNat (n / 2).toNat
      unfold dn at this
      rw [this, show (m / 2 + n / 2).toNat = (m / 2).toNat + (n / 2).toNat by omega]; simp
    obtain ⟨hm0, hm1⟩ := hm
    obtain ⟨hn0, hn1⟩ := hn
    go_enter Try.func9, Try.ntmps9
    go_wp2_with (first | (go_at_call 14; with_reducible refine (c_answers _).mono ?_; rintro e w' ⟨rfl, hka⟩) | (go_at_call 17; with_reducible refine (c_Whole _ _).mono ?_; rintro e w' ⟨rfl, rfl⟩) | (go_at_call 20; with_reducible refine (c_rWrap k x _ h HX.out).mono ?_; rintro e w' ⟨rfl, rfl⟩) | (go_at_call 20; with_reducible refine (c_rWrap k y _ h HY.out).mono ?_; rintro e w' ⟨rfl, rfl⟩))
    have hc : (w'.alloc (.cells #[.string ⟨#[60, 60]⟩, .string ⟨#[62, 62]⟩] 9)).cell? ⟨w'.heap.size, 1, none⟩ = some (.string ⟨#[62, 62]⟩) := by simp [go_sem]
    refine wp_loop_rounds 5 ?_
    rw [rounds_succ]
    go_wp2_with (first | (go_at_call 23; with_reducible refine (s_shl k (wr k x) 3 (m / 2) _ (wr_range h _) HM.out h (by decide) (iz_wr h x) g1.out (ng_3 _)).mono ?_; rintro e w' ⟨rfl, hk⟩; have hc := keep hk (by assumption)) | (go_at_call 23; with_reducible refine (s_shl k (wr k (wr k x * 2 ^ min (m / 2).toNat 64)) 3 (n / 2) _ (wr_range h _) HN.out h (by decide) (iz_wr h _) g2.out (ng_3 _)).mono ?_; rintro e w' ⟨rfl, hk⟩; have hc := keep hk (by assumption)) | (go_at_call 23; with_reducible refine (s_shl k (wr k x) 3 (m / 2 + n / 2) _ (wr_range h _) HS.out h (by decide) (iz_wr h x) g3.out (ng_3 _)).mono ?_; rintro e w' ⟨rfl, hk⟩; have hc := keep hk (by assumption)) | (go_at_call 23; with_reducible refine (s_shr k (wr k x) 3 (m / 2) _ (wr_range h _) HM.out h (by decide) (iz_wr h x) g1.out (ng_3 _)).mono ?_; rintro e w' ⟨rfl, hk⟩; have hc := keep hk (by assumption)) | (go_at_call 23; with_reducible refine (s_shr k (sv k (wr k x) / 2 ^ min (m / 2).toNat 64 % 18446744073709551616) 3 (n / 2) _ (dn_r k (wr k x) (m / 2).toNat) HN.out h (by decide) (dn_in h (iz_wr h x) (m / 2).toNat).1 g2.out (ng_3 _)).mono ?_; rintro e w' ⟨rfl, hk⟩; have hc := keep hk (by assumption)) | (go_at_call 23; with_reducible refine (s_shr k (wr k x) 3 (m / 2 + n / 2) _ (wr_range h _) HS.out h (by decide) (iz_wr h x) g3.out (ng_3 _)).mono ?_; rintro e w' ⟨rfl, hk⟩; have hc := keep hk (by assumption)))
    rw [rounds_succ]
    go_wp2_with (first | (go_at_call 23; with_reducible refine (s_shl k (wr k x) 3 (m / 2) _ (wr_range h _) HM.out h (by decide) (iz_wr h x) g1.out (ng_3 _)).mono ?_; rintro e w' ⟨rfl, hk⟩; have hc := keep hk (by assumption)) | (go_at_call 23; with_reducible refine (s_shl k (wr k (wr k x * 2 ^ min (m / 2).toNat 64)) 3 (n / 2) _ (wr_range h _) HN.out h (by decide) (iz_wr h _) g2.out (ng_3 _)).mono ?_; rintro e w' ⟨rfl, hk⟩; have hc := keep hk (by assumption)) | (go_at_call 23; with_reducible refine (s_shl k (wr k x) 3 (m / 2 + n / 2) _ (wr_range h _) HS.out h (by decide) (iz_wr h x) g3.out (ng_3 _)).mono ?_; rintro e w' ⟨rfl, hk⟩; have hc := keep hk (by assumption)) | (go_at_call 23; with_reducible refine (s_shr k (wr k x) 3 (m / 2) _ (wr_range h _) HM.out h (by decide) (iz_wr h x) g1.out (ng_3 _)).mono ?_; rintro e w' ⟨rfl, hk⟩; have hc := keep hk (by assumption)) | (go_at_call 23; with_reducible refine (s_shr k (sv k (wr k x) / 2 ^ min (m / 2).toNat 64 % 18446744073709551616) 3 (n / 2) _ (dn_r k (wr k x) (m / 2).toNat) HN.out h (by decide) (dn_in h (iz_wr h x) (m / 2).toNat).1 g2.out (ng_3 _)).mono ?_; rintro e w' ⟨rfl, hk⟩; have hc := keep hk (by assumption)) | (go_at_call 23; with_reducible refine (s_shr k (wr k x) 3 (m / 2 + n / 2) _ (wr_range h _) HS.out h (by decide) (iz_wr h x) g3.out (ng_3 _)).mono ?_; rintro e w' ⟨rfl, hk⟩; have hc := keep hk (by assumption)))
    rw [rounds_succ]
    clear f1 f2
    have g4 : (wr k (wr k x * 2) == wr k (wr k x + wr k x)) = true := by rw [show wr k x * 2 = wr k x + wr k x by omega]; simp
    have g5 : (wr k (bnt (wr k x) (wr k y)) == wr k (bxo (wr k x) (wr k (ban (wr k x) (wr k y))))) = true := by rw [not_lone h (wr_range h x) (wr_range h y)]; simp
    have g6 : (wr k (bor (wr k x) (wr k y)) == wr k (wr k (ban (wr k x) (wr k y)) + wr k (bxo (wr k x) (wr k y)))) = true := by rw [or_sum h]; simp
    go_wp2_with (first | (go_at_call 23; with_reducible refine (s_shl k (wr k x) 7 1 _ (wr_range h _) (by omega) h (by decide) (iz_wr h _) (by decide) (by decide)).mono ?_; rintro e w' ⟨rfl, hk⟩) | (go_at_call 21; with_reducible refine (a_add _ _ _ _ (wr_range h _) (wr_range h _) h (iz_wr h _) (iz_wr h _)).mono ?_; rintro e w' ⟨rfl, hk⟩) | (go_at_call 21; with_reducible refine (a_and _ _ _ _ (wr_range h _) (wr_range h _) h (iz_wr h _) (iz_wr h _)).mono ?_; rintro e w' ⟨rfl, hk⟩) | (go_at_call 21; with_reducible refine (a_or _ _ _ _ (wr_range h _) (wr_range h _) h (iz_wr h _) (iz_wr h _)).mono ?_; rintro e w' ⟨rfl, hk⟩) | (go_at_call 21; with_reducible refine (a_xor _ _ _ _ (wr_range h _) (wr_range h _) h (iz_wr h _) (iz_wr h _)).mono ?_; rintro e w' ⟨rfl, hk⟩) | (go_at_call 21; with_reducible refine (a_not _ _ _ _ (wr_range h _) (wr_range h _) h (iz_wr h _) (iz_wr h _)).mono ?_; rintro e w' ⟨rfl, hk⟩))
    go_ret
    exact ⟨rfl, by (repeat (first | exact Kp.refl _ | refine Kp.back (by assumption) ?_ | refine Kp.alloc ?_ _ _))⟩
end Go.Proofs.Ytlpcnkjnjkijbaa
