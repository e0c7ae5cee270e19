/- The walk of TreeSound. Condition: the node lies in memory, of no more than a million nodes or so. -/
import Derived.Test.YtefanekfelokmaaG12
import Derived.Test.YtefanekfelokmaaF13
import Derived.Test.YtefanekfelokmaaO
import Derived.Test.YtefanekfelokmaaC2
namespace Go.Proofs.Ytefanekfelokmaa
open Go.RowKit
set_option linter.unusedVariables false
set_option linter.unusedSimpArgs false
theorem snd_V (p : Int → Bool) (R : Nat) (T : Nd) : soundV p R T = errOf (sndB p R T) := rfl
theorem err_t : errOf true = 0 := rfl
theorem err_f : errOf false = 1 := rfl
set_option maxHeartbeats 6400000 in
set_option maxRecDepth 1000000 in
theorem ts_1_true_true (R : Nat) (T : Nd) (h : Hn) (w : World) (hl : Lies w A0 R T h) (hz0 : sizeN R T ≤ 1048576) (hb0 : sndB (fun k => sortL k == 115) R T = true) (hc0 : sndB (fun k => k == 1) R T = true) :
    Calls Try.prog 3 #[h.val, .int .i64 1] w fun e w' => e = .returned (.bool true) ∧ Kp w w' := by
  have HL := Lib.hid hl
  have hz := Lib.hid hz0
  have hc := Lib.hid hc0
  have hvc := Lib.hid (show soundV (inK [1]) R T = 0 from by rw [snd_V, ← eq_one, hc0]; rfl)
  have hb := Lib.hid hb0
  have hvb := Lib.hid (show soundV stK R T = 0 from by rw [snd_V, ← eq_s, hb0]; rfl)
  have hby : ∀ h, ((((⟨#[45, 115, 101, 116]⟩ : ByteArray)[1]'h).toNat : Nat) : Int) = 115 := fun _ => rfl
  clear hb0
  clear hl hz0 hc0
  obtain ⟨k, tx, nn, at_, la, ll, lc⟩ := h
  obtain ⟨b0, b1, b2, b3, b4, bs⟩ := boxed (w := w) (h := ⟨k, tx, nn, at_, la, ll, lc⟩) (e := 25) (Kp.refl _)
  simp only at b0 b1 b2 b3 b4
  go_enter Try.func3, Try.ntmps3
  have hkeep := Lib.hid (fun (W' : World) (hk : Kp (w.alloc (.cells #[.int .i64 k, .string tx, .int .u64 nn, .int .i64 at_, .slice la ll lc] 25)) W') => (⟨hk.cellv b0, hk.cellv b1, hk.cellv b2, hk.cellv b3, hk.cellv b4⟩ : (fun w' : World => w'.cell? ⟨w.heap.size, 0, none⟩ = some (.int .i64 k) ∧ w'.cell? ⟨w.heap.size, 1, none⟩ = some (.string tx) ∧ w'.cell? ⟨w.heap.size, 2, none⟩ = some (.int .u64 nn) ∧ w'.cell? ⟨w.heap.size, 3, none⟩ = some (.int .i64 at_) ∧ w'.cell? ⟨w.heap.size, 4, none⟩ = some (.slice la ll lc)) W'))
  go_wp2_with fail
  go_region_held3 (fun w' : World => w'.cell? ⟨w.heap.size, 0, none⟩ = some (.int .i64 k) ∧ w'.cell? ⟨w.heap.size, 1, none⟩ = some (.string tx) ∧ w'.cell? ⟨w.heap.size, 2, none⟩ = some (.int .u64 nn) ∧ w'.cell? ⟨w.heap.size, 3, none⟩ = some (.int .i64 at_) ∧ w'.cell? ⟨w.heap.size, 4, none⟩ = some (.slice la ll lc))
    (first | exact hkeep.out _ (by (repeat (first | with_reducible exact Kp.refl _ | with_reducible refine Kp.alloc ?_ _ | with_reducible refine Kp.drew ?_ | with_reducible refine Kp.back (by assumption) ?_))))
    ((first | (go_at_call 11; (with_reducible refine (c_rSound R T ⟨k, tx, nn, at_, la, ll, lc⟩ _ (HL.out.keep (by (repeat (first | with_reducible exact Kp.refl _ | with_reducible refine Kp.alloc ?_ _ | with_reducible refine Kp.drew ?_ | with_reducible refine Kp.back (by assumption) ?_)))) hz.out 115 (by decide)).mono ?_); rintro e w1 ⟨rfl, hk1⟩; rw [hb.out]; have bb := boxed (w := w) (h := ⟨k, tx, nn, at_, la, ll, lc⟩) (show Kp (w.alloc (.cells #[.int .i64 k, .string tx, .int .u64 nn, .int .i64 at_, .slice la ll lc] 25)) w1 by (repeat (first | with_reducible exact Kp.refl _ | with_reducible refine Kp.alloc ?_ _ | with_reducible refine Kp.drew ?_ | with_reducible refine Kp.back (by assumption) ?_))); simp only at bb; obtain ⟨b0, b1, b2, b3, b4, bs⟩ := bb)))
  all_goals
    go_wp2_with fail
    go_region_held3 (fun w' : World => w'.cell? ⟨w.heap.size, 0, none⟩ = some (.int .i64 k) ∧ w'.cell? ⟨w.heap.size, 1, none⟩ = some (.string tx) ∧ w'.cell? ⟨w.heap.size, 2, none⟩ = some (.int .u64 nn) ∧ w'.cell? ⟨w.heap.size, 3, none⟩ = some (.int .i64 at_) ∧ w'.cell? ⟨w.heap.size, 4, none⟩ = some (.slice la ll lc))
      (first | exact hkeep.out _ (by (repeat (first | with_reducible exact Kp.refl _ | with_reducible refine Kp.alloc ?_ _ | with_reducible refine Kp.drew ?_ | with_reducible refine Kp.back (by assumption) ?_))))
      ((first | (go_at_call 12; (with_reducible refine (c_answers _).mono ?_); rintro e w1 ⟨rfl, hk1⟩) | (go_at_call 14; (with_reducible refine (c_Own R T ⟨k, tx, nn, at_, la, ll, lc⟩ _ (HL.out.keep (by (repeat (first | with_reducible exact Kp.refl _ | with_reducible refine Kp.alloc ?_ _ | with_reducible refine Kp.drew ?_ | with_reducible refine Kp.back (by assumption) ?_))))).mono ?_); rintro e w1 ⟨h', rfl, hli, hk1⟩; have LI := Lib.hid (hli.weak (A0_le _)); clear hli) | (go_at_call 13; (with_reducible refine (c_Check R T h' _ (LI.out.keep (by (repeat (first | with_reducible exact Kp.refl _ | with_reducible refine Kp.alloc ?_ _ | with_reducible refine Kp.drew ?_ | with_reducible refine Kp.back (by assumption) ?_)))) (fun y _ => forms_all y.2)).mono ?_); rintro e w1 ⟨rfl, hk1⟩; rw [hvc.out]) | (go_at_call 11; (with_reducible refine (c_rSoundP R T ⟨k, tx, nn, at_, la, ll, lc⟩ _ (HL.out.keep (by (repeat (first | with_reducible exact Kp.refl _ | with_reducible refine Kp.alloc ?_ _ | with_reducible refine Kp.drew ?_ | with_reducible refine Kp.back (by assumption) ?_)))) hz.out).mono ?_); rintro e w1 ⟨rfl, hk1⟩; rw [hc.out]) | (go_at_call 15; (with_reducible refine (c_Sound1 R T h' _ (LI.out.keep (by (repeat (first | with_reducible exact Kp.refl _ | with_reducible refine Kp.alloc ?_ _ | with_reducible refine Kp.drew ?_ | with_reducible refine Kp.back (by assumption) ?_)))) (fun y _ => forms_all y.2)).mono ?_); rintro e w1 ⟨rfl, hk1⟩; rw [hvb.out])))
    all_goals (go_wp2_with fail; go_ret; refine ⟨by first | rfl | (simp; done), ?_⟩; (repeat (first | with_reducible exact Kp.refl _ | with_reducible refine Kp.alloc ?_ _ | with_reducible refine Kp.drew ?_ | with_reducible refine Kp.back (by assumption) ?_)))
set_option maxHeartbeats 6400000 in
set_option maxRecDepth 1000000 in
theorem ts_1_true_false (R : Nat) (T : Nd) (h : Hn) (w : World) (hl : Lies w A0 R T h) (hz0 : sizeN R T ≤ 1048576) (hb0 : sndB (fun k => sortL k == 115) R T = true) (hc0 : sndB (fun k => k == 1) R T = false) :
    Calls Try.prog 3 #[h.val, .int .i64 1] w fun e w' => e = .returned (.bool true) ∧ Kp w w' := by
  have HL := Lib.hid hl
  have hz := Lib.hid hz0
  have hc := Lib.hid hc0
  have hvc := Lib.hid (show soundV (inK [1]) R T = 1 from by rw [snd_V, ← eq_one, hc0]; rfl)
  have hb := Lib.hid hb0
  have hvb := Lib.hid (show soundV stK R T = 0 from by rw [snd_V, ← eq_s, hb0]; rfl)
  have hby : ∀ h, ((((⟨#[45, 115, 101, 116]⟩ : ByteArray)[1]'h).toNat : Nat) : Int) = 115 := fun _ => rfl
  clear hb0
  clear hl hz0 hc0
  obtain ⟨k, tx, nn, at_, la, ll, lc⟩ := h
  obtain ⟨b0, b1, b2, b3, b4, bs⟩ := boxed (w := w) (h := ⟨k, tx, nn, at_, la, ll, lc⟩) (e := 25) (Kp.refl _)
  simp only at b0 b1 b2 b3 b4
  go_enter Try.func3, Try.ntmps3
  have hkeep := Lib.hid (fun (W' : World) (hk : Kp (w.alloc (.cells #[.int .i64 k, .string tx, .int .u64 nn, .int .i64 at_, .slice la ll lc] 25)) W') => (⟨hk.cellv b0, hk.cellv b1, hk.cellv b2, hk.cellv b3, hk.cellv b4⟩ : (fun w' : World => w'.cell? ⟨w.heap.size, 0, none⟩ = some (.int .i64 k) ∧ w'.cell? ⟨w.heap.size, 1, none⟩ = some (.string tx) ∧ w'.cell? ⟨w.heap.size, 2, none⟩ = some (.int .u64 nn) ∧ w'.cell? ⟨w.heap.size, 3, none⟩ = some (.int .i64 at_) ∧ w'.cell? ⟨w.heap.size, 4, none⟩ = some (.slice la ll lc)) W'))
  go_wp2_with fail
  go_region_held3 (fun w' : World => w'.cell? ⟨w.heap.size, 0, none⟩ = some (.int .i64 k) ∧ w'.cell? ⟨w.heap.size, 1, none⟩ = some (.string tx) ∧ w'.cell? ⟨w.heap.size, 2, none⟩ = some (.int .u64 nn) ∧ w'.cell? ⟨w.heap.size, 3, none⟩ = some (.int .i64 at_) ∧ w'.cell? ⟨w.heap.size, 4, none⟩ = some (.slice la ll lc))
    (first | exact hkeep.out _ (by (repeat (first | with_reducible exact Kp.refl _ | with_reducible refine Kp.alloc ?_ _ | with_reducible refine Kp.drew ?_ | with_reducible refine Kp.back (by assumption) ?_))))
    ((first | (go_at_call 11; (with_reducible refine (c_rSound R T ⟨k, tx, nn, at_, la, ll, lc⟩ _ (HL.out.keep (by (repeat (first | with_reducible exact Kp.refl _ | with_reducible refine Kp.alloc ?_ _ | with_reducible refine Kp.drew ?_ | with_reducible refine Kp.back (by assumption) ?_)))) hz.out 115 (by decide)).mono ?_); rintro e w1 ⟨rfl, hk1⟩; rw [hb.out]; have bb := boxed (w := w) (h := ⟨k, tx, nn, at_, la, ll, lc⟩) (show Kp (w.alloc (.cells #[.int .i64 k, .string tx, .int .u64 nn, .int .i64 at_, .slice la ll lc] 25)) w1 by (repeat (first | with_reducible exact Kp.refl _ | with_reducible refine Kp.alloc ?_ _ | with_reducible refine Kp.drew ?_ | with_reducible refine Kp.back (by assumption) ?_))); simp only at bb; obtain ⟨b0, b1, b2, b3, b4, bs⟩ := bb)))
  all_goals
    go_wp2_with fail
    go_region_held3 (fun w' : World => w'.cell? ⟨w.heap.size, 0, none⟩ = some (.int .i64 k) ∧ w'.cell? ⟨w.heap.size, 1, none⟩ = some (.string tx) ∧ w'.cell? ⟨w.heap.size, 2, none⟩ = some (.int .u64 nn) ∧ w'.cell? ⟨w.heap.size, 3, none⟩ = some (.int .i64 at_) ∧ w'.cell? ⟨w.heap.size, 4, none⟩ = some (.slice la ll lc))
      (first | exact hkeep.out _ (by (repeat (first | with_reducible exact Kp.refl _ | with_reducible refine Kp.alloc ?_ _ | with_reducible refine Kp.drew ?_ | with_reducible refine Kp.back (by assumption) ?_))))
      ((first | (go_at_call 12; (with_reducible refine (c_answers _).mono ?_); rintro e w1 ⟨rfl, hk1⟩) | (go_at_call 14; (with_reducible refine (c_Own R T ⟨k, tx, nn, at_, la, ll, lc⟩ _ (HL.out.keep (by (repeat (first | with_reducible exact Kp.refl _ | with_reducible refine Kp.alloc ?_ _ | with_reducible refine Kp.drew ?_ | with_reducible refine Kp.back (by assumption) ?_))))).mono ?_); rintro e w1 ⟨h', rfl, hli, hk1⟩; have LI := Lib.hid (hli.weak (A0_le _)); clear hli) | (go_at_call 13; (with_reducible refine (c_Check R T h' _ (LI.out.keep (by (repeat (first | with_reducible exact Kp.refl _ | with_reducible refine Kp.alloc ?_ _ | with_reducible refine Kp.drew ?_ | with_reducible refine Kp.back (by assumption) ?_)))) (fun y _ => forms_all y.2)).mono ?_); rintro e w1 ⟨rfl, hk1⟩; rw [hvc.out]) | (go_at_call 11; (with_reducible refine (c_rSoundP R T ⟨k, tx, nn, at_, la, ll, lc⟩ _ (HL.out.keep (by (repeat (first | with_reducible exact Kp.refl _ | with_reducible refine Kp.alloc ?_ _ | with_reducible refine Kp.drew ?_ | with_reducible refine Kp.back (by assumption) ?_)))) hz.out).mono ?_); rintro e w1 ⟨rfl, hk1⟩; rw [hc.out]) | (go_at_call 15; (with_reducible refine (c_Sound1 R T h' _ (LI.out.keep (by (repeat (first | with_reducible exact Kp.refl _ | with_reducible refine Kp.alloc ?_ _ | with_reducible refine Kp.drew ?_ | with_reducible refine Kp.back (by assumption) ?_)))) (fun y _ => forms_all y.2)).mono ?_); rintro e w1 ⟨rfl, hk1⟩; rw [hvb.out])))
    all_goals (go_wp2_with fail; go_ret; refine ⟨by first | rfl | (simp; done), ?_⟩; (repeat (first | with_reducible exact Kp.refl _ | with_reducible refine Kp.alloc ?_ _ | with_reducible refine Kp.drew ?_ | with_reducible refine Kp.back (by assumption) ?_)))
set_option maxHeartbeats 6400000 in
set_option maxRecDepth 1000000 in
theorem ts_1_false_true (R : Nat) (T : Nd) (h : Hn) (w : World) (hl : Lies w A0 R T h) (hz0 : sizeN R T ≤ 1048576) (hb0 : sndB (fun k => sortL k == 115) R T = false) (hc0 : sndB (fun k => k == 1) R T = true) :
    Calls Try.prog 3 #[h.val, .int .i64 1] w fun e w' => e = .returned (.bool true) ∧ Kp w w' := by
  have HL := Lib.hid hl
  have hz := Lib.hid hz0
  have hc := Lib.hid hc0
  have hvc := Lib.hid (show soundV (inK [1]) R T = 0 from by rw [snd_V, ← eq_one, hc0]; rfl)
  have hb := Lib.hid hb0
  have hvb := Lib.hid (show soundV stK R T = 1 from by rw [snd_V, ← eq_s, hb0]; rfl)
  have hby : ∀ h, ((((⟨#[45, 115, 101, 116]⟩ : ByteArray)[1]'h).toNat : Nat) : Int) = 115 := fun _ => rfl
  clear hb0
  clear hl hz0 hc0
  obtain ⟨k, tx, nn, at_, la, ll, lc⟩ := h
  obtain ⟨b0, b1, b2, b3, b4, bs⟩ := boxed (w := w) (h := ⟨k, tx, nn, at_, la, ll, lc⟩) (e := 25) (Kp.refl _)
  simp only at b0 b1 b2 b3 b4
  go_enter Try.func3, Try.ntmps3
  have hkeep := Lib.hid (fun (W' : World) (hk : Kp (w.alloc (.cells #[.int .i64 k, .string tx, .int .u64 nn, .int .i64 at_, .slice la ll lc] 25)) W') => (⟨hk.cellv b0, hk.cellv b1, hk.cellv b2, hk.cellv b3, hk.cellv b4⟩ : (fun w' : World => w'.cell? ⟨w.heap.size, 0, none⟩ = some (.int .i64 k) ∧ w'.cell? ⟨w.heap.size, 1, none⟩ = some (.string tx) ∧ w'.cell? ⟨w.heap.size, 2, none⟩ = some (.int .u64 nn) ∧ w'.cell? ⟨w.heap.size, 3, none⟩ = some (.int .i64 at_) ∧ w'.cell? ⟨w.heap.size, 4, none⟩ = some (.slice la ll lc)) W'))
  go_wp2_with fail
  go_region_held3 (fun w' : World => w'.cell? ⟨w.heap.size, 0, none⟩ = some (.int .i64 k) ∧ w'.cell? ⟨w.heap.size, 1, none⟩ = some (.string tx) ∧ w'.cell? ⟨w.heap.size, 2, none⟩ = some (.int .u64 nn) ∧ w'.cell? ⟨w.heap.size, 3, none⟩ = some (.int .i64 at_) ∧ w'.cell? ⟨w.heap.size, 4, none⟩ = some (.slice la ll lc))
    (first | exact hkeep.out _ (by (repeat (first | with_reducible exact Kp.refl _ | with_reducible refine Kp.alloc ?_ _ | with_reducible refine Kp.drew ?_ | with_reducible refine Kp.back (by assumption) ?_))))
    ((first | (go_at_call 11; (with_reducible refine (c_rSound R T ⟨k, tx, nn, at_, la, ll, lc⟩ _ (HL.out.keep (by (repeat (first | with_reducible exact Kp.refl _ | with_reducible refine Kp.alloc ?_ _ | with_reducible refine Kp.drew ?_ | with_reducible refine Kp.back (by assumption) ?_)))) hz.out 115 (by decide)).mono ?_); rintro e w1 ⟨rfl, hk1⟩; rw [hb.out]; have bb := boxed (w := w) (h := ⟨k, tx, nn, at_, la, ll, lc⟩) (show Kp (w.alloc (.cells #[.int .i64 k, .string tx, .int .u64 nn, .int .i64 at_, .slice la ll lc] 25)) w1 by (repeat (first | with_reducible exact Kp.refl _ | with_reducible refine Kp.alloc ?_ _ | with_reducible refine Kp.drew ?_ | with_reducible refine Kp.back (by assumption) ?_))); simp only at bb; obtain ⟨b0, b1, b2, b3, b4, bs⟩ := bb)))
  all_goals
    go_wp2_with fail
    go_region_held3 (fun w' : World => w'.cell? ⟨w.heap.size, 0, none⟩ = some (.int .i64 k) ∧ w'.cell? ⟨w.heap.size, 1, none⟩ = some (.string tx) ∧ w'.cell? ⟨w.heap.size, 2, none⟩ = some (.int .u64 nn) ∧ w'.cell? ⟨w.heap.size, 3, none⟩ = some (.int .i64 at_) ∧ w'.cell? ⟨w.heap.size, 4, none⟩ = some (.slice la ll lc))
      (first | exact hkeep.out _ (by (repeat (first | with_reducible exact Kp.refl _ | with_reducible refine Kp.alloc ?_ _ | with_reducible refine Kp.drew ?_ | with_reducible refine Kp.back (by assumption) ?_))))
      ((first | (go_at_call 12; (with_reducible refine (c_answers _).mono ?_); rintro e w1 ⟨rfl, hk1⟩) | (go_at_call 14; (with_reducible refine (c_Own R T ⟨k, tx, nn, at_, la, ll, lc⟩ _ (HL.out.keep (by (repeat (first | with_reducible exact Kp.refl _ | with_reducible refine Kp.alloc ?_ _ | with_reducible refine Kp.drew ?_ | with_reducible refine Kp.back (by assumption) ?_))))).mono ?_); rintro e w1 ⟨h', rfl, hli, hk1⟩; have LI := Lib.hid (hli.weak (A0_le _)); clear hli) | (go_at_call 13; (with_reducible refine (c_Check R T h' _ (LI.out.keep (by (repeat (first | with_reducible exact Kp.refl _ | with_reducible refine Kp.alloc ?_ _ | with_reducible refine Kp.drew ?_ | with_reducible refine Kp.back (by assumption) ?_)))) (fun y _ => forms_all y.2)).mono ?_); rintro e w1 ⟨rfl, hk1⟩; rw [hvc.out]) | (go_at_call 11; (with_reducible refine (c_rSoundP R T ⟨k, tx, nn, at_, la, ll, lc⟩ _ (HL.out.keep (by (repeat (first | with_reducible exact Kp.refl _ | with_reducible refine Kp.alloc ?_ _ | with_reducible refine Kp.drew ?_ | with_reducible refine Kp.back (by assumption) ?_)))) hz.out).mono ?_); rintro e w1 ⟨rfl, hk1⟩; rw [hc.out]) | (go_at_call 15; (with_reducible refine (c_Sound1 R T h' _ (LI.out.keep (by (repeat (first | with_reducible exact Kp.refl _ | with_reducible refine Kp.alloc ?_ _ | with_reducible refine Kp.drew ?_ | with_reducible refine Kp.back (by assumption) ?_)))) (fun y _ => forms_all y.2)).mono ?_); rintro e w1 ⟨rfl, hk1⟩; rw [hvb.out])))
    all_goals (go_wp2_with fail; go_ret; refine ⟨by first | rfl | (simp; done), ?_⟩; (repeat (first | with_reducible exact Kp.refl _ | with_reducible refine Kp.alloc ?_ _ | with_reducible refine Kp.drew ?_ | with_reducible refine Kp.back (by assumption) ?_)))
set_option maxHeartbeats 6400000 in
set_option maxRecDepth 1000000 in
theorem ts_1_false_false (R : Nat) (T : Nd) (h : Hn) (w : World) (hl : Lies w A0 R T h) (hz0 : sizeN R T ≤ 1048576) (hb0 : sndB (fun k => sortL k == 115) R T = false) (hc0 : sndB (fun k => k == 1) R T = false) :
    Calls Try.prog 3 #[h.val, .int .i64 1] w fun e w' => e = .returned (.bool true) ∧ Kp w w' := by
  have HL := Lib.hid hl
  have hz := Lib.hid hz0
  have hc := Lib.hid hc0
  have hvc := Lib.hid (show soundV (inK [1]) R T = 1 from by rw [snd_V, ← eq_one, hc0]; rfl)
  have hb := Lib.hid hb0
  have hvb := Lib.hid (show soundV stK R T = 1 from by rw [snd_V, ← eq_s, hb0]; rfl)
  have hby : ∀ h, ((((⟨#[45, 115, 101, 116]⟩ : ByteArray)[1]'h).toNat : Nat) : Int) = 115 := fun _ => rfl
  clear hb0
  clear hl hz0 hc0
  obtain ⟨k, tx, nn, at_, la, ll, lc⟩ := h
  obtain ⟨b0, b1, b2, b3, b4, bs⟩ := boxed (w := w) (h := ⟨k, tx, nn, at_, la, ll, lc⟩) (e := 25) (Kp.refl _)
  simp only at b0 b1 b2 b3 b4
  go_enter Try.func3, Try.ntmps3
  have hkeep := Lib.hid (fun (W' : World) (hk : Kp (w.alloc (.cells #[.int .i64 k, .string tx, .int .u64 nn, .int .i64 at_, .slice la ll lc] 25)) W') => (⟨hk.cellv b0, hk.cellv b1, hk.cellv b2, hk.cellv b3, hk.cellv b4⟩ : (fun w' : World => w'.cell? ⟨w.heap.size, 0, none⟩ = some (.int .i64 k) ∧ w'.cell? ⟨w.heap.size, 1, none⟩ = some (.string tx) ∧ w'.cell? ⟨w.heap.size, 2, none⟩ = some (.int .u64 nn) ∧ w'.cell? ⟨w.heap.size, 3, none⟩ = some (.int .i64 at_) ∧ w'.cell? ⟨w.heap.size, 4, none⟩ = some (.slice la ll lc)) W'))
  go_wp2_with fail
  go_region_held3 (fun w' : World => w'.cell? ⟨w.heap.size, 0, none⟩ = some (.int .i64 k) ∧ w'.cell? ⟨w.heap.size, 1, none⟩ = some (.string tx) ∧ w'.cell? ⟨w.heap.size, 2, none⟩ = some (.int .u64 nn) ∧ w'.cell? ⟨w.heap.size, 3, none⟩ = some (.int .i64 at_) ∧ w'.cell? ⟨w.heap.size, 4, none⟩ = some (.slice la ll lc))
    (first | exact hkeep.out _ (by (repeat (first | with_reducible exact Kp.refl _ | with_reducible refine Kp.alloc ?_ _ | with_reducible refine Kp.drew ?_ | with_reducible refine Kp.back (by assumption) ?_))))
    ((first | (go_at_call 11; (with_reducible refine (c_rSound R T ⟨k, tx, nn, at_, la, ll, lc⟩ _ (HL.out.keep (by (repeat (first | with_reducible exact Kp.refl _ | with_reducible refine Kp.alloc ?_ _ | with_reducible refine Kp.drew ?_ | with_reducible refine Kp.back (by assumption) ?_)))) hz.out 115 (by decide)).mono ?_); rintro e w1 ⟨rfl, hk1⟩; rw [hb.out]; have bb := boxed (w := w) (h := ⟨k, tx, nn, at_, la, ll, lc⟩) (show Kp (w.alloc (.cells #[.int .i64 k, .string tx, .int .u64 nn, .int .i64 at_, .slice la ll lc] 25)) w1 by (repeat (first | with_reducible exact Kp.refl _ | with_reducible refine Kp.alloc ?_ _ | with_reducible refine Kp.drew ?_ | with_reducible refine Kp.back (by assumption) ?_))); simp only at bb; obtain ⟨b0, b1, b2, b3, b4, bs⟩ := bb)))
  all_goals
    go_wp2_with fail
    go_region_held3 (fun w' : World => w'.cell? ⟨w.heap.size, 0, none⟩ = some (.int .i64 k) ∧ w'.cell? ⟨w.heap.size, 1, none⟩ = some (.string tx) ∧ w'.cell? ⟨w.heap.size, 2, none⟩ = some (.int .u64 nn) ∧ w'.cell? ⟨w.heap.size, 3, none⟩ = some (.int .i64 at_) ∧ w'.cell? ⟨w.heap.size, 4, none⟩ = some (.slice la ll lc))
      (first | exact hkeep.out _ (by (repeat (first | with_reducible exact Kp.refl _ | with_reducible refine Kp.alloc ?_ _ | with_reducible refine Kp.drew ?_ | with_reducible refine Kp.back (by assumption) ?_))))
      ((first | (go_at_call 12; (with_reducible refine (c_answers _).mono ?_); rintro e w1 ⟨rfl, hk1⟩) | (go_at_call 14; (with_reducible refine (c_Own R T ⟨k, tx, nn, at_, la, ll, lc⟩ _ (HL.out.keep (by (repeat (first | with_reducible exact Kp.refl _ | with_reducible refine Kp.alloc ?_ _ | with_reducible refine Kp.drew ?_ | with_reducible refine Kp.back (by assumption) ?_))))).mono ?_); rintro e w1 ⟨h', rfl, hli, hk1⟩; have LI := Lib.hid (hli.weak (A0_le _)); clear hli) | (go_at_call 13; (with_reducible refine (c_Check R T h' _ (LI.out.keep (by (repeat (first | with_reducible exact Kp.refl _ | with_reducible refine Kp.alloc ?_ _ | with_reducible refine Kp.drew ?_ | with_reducible refine Kp.back (by assumption) ?_)))) (fun y _ => forms_all y.2)).mono ?_); rintro e w1 ⟨rfl, hk1⟩; rw [hvc.out]) | (go_at_call 11; (with_reducible refine (c_rSoundP R T ⟨k, tx, nn, at_, la, ll, lc⟩ _ (HL.out.keep (by (repeat (first | with_reducible exact Kp.refl _ | with_reducible refine Kp.alloc ?_ _ | with_reducible refine Kp.drew ?_ | with_reducible refine Kp.back (by assumption) ?_)))) hz.out).mono ?_); rintro e w1 ⟨rfl, hk1⟩; rw [hc.out]) | (go_at_call 15; (with_reducible refine (c_Sound1 R T h' _ (LI.out.keep (by (repeat (first | with_reducible exact Kp.refl _ | with_reducible refine Kp.alloc ?_ _ | with_reducible refine Kp.drew ?_ | with_reducible refine Kp.back (by assumption) ?_)))) (fun y _ => forms_all y.2)).mono ?_); rintro e w1 ⟨rfl, hk1⟩; rw [hvb.out])))
    all_goals (go_wp2_with fail; go_ret; refine ⟨by first | rfl | (simp; done), ?_⟩; (repeat (first | with_reducible exact Kp.refl _ | with_reducible refine Kp.alloc ?_ _ | with_reducible refine Kp.drew ?_ | with_reducible refine Kp.back (by assumption) ?_)))
set_option maxHeartbeats 6400000 in
set_option maxRecDepth 1000000 in
theorem ts_2_true_true (R : Nat) (T : Nd) (h : Hn) (w : World) (hl : Lies w A0 R T h) (hz0 : sizeN R T ≤ 1048576) (hb0 : sndB (fun k => sortL k == 101) R T = true) (hc0 : sndB (fun k => k == 1) R T = true) :
    Calls Try.prog 3 #[h.val, .int .i64 2] w fun e w' => e = .returned (.bool true) ∧ Kp w w' := by
  have HL := Lib.hid hl
  have hz := Lib.hid hz0
  have hc := Lib.hid hc0
  have hvc := Lib.hid (show soundV (inK [1]) R T = 0 from by rw [snd_V, ← eq_one, hc0]; rfl)
  have hb := Lib.hid hb0
  have hvb := Lib.hid (show soundV exK R T = 0 from by rw [snd_V, ← eq_e, hb0]; rfl)
  have hby : ∀ h, ((((⟨#[45, 115, 101, 116]⟩ : ByteArray)[2]'h).toNat : Nat) : Int) = 101 := fun _ => rfl
  clear hb0
  clear hl hz0 hc0
  obtain ⟨k, tx, nn, at_, la, ll, lc⟩ := h
  obtain ⟨b0, b1, b2, b3, b4, bs⟩ := boxed (w := w) (h := ⟨k, tx, nn, at_, la, ll, lc⟩) (e := 25) (Kp.refl _)
  simp only at b0 b1 b2 b3 b4
  go_enter Try.func3, Try.ntmps3
  have hkeep := Lib.hid (fun (W' : World) (hk : Kp (w.alloc (.cells #[.int .i64 k, .string tx, .int .u64 nn, .int .i64 at_, .slice la ll lc] 25)) W') => (⟨hk.cellv b0, hk.cellv b1, hk.cellv b2, hk.cellv b3, hk.cellv b4⟩ : (fun w' : World => w'.cell? ⟨w.heap.size, 0, none⟩ = some (.int .i64 k) ∧ w'.cell? ⟨w.heap.size, 1, none⟩ = some (.string tx) ∧ w'.cell? ⟨w.heap.size, 2, none⟩ = some (.int .u64 nn) ∧ w'.cell? ⟨w.heap.size, 3, none⟩ = some (.int .i64 at_) ∧ w'.cell? ⟨w.heap.size, 4, none⟩ = some (.slice la ll lc)) W'))
  go_wp2_with fail
  go_region_held3 (fun w' : World => w'.cell? ⟨w.heap.size, 0, none⟩ = some (.int .i64 k) ∧ w'.cell? ⟨w.heap.size, 1, none⟩ = some (.string tx) ∧ w'.cell? ⟨w.heap.size, 2, none⟩ = some (.int .u64 nn) ∧ w'.cell? ⟨w.heap.size, 3, none⟩ = some (.int .i64 at_) ∧ w'.cell? ⟨w.heap.size, 4, none⟩ = some (.slice la ll lc))
    (first | exact hkeep.out _ (by (repeat (first | with_reducible exact Kp.refl _ | with_reducible refine Kp.alloc ?_ _ | with_reducible refine Kp.drew ?_ | with_reducible refine Kp.back (by assumption) ?_))))
    ((first | (go_at_call 11; (with_reducible refine (c_rSound R T ⟨k, tx, nn, at_, la, ll, lc⟩ _ (HL.out.keep (by (repeat (first | with_reducible exact Kp.refl _ | with_reducible refine Kp.alloc ?_ _ | with_reducible refine Kp.drew ?_ | with_reducible refine Kp.back (by assumption) ?_)))) hz.out 101 (by decide)).mono ?_); rintro e w1 ⟨rfl, hk1⟩; rw [hb.out]; have bb := boxed (w := w) (h := ⟨k, tx, nn, at_, la, ll, lc⟩) (show Kp (w.alloc (.cells #[.int .i64 k, .string tx, .int .u64 nn, .int .i64 at_, .slice la ll lc] 25)) w1 by (repeat (first | with_reducible exact Kp.refl _ | with_reducible refine Kp.alloc ?_ _ | with_reducible refine Kp.drew ?_ | with_reducible refine Kp.back (by assumption) ?_))); simp only at bb; obtain ⟨b0, b1, b2, b3, b4, bs⟩ := bb)))
  all_goals
    go_wp2_with fail
    go_region_held3 (fun w' : World => w'.cell? ⟨w.heap.size, 0, none⟩ = some (.int .i64 k) ∧ w'.cell? ⟨w.heap.size, 1, none⟩ = some (.string tx) ∧ w'.cell? ⟨w.heap.size, 2, none⟩ = some (.int .u64 nn) ∧ w'.cell? ⟨w.heap.size, 3, none⟩ = some (.int .i64 at_) ∧ w'.cell? ⟨w.heap.size, 4, none⟩ = some (.slice la ll lc))
      (first | exact hkeep.out _ (by (repeat (first | with_reducible exact Kp.refl _ | with_reducible refine Kp.alloc ?_ _ | with_reducible refine Kp.drew ?_ | with_reducible refine Kp.back (by assumption) ?_))))
      ((first | (go_at_call 12; (with_reducible refine (c_answers _).mono ?_); rintro e w1 ⟨rfl, hk1⟩) | (go_at_call 14; (with_reducible refine (c_Own R T ⟨k, tx, nn, at_, la, ll, lc⟩ _ (HL.out.keep (by (repeat (first | with_reducible exact Kp.refl _ | with_reducible refine Kp.alloc ?_ _ | with_reducible refine Kp.drew ?_ | with_reducible refine Kp.back (by assumption) ?_))))).mono ?_); rintro e w1 ⟨h', rfl, hli, hk1⟩; have LI := Lib.hid (hli.weak (A0_le _)); clear hli) | (go_at_call 13; (with_reducible refine (c_Check R T h' _ (LI.out.keep (by (repeat (first | with_reducible exact Kp.refl _ | with_reducible refine Kp.alloc ?_ _ | with_reducible refine Kp.drew ?_ | with_reducible refine Kp.back (by assumption) ?_)))) (fun y _ => forms_all y.2)).mono ?_); rintro e w1 ⟨rfl, hk1⟩; rw [hvc.out]) | (go_at_call 11; (with_reducible refine (c_rSoundP R T ⟨k, tx, nn, at_, la, ll, lc⟩ _ (HL.out.keep (by (repeat (first | with_reducible exact Kp.refl _ | with_reducible refine Kp.alloc ?_ _ | with_reducible refine Kp.drew ?_ | with_reducible refine Kp.back (by assumption) ?_)))) hz.out).mono ?_); rintro e w1 ⟨rfl, hk1⟩; rw [hc.out]) | (go_at_call 15; (with_reducible refine (c_Sound2 R T h' _ (LI.out.keep (by (repeat (first | with_reducible exact Kp.refl _ | with_reducible refine Kp.alloc ?_ _ | with_reducible refine Kp.drew ?_ | with_reducible refine Kp.back (by assumption) ?_)))) (fun y _ => forms_all y.2)).mono ?_); rintro e w1 ⟨rfl, hk1⟩; rw [hvb.out])))
    all_goals (go_wp2_with fail; go_ret; refine ⟨by first | rfl | (simp; done), ?_⟩; (repeat (first | with_reducible exact Kp.refl _ | with_reducible refine Kp.alloc ?_ _ | with_reducible refine Kp.drew ?_ | with_reducible refine Kp.back (by assumption) ?_)))
set_option maxHeartbeats 6400000 in
set_option maxRecDepth 1000000 in
theorem ts_2_true_false (R : Nat) (T : Nd) (h : Hn) (w : World) (hl : Lies w A0 R T h) (hz0 : sizeN R T ≤ 1048576) (hb0 : sndB (fun k => sortL k == 101) R T = true) (hc0 : sndB (fun k => k == 1) R T = false) :
    Calls Try.prog 3 #[h.val, .int .i64 2] w fun e w' => e = .returned (.bool true) ∧ Kp w w' := by
  have HL := Lib.hid hl
  have hz := Lib.hid hz0
  have hc := Lib.hid hc0
  have hvc := Lib.hid (show soundV (inK [1]) R T = 1 from by rw [snd_V, ← eq_one, hc0]; rfl)
  have hb := Lib.hid hb0
  have hvb := Lib.hid (show soundV exK R T = 0 from by rw [snd_V, ← eq_e, hb0]; rfl)
  have hby : ∀ h, ((((⟨#[45, 115, 101, 116]⟩ : ByteArray)[2]'h).toNat : Nat) : Int) = 101 := fun _ => rfl
  clear hb0
  clear hl hz0 hc0
  obtain ⟨k, tx, nn, at_, la, ll, lc⟩ := h
  obtain ⟨b0, b1, b2, b3, b4, bs⟩ := boxed (w := w) (h := ⟨k, tx, nn, at_, la, ll, lc⟩) (e := 25) (Kp.refl _)
  simp only at b0 b1 b2 b3 b4
  go_enter Try.func3, Try.ntmps3
  have hkeep := Lib.hid (fun (W' : World) (hk : Kp (w.alloc (.cells #[.int .i64 k, .string tx, .int .u64 nn, .int .i64 at_, .slice la ll lc] 25)) W') => (⟨hk.cellv b0, hk.cellv b1, hk.cellv b2, hk.cellv b3, hk.cellv b4⟩ : (fun w' : World => w'.cell? ⟨w.heap.size, 0, none⟩ = some (.int .i64 k) ∧ w'.cell? ⟨w.heap.size, 1, none⟩ = some (.string tx) ∧ w'.cell? ⟨w.heap.size, 2, none⟩ = some (.int .u64 nn) ∧ w'.cell? ⟨w.heap.size, 3, none⟩ = some (.int .i64 at_) ∧ w'.cell? ⟨w.heap.size, 4, none⟩ = some (.slice la ll lc)) W'))
  go_wp2_with fail
  go_region_held3 (fun w' : World => w'.cell? ⟨w.heap.size, 0, none⟩ = some (.int .i64 k) ∧ w'.cell? ⟨w.heap.size, 1, none⟩ = some (.string tx) ∧ w'.cell? ⟨w.heap.size, 2, none⟩ = some (.int .u64 nn) ∧ w'.cell? ⟨w.heap.size, 3, none⟩ = some (.int .i64 at_) ∧ w'.cell? ⟨w.heap.size, 4, none⟩ = some (.slice la ll lc))
    (first | exact hkeep.out _ (by (repeat (first | with_reducible exact Kp.refl _ | with_reducible refine Kp.alloc ?_ _ | with_reducible refine Kp.drew ?_ | with_reducible refine Kp.back (by assumption) ?_))))
    ((first | (go_at_call 11; (with_reducible refine (c_rSound R T ⟨k, tx, nn, at_, la, ll, lc⟩ _ (HL.out.keep (by (repeat (first | with_reducible exact Kp.refl _ | with_reducible refine Kp.alloc ?_ _ | with_reducible refine Kp.drew ?_ | with_reducible refine Kp.back (by assumption) ?_)))) hz.out 101 (by decide)).mono ?_); rintro e w1 ⟨rfl, hk1⟩; rw [hb.out]; have bb := boxed (w := w) (h := ⟨k, tx, nn, at_, la, ll, lc⟩) (show Kp (w.alloc (.cells #[.int .i64 k, .string tx, .int .u64 nn, .int .i64 at_, .slice la ll lc] 25)) w1 by (repeat (first | with_reducible exact Kp.refl _ | with_reducible refine Kp.alloc ?_ _ | with_reducible refine Kp.drew ?_ | with_reducible refine Kp.back (by assumption) ?_))); simp only at bb; obtain ⟨b0, b1, b2, b3, b4, bs⟩ := bb)))
  all_goals
    go_wp2_with fail
    go_region_held3 (fun w' : World => w'.cell? ⟨w.heap.size, 0, none⟩ = some (.int .i64 k) ∧ w'.cell? ⟨w.heap.size, 1, none⟩ = some (.string tx) ∧ w'.cell? ⟨w.heap.size, 2, none⟩ = some (.int .u64 nn) ∧ w'.cell? ⟨w.heap.size, 3, none⟩ = some (.int .i64 at_) ∧ w'.cell? ⟨w.heap.size, 4, none⟩ = some (.slice la ll lc))
      (first | exact hkeep.out _ (by (repeat (first | with_reducible exact Kp.refl _ | with_reducible refine Kp.alloc ?_ _ | with_reducible refine Kp.drew ?_ | with_reducible refine Kp.back (by assumption) ?_))))
      ((first | (go_at_call 12; (with_reducible refine (c_answers _).mono ?_); rintro e w1 ⟨rfl, hk1⟩) | (go_at_call 14; (with_reducible refine (c_Own R T ⟨k, tx, nn, at_, la, ll, lc⟩ _ (HL.out.keep (by (repeat (first | with_reducible exact Kp.refl _ | with_reducible refine Kp.alloc ?_ _ | with_reducible refine Kp.drew ?_ | with_reducible refine Kp.back (by assumption) ?_))))).mono ?_); rintro e w1 ⟨h', rfl, hli, hk1⟩; have LI := Lib.hid (hli.weak (A0_le _)); clear hli) | (go_at_call 13; (with_reducible refine (c_Check R T h' _ (LI.out.keep (by (repeat (first | with_reducible exact Kp.refl _ | with_reducible refine Kp.alloc ?_ _ | with_reducible refine Kp.drew ?_ | with_reducible refine Kp.back (by assumption) ?_)))) (fun y _ => forms_all y.2)).mono ?_); rintro e w1 ⟨rfl, hk1⟩; rw [hvc.out]) | (go_at_call 11; (with_reducible refine (c_rSoundP R T ⟨k, tx, nn, at_, la, ll, lc⟩ _ (HL.out.keep (by (repeat (first | with_reducible exact Kp.refl _ | with_reducible refine Kp.alloc ?_ _ | with_reducible refine Kp.drew ?_ | with_reducible refine Kp.back (by assumption) ?_)))) hz.out).mono ?_); rintro e w1 ⟨rfl, hk1⟩; rw [hc.out]) | (go_at_call 15; (with_reducible refine (c_Sound2 R T h' _ (LI.out.keep (by (repeat (first | with_reducible exact Kp.refl _ | with_reducible refine Kp.alloc ?_ _ | with_reducible refine Kp.drew ?_ | with_reducible refine Kp.back (by assumption) ?_)))) (fun y _ => forms_all y.2)).mono ?_); rintro e w1 ⟨rfl, hk1⟩; rw [hvb.out])))
    all_goals (go_wp2_with fail; go_ret; refine ⟨by first | rfl | (simp; done), ?_⟩; (repeat (first | with_reducible exact Kp.refl _ | with_reducible refine Kp.alloc ?_ _ | with_reducible refine Kp.drew ?_ | with_reducible refine Kp.back (by assumption) ?_)))
set_option maxHeartbeats 6400000 in
set_option maxRecDepth 1000000 in
theorem ts_2_false_true (R : Nat) (T : Nd) (h : Hn) (w : World) (hl : Lies w A0 R T h) (hz0 : sizeN R T ≤ 1048576) (hb0 : sndB (fun k => sortL k == 101) R T = false) (hc0 : sndB (fun k => k == 1) R T = true) :
    Calls Try.prog 3 #[h.val, .int .i64 2] w fun e w' => e = .returned (.bool true) ∧ Kp w w' := by
  have HL := Lib.hid hl
  have hz := Lib.hid hz0
  have hc := Lib.hid hc0
  have hvc := Lib.hid (show soundV (inK [1]) R T = 0 from by rw [snd_V, ← eq_one, hc0]; rfl)
  have hb := Lib.hid hb0
  have hvb := Lib.hid (show soundV exK R T = 1 from by rw [snd_V, ← eq_e, hb0]; rfl)
  have hby : ∀ h, ((((⟨#[45, 115, 101, 116]⟩ : ByteArray)[2]'h).toNat : Nat) : Int) = 101 := fun _ => rfl
  clear hb0
  clear hl hz0 hc0
  obtain ⟨k, tx, nn, at_, la, ll, lc⟩ := h
  obtain ⟨b0, b1, b2, b3, b4, bs⟩ := boxed (w := w) (h := ⟨k, tx, nn, at_, la, ll, lc⟩) (e := 25) (Kp.refl _)
  simp only at b0 b1 b2 b3 b4
  go_enter Try.func3, Try.ntmps3
  have hkeep := Lib.hid (fun (W' : World) (hk : Kp (w.alloc (.cells #[.int .i64 k, .string tx, .int .u64 nn, .int .i64 at_, .slice la ll lc] 25)) W') => (⟨hk.cellv b0, hk.cellv b1, hk.cellv b2, hk.cellv b3, hk.cellv b4⟩ : (fun w' : World => w'.cell? ⟨w.heap.size, 0, none⟩ = some (.int .i64 k) ∧ w'.cell? ⟨w.heap.size, 1, none⟩ = some (.string tx) ∧ w'.cell? ⟨w.heap.size, 2, none⟩ = some (.int .u64 nn) ∧ w'.cell? ⟨w.heap.size, 3, none⟩ = some (.int .i64 at_) ∧ w'.cell? ⟨w.heap.size, 4, none⟩ = some (.slice la ll lc)) W'))
  go_wp2_with fail
  go_region_held3 (fun w' : World => w'.cell? ⟨w.heap.size, 0, none⟩ = some (.int .i64 k) ∧ w'.cell? ⟨w.heap.size, 1, none⟩ = some (.string tx) ∧ w'.cell? ⟨w.heap.size, 2, none⟩ = some (.int .u64 nn) ∧ w'.cell? ⟨w.heap.size, 3, none⟩ = some (.int .i64 at_) ∧ w'.cell? ⟨w.heap.size, 4, none⟩ = some (.slice la ll lc))
    (first | exact hkeep.out _ (by (repeat (first | with_reducible exact Kp.refl _ | with_reducible refine Kp.alloc ?_ _ | with_reducible refine Kp.drew ?_ | with_reducible refine Kp.back (by assumption) ?_))))
    ((first | (go_at_call 11; (with_reducible refine (c_rSound R T ⟨k, tx, nn, at_, la, ll, lc⟩ _ (HL.out.keep (by (repeat (first | with_reducible exact Kp.refl _ | with_reducible refine Kp.alloc ?_ _ | with_reducible refine Kp.drew ?_ | with_reducible refine Kp.back (by assumption) ?_)))) hz.out 101 (by decide)).mono ?_); rintro e w1 ⟨rfl, hk1⟩; rw [hb.out]; have bb := boxed (w := w) (h := ⟨k, tx, nn, at_, la, ll, lc⟩) (show Kp (w.alloc (.cells #[.int .i64 k, .string tx, .int .u64 nn, .int .i64 at_, .slice la ll lc] 25)) w1 by (repeat (first | with_reducible exact Kp.refl _ | with_reducible refine Kp.alloc ?_ _ | with_reducible refine Kp.drew ?_ | with_reducible refine Kp.back (by assumption) ?_))); simp only at bb; obtain ⟨b0, b1, b2, b3, b4, bs⟩ := bb)))
  all_goals
    go_wp2_with fail
    go_region_held3 (fun w' : World => w'.cell? ⟨w.heap.size, 0, none⟩ = some (.int .i64 k) ∧ w'.cell? ⟨w.heap.size, 1, none⟩ = some (.string tx) ∧ w'.cell? ⟨w.heap.size, 2, none⟩ = some (.int .u64 nn) ∧ w'.cell? ⟨w.heap.size, 3, none⟩ = some (.int .i64 at_) ∧ w'.cell? ⟨w.heap.size, 4, none⟩ = some (.slice la ll lc))
      (first | exact hkeep.out _ (by (repeat (first | with_reducible exact Kp.refl _ | with_reducible refine Kp.alloc ?_ _ | with_reducible refine Kp.drew ?_ | with_reducible refine Kp.back (by assumption) ?_))))
      ((first | (go_at_call 12; (with_reducible refine (c_answers _).mono ?_); rintro e w1 ⟨rfl, hk1⟩) | (go_at_call 14; (with_reducible refine (c_Own R T ⟨k, tx, nn, at_, la, ll, lc⟩ _ (HL.out.keep (by (repeat (first | with_reducible exact Kp.refl _ | with_reducible refine Kp.alloc ?_ _ | with_reducible refine Kp.drew ?_ | with_reducible refine Kp.back (by assumption) ?_))))).mono ?_); rintro e w1 ⟨h', rfl, hli, hk1⟩; have LI := Lib.hid (hli.weak (A0_le _)); clear hli) | (go_at_call 13; (with_reducible refine (c_Check R T h' _ (LI.out.keep (by (repeat (first | with_reducible exact Kp.refl _ | with_reducible refine Kp.alloc ?_ _ | with_reducible refine Kp.drew ?_ | with_reducible refine Kp.back (by assumption) ?_)))) (fun y _ => forms_all y.2)).mono ?_); rintro e w1 ⟨rfl, hk1⟩; rw [hvc.out]) | (go_at_call 11; (with_reducible refine (c_rSoundP R T ⟨k, tx, nn, at_, la, ll, lc⟩ _ (HL.out.keep (by (repeat (first | with_reducible exact Kp.refl _ | with_reducible refine Kp.alloc ?_ _ | with_reducible refine Kp.drew ?_ | with_reducible refine Kp.back (by assumption) ?_)))) hz.out).mono ?_); rintro e w1 ⟨rfl, hk1⟩; rw [hc.out]) | (go_at_call 15; (with_reducible refine (c_Sound2 R T h' _ (LI.out.keep (by (repeat (first | with_reducible exact Kp.refl _ | with_reducible refine Kp.alloc ?_ _ | with_reducible refine Kp.drew ?_ | with_reducible refine Kp.back (by assumption) ?_)))) (fun y _ => forms_all y.2)).mono ?_); rintro e w1 ⟨rfl, hk1⟩; rw [hvb.out])))
    all_goals (go_wp2_with fail; go_ret; refine ⟨by first | rfl | (simp; done), ?_⟩; (repeat (first | with_reducible exact Kp.refl _ | with_reducible refine Kp.alloc ?_ _ | with_reducible refine Kp.drew ?_ | with_reducible refine Kp.back (by assumption) ?_)))
set_option maxHeartbeats 6400000 in
set_option maxRecDepth 1000000 in
theorem ts_2_false_false (R : Nat) (T : Nd) (h : Hn) (w : World) (hl : Lies w A0 R T h) (hz0 : sizeN R T ≤ 1048576) (hb0 : sndB (fun k => sortL k == 101) R T = false) (hc0 : sndB (fun k => k == 1) R T = false) :
    Calls Try.prog 3 #[h.val, .int .i64 2] w fun e w' => e = .returned (.bool true) ∧ Kp w w' := by
  have HL := Lib.hid hl
  have hz := Lib.hid hz0
  have hc := Lib.hid hc0
  have hvc := Lib.hid (show soundV (inK [1]) R T = 1 from by rw [snd_V, ← eq_one, hc0]; rfl)
  have hb := Lib.hid hb0
  have hvb := Lib.hid (show soundV exK R T = 1 from by rw [snd_V, ← eq_e, hb0]; rfl)
  have hby : ∀ h, ((((⟨#[45, 115, 101, 116]⟩ : ByteArray)[2]'h).toNat : Nat) : Int) = 101 := fun _ => rfl
  clear hb0
  clear hl hz0 hc0
  obtain ⟨k, tx, nn, at_, la, ll, lc⟩ := h
  obtain ⟨b0, b1, b2, b3, b4, bs⟩ := boxed (w := w) (h := ⟨k, tx, nn, at_, la, ll, lc⟩) (e := 25) (Kp.refl _)
  simp only at b0 b1 b2 b3 b4
  go_enter Try.func3, Try.ntmps3
  have hkeep := Lib.hid (fun (W' : World) (hk : Kp (w.alloc (.cells #[.int .i64 k, .string tx, .int .u64 nn, .int .i64 at_, .slice la ll lc] 25)) W') => (⟨hk.cellv b0, hk.cellv b1, hk.cellv b2, hk.cellv b3, hk.cellv b4⟩ : (fun w' : World => w'.cell? ⟨w.heap.size, 0, none⟩ = some (.int .i64 k) ∧ w'.cell? ⟨w.heap.size, 1, none⟩ = some (.string tx) ∧ w'.cell? ⟨w.heap.size, 2, none⟩ = some (.int .u64 nn) ∧ w'.cell? ⟨w.heap.size, 3, none⟩ = some (.int .i64 at_) ∧ w'.cell? ⟨w.heap.size, 4, none⟩ = some (.slice la ll lc)) W'))
  go_wp2_with fail
  go_region_held3 (fun w' : World => w'.cell? ⟨w.heap.size, 0, none⟩ = some (.int .i64 k) ∧ w'.cell? ⟨w.heap.size, 1, none⟩ = some (.string tx) ∧ w'.cell? ⟨w.heap.size, 2, none⟩ = some (.int .u64 nn) ∧ w'.cell? ⟨w.heap.size, 3, none⟩ = some (.int .i64 at_) ∧ w'.cell? ⟨w.heap.size, 4, none⟩ = some (.slice la ll lc))
    (first | exact hkeep.out _ (by (repeat (first | with_reducible exact Kp.refl _ | with_reducible refine Kp.alloc ?_ _ | with_reducible refine Kp.drew ?_ | with_reducible refine Kp.back (by assumption) ?_))))
    ((first | (go_at_call 11; (with_reducible refine (c_rSound R T ⟨k, tx, nn, at_, la, ll, lc⟩ _ (HL.out.keep (by (repeat (first | with_reducible exact Kp.refl _ | with_reducible refine Kp.alloc ?_ _ | with_reducible refine Kp.drew ?_ | with_reducible refine Kp.back (by assumption) ?_)))) hz.out 101 (by decide)).mono ?_); rintro e w1 ⟨rfl, hk1⟩; rw [hb.out]; have bb := boxed (w := w) (h := ⟨k, tx, nn, at_, la, ll, lc⟩) (show Kp (w.alloc (.cells #[.int .i64 k, .string tx, .int .u64 nn, .int .i64 at_, .slice la ll lc] 25)) w1 by (repeat (first | with_reducible exact Kp.refl _ | with_reducible refine Kp.alloc ?_ _ | with_reducible refine Kp.drew ?_ | with_reducible refine Kp.back (by assumption) ?_))); simp only at bb; obtain ⟨b0, b1, b2, b3, b4, bs⟩ := bb)))
  all_goals
    go_wp2_with fail
    go_region_held3 (fun w' : World => w'.cell? ⟨w.heap.size, 0, none⟩ = some (.int .i64 k) ∧ w'.cell? ⟨w.heap.size, 1, none⟩ = some (.string tx) ∧ w'.cell? ⟨w.heap.size, 2, none⟩ = some (.int .u64 nn) ∧ w'.cell? ⟨w.heap.size, 3, none⟩ = some (.int .i64 at_) ∧ w'.cell? ⟨w.heap.size, 4, none⟩ = some (.slice la ll lc))
      (first | exact hkeep.out _ (by (repeat (first | with_reducible exact Kp.refl _ | with_reducible refine Kp.alloc ?_ _ | with_reducible refine Kp.drew ?_ | with_reducible refine Kp.back (by assumption) ?_))))
      ((first | (go_at_call 12; (with_reducible refine (c_answers _).mono ?_); rintro e w1 ⟨rfl, hk1⟩) | (go_at_call 14; (with_reducible refine (c_Own R T ⟨k, tx, nn, at_, la, ll, lc⟩ _ (HL.out.keep (by (repeat (first | with_reducible exact Kp.refl _ | with_reducible refine Kp.alloc ?_ _ | with_reducible refine Kp.drew ?_ | with_reducible refine Kp.back (by assumption) ?_))))).mono ?_); rintro e w1 ⟨h', rfl, hli, hk1⟩; have LI := Lib.hid (hli.weak (A0_le _)); clear hli) | (go_at_call 13; (with_reducible refine (c_Check R T h' _ (LI.out.keep (by (repeat (first | with_reducible exact Kp.refl _ | with_reducible refine Kp.alloc ?_ _ | with_reducible refine Kp.drew ?_ | with_reducible refine Kp.back (by assumption) ?_)))) (fun y _ => forms_all y.2)).mono ?_); rintro e w1 ⟨rfl, hk1⟩; rw [hvc.out]) | (go_at_call 11; (with_reducible refine (c_rSoundP R T ⟨k, tx, nn, at_, la, ll, lc⟩ _ (HL.out.keep (by (repeat (first | with_reducible exact Kp.refl _ | with_reducible refine Kp.alloc ?_ _ | with_reducible refine Kp.drew ?_ | with_reducible refine Kp.back (by assumption) ?_)))) hz.out).mono ?_); rintro e w1 ⟨rfl, hk1⟩; rw [hc.out]) | (go_at_call 15; (with_reducible refine (c_Sound2 R T h' _ (LI.out.keep (by (repeat (first | with_reducible exact Kp.refl _ | with_reducible refine Kp.alloc ?_ _ | with_reducible refine Kp.drew ?_ | with_reducible refine Kp.back (by assumption) ?_)))) (fun y _ => forms_all y.2)).mono ?_); rintro e w1 ⟨rfl, hk1⟩; rw [hvb.out])))
    all_goals (go_wp2_with fail; go_ret; refine ⟨by first | rfl | (simp; done), ?_⟩; (repeat (first | with_reducible exact Kp.refl _ | with_reducible refine Kp.alloc ?_ _ | with_reducible refine Kp.drew ?_ | with_reducible refine Kp.back (by assumption) ?_)))
set_option maxHeartbeats 6400000 in
set_option maxRecDepth 1000000 in
theorem ts_3_true_true (R : Nat) (T : Nd) (h : Hn) (w : World) (hl : Lies w A0 R T h) (hz0 : sizeN R T ≤ 1048576) (hb0 : sndB (fun k => sortL k == 116) R T = true) (hc0 : sndB (fun k => k == 1) R T = true) :
    Calls Try.prog 3 #[h.val, .int .i64 3] w fun e w' => e = .returned (.bool true) ∧ Kp w w' := by
  have HL := Lib.hid hl
  have hz := Lib.hid hz0
  have hc := Lib.hid hc0
  have hvc := Lib.hid (show soundV (inK [1]) R T = 0 from by rw [snd_V, ← eq_one, hc0]; rfl)
  have hb := Lib.hid hb0
  have hvb := Lib.hid (show soundV tyK R T = 0 from by rw [snd_V, ← eq_t, hb0]; rfl)
  have hby : ∀ h, ((((⟨#[45, 115, 101, 116]⟩ : ByteArray)[3]'h).toNat : Nat) : Int) = 116 := fun _ => rfl
  clear hb0
  clear hl hz0 hc0
  obtain ⟨k, tx, nn, at_, la, ll, lc⟩ := h
  obtain ⟨b0, b1, b2, b3, b4, bs⟩ := boxed (w := w) (h := ⟨k, tx, nn, at_, la, ll, lc⟩) (e := 25) (Kp.refl _)
  simp only at b0 b1 b2 b3 b4
  go_enter Try.func3, Try.ntmps3
  have hkeep := Lib.hid (fun (W' : World) (hk : Kp (w.alloc (.cells #[.int .i64 k, .string tx, .int .u64 nn, .int .i64 at_, .slice la ll lc] 25)) W') => (⟨hk.cellv b0, hk.cellv b1, hk.cellv b2, hk.cellv b3, hk.cellv b4⟩ : (fun w' : World => w'.cell? ⟨w.heap.size, 0, none⟩ = some (.int .i64 k) ∧ w'.cell? ⟨w.heap.size, 1, none⟩ = some (.string tx) ∧ w'.cell? ⟨w.heap.size, 2, none⟩ = some (.int .u64 nn) ∧ w'.cell? ⟨w.heap.size, 3, none⟩ = some (.int .i64 at_) ∧ w'.cell? ⟨w.heap.size, 4, none⟩ = some (.slice la ll lc)) W'))
  go_wp2_with fail
  go_region_held3 (fun w' : World => w'.cell? ⟨w.heap.size, 0, none⟩ = some (.int .i64 k) ∧ w'.cell? ⟨w.heap.size, 1, none⟩ = some (.string tx) ∧ w'.cell? ⟨w.heap.size, 2, none⟩ = some (.int .u64 nn) ∧ w'.cell? ⟨w.heap.size, 3, none⟩ = some (.int .i64 at_) ∧ w'.cell? ⟨w.heap.size, 4, none⟩ = some (.slice la ll lc))
    (first | exact hkeep.out _ (by (repeat (first | with_reducible exact Kp.refl _ | with_reducible refine Kp.alloc ?_ _ | with_reducible refine Kp.drew ?_ | with_reducible refine Kp.back (by assumption) ?_))))
    ((first | (go_at_call 11; (with_reducible refine (c_rSound R T ⟨k, tx, nn, at_, la, ll, lc⟩ _ (HL.out.keep (by (repeat (first | with_reducible exact Kp.refl _ | with_reducible refine Kp.alloc ?_ _ | with_reducible refine Kp.drew ?_ | with_reducible refine Kp.back (by assumption) ?_)))) hz.out 116 (by decide)).mono ?_); rintro e w1 ⟨rfl, hk1⟩; rw [hb.out]; have bb := boxed (w := w) (h := ⟨k, tx, nn, at_, la, ll, lc⟩) (show Kp (w.alloc (.cells #[.int .i64 k, .string tx, .int .u64 nn, .int .i64 at_, .slice la ll lc] 25)) w1 by (repeat (first | with_reducible exact Kp.refl _ | with_reducible refine Kp.alloc ?_ _ | with_reducible refine Kp.drew ?_ | with_reducible refine Kp.back (by assumption) ?_))); simp only at bb; obtain ⟨b0, b1, b2, b3, b4, bs⟩ := bb)))
  all_goals
    go_wp2_with fail
    go_region_held3 (fun w' : World => w'.cell? ⟨w.heap.size, 0, none⟩ = some (.int .i64 k) ∧ w'.cell? ⟨w.heap.size, 1, none⟩ = some (.string tx) ∧ w'.cell? ⟨w.heap.size, 2, none⟩ = some (.int .u64 nn) ∧ w'.cell? ⟨w.heap.size, 3, none⟩ = some (.int .i64 at_) ∧ w'.cell? ⟨w.heap.size, 4, none⟩ = some (.slice la ll lc))
      (first | exact hkeep.out _ (by (repeat (first | with_reducible exact Kp.refl _ | with_reducible refine Kp.alloc ?_ _ | with_reducible refine Kp.drew ?_ | with_reducible refine Kp.back (by assumption) ?_))))
      ((first | (go_at_call 12; (with_reducible refine (c_answers _).mono ?_); rintro e w1 ⟨rfl, hk1⟩) | (go_at_call 14; (with_reducible refine (c_Own R T ⟨k, tx, nn, at_, la, ll, lc⟩ _ (HL.out.keep (by (repeat (first | with_reducible exact Kp.refl _ | with_reducible refine Kp.alloc ?_ _ | with_reducible refine Kp.drew ?_ | with_reducible refine Kp.back (by assumption) ?_))))).mono ?_); rintro e w1 ⟨h', rfl, hli, hk1⟩; have LI := Lib.hid (hli.weak (A0_le _)); clear hli) | (go_at_call 13; (with_reducible refine (c_Check R T h' _ (LI.out.keep (by (repeat (first | with_reducible exact Kp.refl _ | with_reducible refine Kp.alloc ?_ _ | with_reducible refine Kp.drew ?_ | with_reducible refine Kp.back (by assumption) ?_)))) (fun y _ => forms_all y.2)).mono ?_); rintro e w1 ⟨rfl, hk1⟩; rw [hvc.out]) | (go_at_call 11; (with_reducible refine (c_rSoundP R T ⟨k, tx, nn, at_, la, ll, lc⟩ _ (HL.out.keep (by (repeat (first | with_reducible exact Kp.refl _ | with_reducible refine Kp.alloc ?_ _ | with_reducible refine Kp.drew ?_ | with_reducible refine Kp.back (by assumption) ?_)))) hz.out).mono ?_); rintro e w1 ⟨rfl, hk1⟩; rw [hc.out]) | (go_at_call 15; (with_reducible refine (c_Sound3 R T h' _ (LI.out.keep (by (repeat (first | with_reducible exact Kp.refl _ | with_reducible refine Kp.alloc ?_ _ | with_reducible refine Kp.drew ?_ | with_reducible refine Kp.back (by assumption) ?_)))) (fun y _ => forms_all y.2)).mono ?_); rintro e w1 ⟨rfl, hk1⟩; rw [hvb.out])))
    all_goals (go_wp2_with fail; go_ret; refine ⟨by first | rfl | (simp; done), ?_⟩; (repeat (first | with_reducible exact Kp.refl _ | with_reducible refine Kp.alloc ?_ _ | with_reducible refine Kp.drew ?_ | with_reducible refine Kp.back (by assumption) ?_)))
set_option maxHeartbeats 6400000 in
set_option maxRecDepth 1000000 in
theorem ts_3_true_false (R : Nat) (T : Nd) (h : Hn) (w : World) (hl : Lies w A0 R T h) (hz0 : sizeN R T ≤ 1048576) (hb0 : sndB (fun k => sortL k == 116) R T = true) (hc0 : sndB (fun k => k == 1) R T = false) :
    Calls Try.prog 3 #[h.val, .int .i64 3] w fun e w' => e = .returned (.bool true) ∧ Kp w w' := by
  have HL := Lib.hid hl
  have hz := Lib.hid hz0
  have hc := Lib.hid hc0
  have hvc := Lib.hid (show soundV (inK [1]) R T = 1 from by rw [snd_V, ← eq_one, hc0]; rfl)
  have hb := Lib.hid hb0
  have hvb := Lib.hid (show soundV tyK R T = 0 from by rw [snd_V, ← eq_t, hb0]; rfl)
  have hby : ∀ h, ((((⟨#[45, 115, 101, 116]⟩ : ByteArray)[3]'h).toNat : Nat) : Int) = 116 := fun _ => rfl
  clear hb0
  clear hl hz0 hc0
  obtain ⟨k, tx, nn, at_, la, ll, lc⟩ := h
  obtain ⟨b0, b1, b2, b3, b4, bs⟩ := boxed (w := w) (h := ⟨k, tx, nn, at_, la, ll, lc⟩) (e := 25) (Kp.refl _)
  simp only at b0 b1 b2 b3 b4
  go_enter Try.func3, Try.ntmps3
  have hkeep := Lib.hid (fun (W' : World) (hk : Kp (w.alloc (.cells #[.int .i64 k, .string tx, .int .u64 nn, .int .i64 at_, .slice la ll lc] 25)) W') => (⟨hk.cellv b0, hk.cellv b1, hk.cellv b2, hk.cellv b3, hk.cellv b4⟩ : (fun w' : World => w'.cell? ⟨w.heap.size, 0, none⟩ = some (.int .i64 k) ∧ w'.cell? ⟨w.heap.size, 1, none⟩ = some (.string tx) ∧ w'.cell? ⟨w.heap.size, 2, none⟩ = some (.int .u64 nn) ∧ w'.cell? ⟨w.heap.size, 3, none⟩ = some (.int .i64 at_) ∧ w'.cell? ⟨w.heap.size, 4, none⟩ = some (.slice la ll lc)) W'))
  go_wp2_with fail
  go_region_held3 (fun w' : World => w'.cell? ⟨w.heap.size, 0, none⟩ = some (.int .i64 k) ∧ w'.cell? ⟨w.heap.size, 1, none⟩ = some (.string tx) ∧ w'.cell? ⟨w.heap.size, 2, none⟩ = some (.int .u64 nn) ∧ w'.cell? ⟨w.heap.size, 3, none⟩ = some (.int .i64 at_) ∧ w'.cell? ⟨w.heap.size, 4, none⟩ = some (.slice la ll lc))
    (first | exact hkeep.out _ (by (repeat (first | with_reducible exact Kp.refl _ | with_reducible refine Kp.alloc ?_ _ | with_reducible refine Kp.drew ?_ | with_reducible refine Kp.back (by assumption) ?_))))
    ((first | (go_at_call 11; (with_reducible refine (c_rSound R T ⟨k, tx, nn, at_, la, ll, lc⟩ _ (HL.out.keep (by (repeat (first | with_reducible exact Kp.refl _ | with_reducible refine Kp.alloc ?_ _ | with_reducible refine Kp.drew ?_ | with_reducible refine Kp.back (by assumption) ?_)))) hz.out 116 (by decide)).mono ?_); rintro e w1 ⟨rfl, hk1⟩; rw [hb.out]; have bb := boxed (w := w) (h := ⟨k, tx, nn, at_, la, ll, lc⟩) (show Kp (w.alloc (.cells #[.int .i64 k, .string tx, .int .u64 nn, .int .i64 at_, .slice la ll lc] 25)) w1 by (repeat (first | with_reducible exact Kp.refl _ | with_reducible refine Kp.alloc ?_ _ | with_reducible refine Kp.drew ?_ | with_reducible refine Kp.back (by assumption) ?_))); simp only at bb; obtain ⟨b0, b1, b2, b3, b4, bs⟩ := bb)))
  all_goals
    go_wp2_with fail
    go_region_held3 (fun w' : World => w'.cell? ⟨w.heap.size, 0, none⟩ = some (.int .i64 k) ∧ w'.cell? ⟨w.heap.size, 1, none⟩ = some (.string tx) ∧ w'.cell? ⟨w.heap.size, 2, none⟩ = some (.int .u64 nn) ∧ w'.cell? ⟨w.heap.size, 3, none⟩ = some (.int .i64 at_) ∧ w'.cell? ⟨w.heap.size, 4, none⟩ = some (.slice la ll lc))
      (first | exact hkeep.out _ (by (repeat (first | with_reducible exact Kp.refl _ | with_reducible refine Kp.alloc ?_ _ | with_reducible refine Kp.drew ?_ | with_reducible refine Kp.back (by assumption) ?_))))
      ((first | (go_at_call 12; (with_reducible refine (c_answers _).mono ?_); rintro e w1 ⟨rfl, hk1⟩) | (go_at_call 14; (with_reducible refine (c_Own R T ⟨k, tx, nn, at_, la, ll, lc⟩ _ (HL.out.keep (by (repeat (first | with_reducible exact Kp.refl _ | with_reducible refine Kp.alloc ?_ _ | with_reducible refine Kp.drew ?_ | with_reducible refine Kp.back (by assumption) ?_))))).mono ?_); rintro e w1 ⟨h', rfl, hli, hk1⟩; have LI := Lib.hid (hli.weak (A0_le _)); clear hli) | (go_at_call 13; (with_reducible refine (c_Check R T h' _ (LI.out.keep (by (repeat (first | with_reducible exact Kp.refl _ | with_reducible refine Kp.alloc ?_ _ | with_reducible refine Kp.drew ?_ | with_reducible refine Kp.back (by assumption) ?_)))) (fun y _ => forms_all y.2)).mono ?_); rintro e w1 ⟨rfl, hk1⟩; rw [hvc.out]) | (go_at_call 11; (with_reducible refine (c_rSoundP R T ⟨k, tx, nn, at_, la, ll, lc⟩ _ (HL.out.keep (by (repeat (first | with_reducible exact Kp.refl _ | with_reducible refine Kp.alloc ?_ _ | with_reducible refine Kp.drew ?_ | with_reducible refine Kp.back (by assumption) ?_)))) hz.out).mono ?_); rintro e w1 ⟨rfl, hk1⟩; rw [hc.out]) | (go_at_call 15; (with_reducible refine (c_Sound3 R T h' _ (LI.out.keep (by (repeat (first | with_reducible exact Kp.refl _ | with_reducible refine Kp.alloc ?_ _ | with_reducible refine Kp.drew ?_ | with_reducible refine Kp.back (by assumption) ?_)))) (fun y _ => forms_all y.2)).mono ?_); rintro e w1 ⟨rfl, hk1⟩; rw [hvb.out])))
    all_goals (go_wp2_with fail; go_ret; refine ⟨by first | rfl | (simp; done), ?_⟩; (repeat (first | with_reducible exact Kp.refl _ | with_reducible refine Kp.alloc ?_ _ | with_reducible refine Kp.drew ?_ | with_reducible refine Kp.back (by assumption) ?_)))
set_option maxHeartbeats 6400000 in
set_option maxRecDepth 1000000 in
theorem ts_3_false_true (R : Nat) (T : Nd) (h : Hn) (w : World) (hl : Lies w A0 R T h) (hz0 : sizeN R T ≤ 1048576) (hb0 : sndB (fun k => sortL k == 116) R T = false) (hc0 : sndB (fun k => k == 1) R T = true) :
    Calls Try.prog 3 #[h.val, .int .i64 3] w fun e w' => e = .returned (.bool true) ∧ Kp w w' := by
  have HL := Lib.hid hl
  have hz := Lib.hid hz0
  have hc := Lib.hid hc0
  have hvc := Lib.hid (show soundV (inK [1]) R T = 0 from by rw [snd_V, ← eq_one, hc0]; rfl)
  have hb := Lib.hid hb0
  have hvb := Lib.hid (show soundV tyK R T = 1 from by rw [snd_V, ← eq_t, hb0]; rfl)
  have hby : ∀ h, ((((⟨#[45, 115, 101, 116]⟩ : ByteArray)[3]'h).toNat : Nat) : Int) = 116 := fun _ => rfl
  clear hb0
  clear hl hz0 hc0
  obtain ⟨k, tx, nn, at_, la, ll, lc⟩ := h
  obtain ⟨b0, b1, b2, b3, b4, bs⟩ := boxed (w := w) (h := ⟨k, tx, nn, at_, la, ll, lc⟩) (e := 25) (Kp.refl _)
  simp only at b0 b1 b2 b3 b4
  go_enter Try.func3, Try.ntmps3
  have hkeep := Lib.hid (fun (W' : World) (hk : Kp (w.alloc (.cells #[.int .i64 k, .string tx, .int .u64 nn, .int .i64 at_, .slice la ll lc] 25)) W') => (⟨hk.cellv b0, hk.cellv b1, hk.cellv b2, hk.cellv b3, hk.cellv b4⟩ : (fun w' : World => w'.cell? ⟨w.heap.size, 0, none⟩ = some (.int .i64 k) ∧ w'.cell? ⟨w.heap.size, 1, none⟩ = some (.string tx) ∧ w'.cell? ⟨w.heap.size, 2, none⟩ = some (.int .u64 nn) ∧ w'.cell? ⟨w.heap.size, 3, none⟩ = some (.int .i64 at_) ∧ w'.cell? ⟨w.heap.size, 4, none⟩ = some (.slice la ll lc)) W'))
  go_wp2_with fail
  go_region_held3 (fun w' : World => w'.cell? ⟨w.heap.size, 0, none⟩ = some (.int .i64 k) ∧ w'.cell? ⟨w.heap.size, 1, none⟩ = some (.string tx) ∧ w'.cell? ⟨w.heap.size, 2, none⟩ = some (.int .u64 nn) ∧ w'.cell? ⟨w.heap.size, 3, none⟩ = some (.int .i64 at_) ∧ w'.cell? ⟨w.heap.size, 4, none⟩ = some (.slice la ll lc))
    (first | exact hkeep.out _ (by (repeat (first | with_reducible exact Kp.refl _ | with_reducible refine Kp.alloc ?_ _ | with_reducible refine Kp.drew ?_ | with_reducible refine Kp.back (by assumption) ?_))))
    ((first | (go_at_call 11; (with_reducible refine (c_rSound R T ⟨k, tx, nn, at_, la, ll, lc⟩ _ (HL.out.keep (by (repeat (first | with_reducible exact Kp.refl _ | with_reducible refine Kp.alloc ?_ _ | with_reducible refine Kp.drew ?_ | with_reducible refine Kp.back (by assumption) ?_)))) hz.out 116 (by decide)).mono ?_); rintro e w1 ⟨rfl, hk1⟩; rw [hb.out]; have bb := boxed (w := w) (h := ⟨k, tx, nn, at_, la, ll, lc⟩) (show Kp (w.alloc (.cells #[.int .i64 k, .string tx, .int .u64 nn, .int .i64 at_, .slice la ll lc] 25)) w1 by (repeat (first | with_reducible exact Kp.refl _ | with_reducible refine Kp.alloc ?_ _ | with_reducible refine Kp.drew ?_ | with_reducible refine Kp.back (by assumption) ?_))); simp only at bb; obtain ⟨b0, b1, b2, b3, b4, bs⟩ := bb)))
  all_goals
    go_wp2_with fail
    go_region_held3 (fun w' : World => w'.cell? ⟨w.heap.size, 0, none⟩ = some (.int .i64 k) ∧ w'.cell? ⟨w.heap.size, 1, none⟩ = some (.string tx) ∧ w'.cell? ⟨w.heap.size, 2, none⟩ = some (.int .u64 nn) ∧ w'.cell? ⟨w.heap.size, 3, none⟩ = some (.int .i64 at_) ∧ w'.cell? ⟨w.heap.size, 4, none⟩ = some (.slice la ll lc))
      (first | exact hkeep.out _ (by (repeat (first | with_reducible exact Kp.refl _ | with_reducible refine Kp.alloc ?_ _ | with_reducible refine Kp.drew ?_ | with_reducible refine Kp.back (by assumption) ?_))))
      ((first | (go_at_call 12; (with_reducible refine (c_answers _).mono ?_); rintro e w1 ⟨rfl, hk1⟩) | (go_at_call 14; (with_reducible refine (c_Own R T ⟨k, tx, nn, at_, la, ll, lc⟩ _ (HL.out.keep (by (repeat (first | with_reducible exact Kp.refl _ | with_reducible refine Kp.alloc ?_ _ | with_reducible refine Kp.drew ?_ | with_reducible refine Kp.back (by assumption) ?_))))).mono ?_); rintro e w1 ⟨h', rfl, hli, hk1⟩; have LI := Lib.hid (hli.weak (A0_le _)); clear hli) | (go_at_call 13; (with_reducible refine (c_Check R T h' _ (LI.out.keep (by (repeat (first | with_reducible exact Kp.refl _ | with_reducible refine Kp.alloc ?_ _ | with_reducible refine Kp.drew ?_ | with_reducible refine Kp.back (by assumption) ?_)))) (fun y _ => forms_all y.2)).mono ?_); rintro e w1 ⟨rfl, hk1⟩; rw [hvc.out]) | (go_at_call 11; (with_reducible refine (c_rSoundP R T ⟨k, tx, nn, at_, la, ll, lc⟩ _ (HL.out.keep (by (repeat (first | with_reducible exact Kp.refl _ | with_reducible refine Kp.alloc ?_ _ | with_reducible refine Kp.drew ?_ | with_reducible refine Kp.back (by assumption) ?_)))) hz.out).mono ?_); rintro e w1 ⟨rfl, hk1⟩; rw [hc.out]) | (go_at_call 15; (with_reducible refine (c_Sound3 R T h' _ (LI.out.keep (by (repeat (first | with_reducible exact Kp.refl _ | with_reducible refine Kp.alloc ?_ _ | with_reducible refine Kp.drew ?_ | with_reducible refine Kp.back (by assumption) ?_)))) (fun y _ => forms_all y.2)).mono ?_); rintro e w1 ⟨rfl, hk1⟩; rw [hvb.out])))
    all_goals (go_wp2_with fail; go_ret; refine ⟨by first | rfl | (simp; done), ?_⟩; (repeat (first | with_reducible exact Kp.refl _ | with_reducible refine Kp.alloc ?_ _ | with_reducible refine Kp.drew ?_ | with_reducible refine Kp.back (by assumption) ?_)))
set_option maxHeartbeats 6400000 in
set_option maxRecDepth 1000000 in
theorem ts_3_false_false (R : Nat) (T : Nd) (h : Hn) (w : World) (hl : Lies w A0 R T h) (hz0 : sizeN R T ≤ 1048576) (hb0 : sndB (fun k => sortL k == 116) R T = false) (hc0 : sndB (fun k => k == 1) R T = false) :
    Calls Try.prog 3 #[h.val, .int .i64 3] w fun e w' => e = .returned (.bool true) ∧ Kp w w' := by
  have HL := Lib.hid hl
  have hz := Lib.hid hz0
  have hc := Lib.hid hc0
  have hvc := Lib.hid (show soundV (inK [1]) R T = 1 from by rw [snd_V, ← eq_one, hc0]; rfl)
  have hb := Lib.hid hb0
  have hvb := Lib.hid (show soundV tyK R T = 1 from by rw [snd_V, ← eq_t, hb0]; rfl)
  have hby : ∀ h, ((((⟨#[45, 115, 101, 116]⟩ : ByteArray)[3]'h).toNat : Nat) : Int) = 116 := fun _ => rfl
  clear hb0
  clear hl hz0 hc0
  obtain ⟨k, tx, nn, at_, la, ll, lc⟩ := h
  obtain ⟨b0, b1, b2, b3, b4, bs⟩ := boxed (w := w) (h := ⟨k, tx, nn, at_, la, ll, lc⟩) (e := 25) (Kp.refl _)
  simp only at b0 b1 b2 b3 b4
  go_enter Try.func3, Try.ntmps3
  have hkeep := Lib.hid (fun (W' : World) (hk : Kp (w.alloc (.cells #[.int .i64 k, .string tx, .int .u64 nn, .int .i64 at_, .slice la ll lc] 25)) W') => (⟨hk.cellv b0, hk.cellv b1, hk.cellv b2, hk.cellv b3, hk.cellv b4⟩ : (fun w' : World => w'.cell? ⟨w.heap.size, 0, none⟩ = some (.int .i64 k) ∧ w'.cell? ⟨w.heap.size, 1, none⟩ = some (.string tx) ∧ w'.cell? ⟨w.heap.size, 2, none⟩ = some (.int .u64 nn) ∧ w'.cell? ⟨w.heap.size, 3, none⟩ = some (.int .i64 at_) ∧ w'.cell? ⟨w.heap.size, 4, none⟩ = some (.slice la ll lc)) W'))
  go_wp2_with fail
  go_region_held3 (fun w' : World => w'.cell? ⟨w.heap.size, 0, none⟩ = some (.int .i64 k) ∧ w'.cell? ⟨w.heap.size, 1, none⟩ = some (.string tx) ∧ w'.cell? ⟨w.heap.size, 2, none⟩ = some (.int .u64 nn) ∧ w'.cell? ⟨w.heap.size, 3, none⟩ = some (.int .i64 at_) ∧ w'.cell? ⟨w.heap.size, 4, none⟩ = some (.slice la ll lc))
    (first | exact hkeep.out _ (by (repeat (first | with_reducible exact Kp.refl _ | with_reducible refine Kp.alloc ?_ _ | with_reducible refine Kp.drew ?_ | with_reducible refine Kp.back (by assumption) ?_))))
    ((first | (go_at_call 11; (with_reducible refine (c_rSound R T ⟨k, tx, nn, at_, la, ll, lc⟩ _ (HL.out.keep (by (repeat (first | with_reducible exact Kp.refl _ | with_reducible refine Kp.alloc ?_ _ | with_reducible refine Kp.drew ?_ | with_reducible refine Kp.back (by assumption) ?_)))) hz.out 116 (by decide)).mono ?_); rintro e w1 ⟨rfl, hk1⟩; rw [hb.out]; have bb := boxed (w := w) (h := ⟨k, tx, nn, at_, la, ll, lc⟩) (show Kp (w.alloc (.cells #[.int .i64 k, .string tx, .int .u64 nn, .int .i64 at_, .slice la ll lc] 25)) w1 by (repeat (first | with_reducible exact Kp.refl _ | with_reducible refine Kp.alloc ?_ _ | with_reducible refine Kp.drew ?_ | with_reducible refine Kp.back (by assumption) ?_))); simp only at bb; obtain ⟨b0, b1, b2, b3, b4, bs⟩ := bb)))
  all_goals
    go_wp2_with fail
    go_region_held3 (fun w' : World => w'.cell? ⟨w.heap.size, 0, none⟩ = some (.int .i64 k) ∧ w'.cell? ⟨w.heap.size, 1, none⟩ = some (.string tx) ∧ w'.cell? ⟨w.heap.size, 2, none⟩ = some (.int .u64 nn) ∧ w'.cell? ⟨w.heap.size, 3, none⟩ = some (.int .i64 at_) ∧ w'.cell? ⟨w.heap.size, 4, none⟩ = some (.slice la ll lc))
      (first | exact hkeep.out _ (by (repeat (first | with_reducible exact Kp.refl _ | with_reducible refine Kp.alloc ?_ _ | with_reducible refine Kp.drew ?_ | with_reducible refine Kp.back (by assumption) ?_))))
      ((first | (go_at_call 12; (with_reducible refine (c_answers _).mono ?_); rintro e w1 ⟨rfl, hk1⟩) | (go_at_call 14; (with_reducible refine (c_Own R T ⟨k, tx, nn, at_, la, ll, lc⟩ _ (HL.out.keep (by (repeat (first | with_reducible exact Kp.refl _ | with_reducible refine Kp.alloc ?_ _ | with_reducible refine Kp.drew ?_ | with_reducible refine Kp.back (by assumption) ?_))))).mono ?_); rintro e w1 ⟨h', rfl, hli, hk1⟩; have LI := Lib.hid (hli.weak (A0_le _)); clear hli) | (go_at_call 13; (with_reducible refine (c_Check R T h' _ (LI.out.keep (by (repeat (first | with_reducible exact Kp.refl _ | with_reducible refine Kp.alloc ?_ _ | with_reducible refine Kp.drew ?_ | with_reducible refine Kp.back (by assumption) ?_)))) (fun y _ => forms_all y.2)).mono ?_); rintro e w1 ⟨rfl, hk1⟩; rw [hvc.out]) | (go_at_call 11; (with_reducible refine (c_rSoundP R T ⟨k, tx, nn, at_, la, ll, lc⟩ _ (HL.out.keep (by (repeat (first | with_reducible exact Kp.refl _ | with_reducible refine Kp.alloc ?_ _ | with_reducible refine Kp.drew ?_ | with_reducible refine Kp.back (by assumption) ?_)))) hz.out).mono ?_); rintro e w1 ⟨rfl, hk1⟩; rw [hc.out]) | (go_at_call 15; (with_reducible refine (c_Sound3 R T h' _ (LI.out.keep (by (repeat (first | with_reducible exact Kp.refl _ | with_reducible refine Kp.alloc ?_ _ | with_reducible refine Kp.drew ?_ | with_reducible refine Kp.back (by assumption) ?_)))) (fun y _ => forms_all y.2)).mono ?_); rintro e w1 ⟨rfl, hk1⟩; rw [hvb.out])))
    all_goals (go_wp2_with fail; go_ret; refine ⟨by first | rfl | (simp; done), ?_⟩; (repeat (first | with_reducible exact Kp.refl _ | with_reducible refine Kp.alloc ?_ _ | with_reducible refine Kp.drew ?_ | with_reducible refine Kp.back (by assumption) ?_)))
set_option maxHeartbeats 6400000 in
set_option maxRecDepth 1000000 in
theorem ts_lo_true (R : Nat) (T : Nd) (h : Hn) (w : World) (x : Int) (hx : x < 1) (hl : Lies w A0 R T h) (hz0 : sizeN R T ≤ 1048576) (hc0 : sndB (fun k => k == 1) R T = true) :
    Calls Try.prog 3 #[h.val, .int .i64 x] w fun e w' => e = .returned (.bool true) ∧ Kp w w' := by
  have HL := Lib.hid hl
  have hz := Lib.hid hz0
  have hc := Lib.hid hc0
  have hvc := Lib.hid (show soundV (inK [1]) R T = 0 from by rw [snd_V, ← eq_one, hc0]; rfl)
  have dd : decide ((1 : Int) ≤ x) = false := decide_eq_false (by omega)
  have q1 : x ≠ 1 := by omega
  have q2 : x ≠ 2 := by omega
  have q3 : x ≠ 3 := by omega
  clear hl hz0 hc0
  obtain ⟨k, tx, nn, at_, la, ll, lc⟩ := h
  obtain ⟨b0, b1, b2, b3, b4, bs⟩ := boxed (w := w) (h := ⟨k, tx, nn, at_, la, ll, lc⟩) (e := 25) (Kp.refl _)
  simp only at b0 b1 b2 b3 b4
  go_enter Try.func3, Try.ntmps3
  have hkeep := Lib.hid (fun (W' : World) (hk : Kp (w.alloc (.cells #[.int .i64 k, .string tx, .int .u64 nn, .int .i64 at_, .slice la ll lc] 25)) W') => (⟨hk.cellv b0, hk.cellv b1, hk.cellv b2, hk.cellv b3, hk.cellv b4⟩ : (fun w' : World => w'.cell? ⟨w.heap.size, 0, none⟩ = some (.int .i64 k) ∧ w'.cell? ⟨w.heap.size, 1, none⟩ = some (.string tx) ∧ w'.cell? ⟨w.heap.size, 2, none⟩ = some (.int .u64 nn) ∧ w'.cell? ⟨w.heap.size, 3, none⟩ = some (.int .i64 at_) ∧ w'.cell? ⟨w.heap.size, 4, none⟩ = some (.slice la ll lc)) W'))
  go_wp2_with fail
  all_goals
    go_wp2_with fail
    go_region_held3 (fun w' : World => w'.cell? ⟨w.heap.size, 0, none⟩ = some (.int .i64 k) ∧ w'.cell? ⟨w.heap.size, 1, none⟩ = some (.string tx) ∧ w'.cell? ⟨w.heap.size, 2, none⟩ = some (.int .u64 nn) ∧ w'.cell? ⟨w.heap.size, 3, none⟩ = some (.int .i64 at_) ∧ w'.cell? ⟨w.heap.size, 4, none⟩ = some (.slice la ll lc))
      (first | exact hkeep.out _ (by (repeat (first | with_reducible exact Kp.refl _ | with_reducible refine Kp.alloc ?_ _ | with_reducible refine Kp.drew ?_ | with_reducible refine Kp.back (by assumption) ?_))))
      ((first | (go_at_call 12; (with_reducible refine (c_answers _).mono ?_); rintro e w1 ⟨rfl, hk1⟩) | (go_at_call 14; (with_reducible refine (c_Own R T ⟨k, tx, nn, at_, la, ll, lc⟩ _ (HL.out.keep (by (repeat (first | with_reducible exact Kp.refl _ | with_reducible refine Kp.alloc ?_ _ | with_reducible refine Kp.drew ?_ | with_reducible refine Kp.back (by assumption) ?_))))).mono ?_); rintro e w1 ⟨h', rfl, hli, hk1⟩; have LI := Lib.hid (hli.weak (A0_le _)); clear hli) | (go_at_call 13; (with_reducible refine (c_Check R T h' _ (LI.out.keep (by (repeat (first | with_reducible exact Kp.refl _ | with_reducible refine Kp.alloc ?_ _ | with_reducible refine Kp.drew ?_ | with_reducible refine Kp.back (by assumption) ?_)))) (fun y _ => forms_all y.2)).mono ?_); rintro e w1 ⟨rfl, hk1⟩; rw [hvc.out]) | (go_at_call 11; (with_reducible refine (c_rSoundP R T ⟨k, tx, nn, at_, la, ll, lc⟩ _ (HL.out.keep (by (repeat (first | with_reducible exact Kp.refl _ | with_reducible refine Kp.alloc ?_ _ | with_reducible refine Kp.drew ?_ | with_reducible refine Kp.back (by assumption) ?_)))) hz.out).mono ?_); rintro e w1 ⟨rfl, hk1⟩; rw [hc.out]) | (go_at_call 15; (with_reducible refine (c_SoundX h' x _ q1 q2 q3).mono ?_); rintro e w1 ⟨rfl, hk1⟩)))
    all_goals (go_wp2_with fail; go_ret; refine ⟨by first | rfl | (simp; done), ?_⟩; (repeat (first | with_reducible exact Kp.refl _ | with_reducible refine Kp.alloc ?_ _ | with_reducible refine Kp.drew ?_ | with_reducible refine Kp.back (by assumption) ?_)))
set_option maxHeartbeats 6400000 in
set_option maxRecDepth 1000000 in
theorem ts_hi_true (R : Nat) (T : Nd) (h : Hn) (w : World) (x : Int) (hx : 3 < x) (hl : Lies w A0 R T h) (hz0 : sizeN R T ≤ 1048576) (hc0 : sndB (fun k => k == 1) R T = true) :
    Calls Try.prog 3 #[h.val, .int .i64 x] w fun e w' => e = .returned (.bool true) ∧ Kp w w' := by
  have HL := Lib.hid hl
  have hz := Lib.hid hz0
  have hc := Lib.hid hc0
  have hvc := Lib.hid (show soundV (inK [1]) R T = 0 from by rw [snd_V, ← eq_one, hc0]; rfl)
  have dd : decide ((1 : Int) ≤ x) = true := decide_eq_true (by omega)
  have de : decide (x ≤ 3) = false := decide_eq_false (by omega)
  have q1 : x ≠ 1 := by omega
  have q2 : x ≠ 2 := by omega
  have q3 : x ≠ 3 := by omega
  clear hl hz0 hc0
  obtain ⟨k, tx, nn, at_, la, ll, lc⟩ := h
  obtain ⟨b0, b1, b2, b3, b4, bs⟩ := boxed (w := w) (h := ⟨k, tx, nn, at_, la, ll, lc⟩) (e := 25) (Kp.refl _)
  simp only at b0 b1 b2 b3 b4
  go_enter Try.func3, Try.ntmps3
  have hkeep := Lib.hid (fun (W' : World) (hk : Kp (w.alloc (.cells #[.int .i64 k, .string tx, .int .u64 nn, .int .i64 at_, .slice la ll lc] 25)) W') => (⟨hk.cellv b0, hk.cellv b1, hk.cellv b2, hk.cellv b3, hk.cellv b4⟩ : (fun w' : World => w'.cell? ⟨w.heap.size, 0, none⟩ = some (.int .i64 k) ∧ w'.cell? ⟨w.heap.size, 1, none⟩ = some (.string tx) ∧ w'.cell? ⟨w.heap.size, 2, none⟩ = some (.int .u64 nn) ∧ w'.cell? ⟨w.heap.size, 3, none⟩ = some (.int .i64 at_) ∧ w'.cell? ⟨w.heap.size, 4, none⟩ = some (.slice la ll lc)) W'))
  go_wp2_with fail
  all_goals
    go_wp2_with fail
    go_region_held3 (fun w' : World => w'.cell? ⟨w.heap.size, 0, none⟩ = some (.int .i64 k) ∧ w'.cell? ⟨w.heap.size, 1, none⟩ = some (.string tx) ∧ w'.cell? ⟨w.heap.size, 2, none⟩ = some (.int .u64 nn) ∧ w'.cell? ⟨w.heap.size, 3, none⟩ = some (.int .i64 at_) ∧ w'.cell? ⟨w.heap.size, 4, none⟩ = some (.slice la ll lc))
      (first | exact hkeep.out _ (by (repeat (first | with_reducible exact Kp.refl _ | with_reducible refine Kp.alloc ?_ _ | with_reducible refine Kp.drew ?_ | with_reducible refine Kp.back (by assumption) ?_))))
      ((first | (go_at_call 12; (with_reducible refine (c_answers _).mono ?_); rintro e w1 ⟨rfl, hk1⟩) | (go_at_call 14; (with_reducible refine (c_Own R T ⟨k, tx, nn, at_, la, ll, lc⟩ _ (HL.out.keep (by (repeat (first | with_reducible exact Kp.refl _ | with_reducible refine Kp.alloc ?_ _ | with_reducible refine Kp.drew ?_ | with_reducible refine Kp.back (by assumption) ?_))))).mono ?_); rintro e w1 ⟨h', rfl, hli, hk1⟩; have LI := Lib.hid (hli.weak (A0_le _)); clear hli) | (go_at_call 13; (with_reducible refine (c_Check R T h' _ (LI.out.keep (by (repeat (first | with_reducible exact Kp.refl _ | with_reducible refine Kp.alloc ?_ _ | with_reducible refine Kp.drew ?_ | with_reducible refine Kp.back (by assumption) ?_)))) (fun y _ => forms_all y.2)).mono ?_); rintro e w1 ⟨rfl, hk1⟩; rw [hvc.out]) | (go_at_call 11; (with_reducible refine (c_rSoundP R T ⟨k, tx, nn, at_, la, ll, lc⟩ _ (HL.out.keep (by (repeat (first | with_reducible exact Kp.refl _ | with_reducible refine Kp.alloc ?_ _ | with_reducible refine Kp.drew ?_ | with_reducible refine Kp.back (by assumption) ?_)))) hz.out).mono ?_); rintro e w1 ⟨rfl, hk1⟩; rw [hc.out]) | (go_at_call 15; (with_reducible refine (c_SoundX h' x _ q1 q2 q3).mono ?_); rintro e w1 ⟨rfl, hk1⟩)))
    all_goals (go_wp2_with fail; go_ret; refine ⟨by first | rfl | (simp; done), ?_⟩; (repeat (first | with_reducible exact Kp.refl _ | with_reducible refine Kp.alloc ?_ _ | with_reducible refine Kp.drew ?_ | with_reducible refine Kp.back (by assumption) ?_)))
set_option maxHeartbeats 6400000 in
set_option maxRecDepth 1000000 in
theorem ts_lo_false (R : Nat) (T : Nd) (h : Hn) (w : World) (x : Int) (hx : x < 1) (hl : Lies w A0 R T h) (hz0 : sizeN R T ≤ 1048576) (hc0 : sndB (fun k => k == 1) R T = false) :
    Calls Try.prog 3 #[h.val, .int .i64 x] w fun e w' => e = .returned (.bool true) ∧ Kp w w' := by
  have HL := Lib.hid hl
  have hz := Lib.hid hz0
  have hc := Lib.hid hc0
  have hvc := Lib.hid (show soundV (inK [1]) R T = 1 from by rw [snd_V, ← eq_one, hc0]; rfl)
  have dd : decide ((1 : Int) ≤ x) = false := decide_eq_false (by omega)
  have q1 : x ≠ 1 := by omega
  have q2 : x ≠ 2 := by omega
  have q3 : x ≠ 3 := by omega
  clear hl hz0 hc0
  obtain ⟨k, tx, nn, at_, la, ll, lc⟩ := h
  obtain ⟨b0, b1, b2, b3, b4, bs⟩ := boxed (w := w) (h := ⟨k, tx, nn, at_, la, ll, lc⟩) (e := 25) (Kp.refl _)
  simp only at b0 b1 b2 b3 b4
  go_enter Try.func3, Try.ntmps3
  have hkeep := Lib.hid (fun (W' : World) (hk : Kp (w.alloc (.cells #[.int .i64 k, .string tx, .int .u64 nn, .int .i64 at_, .slice la ll lc] 25)) W') => (⟨hk.cellv b0, hk.cellv b1, hk.cellv b2, hk.cellv b3, hk.cellv b4⟩ : (fun w' : World => w'.cell? ⟨w.heap.size, 0, none⟩ = some (.int .i64 k) ∧ w'.cell? ⟨w.heap.size, 1, none⟩ = some (.string tx) ∧ w'.cell? ⟨w.heap.size, 2, none⟩ = some (.int .u64 nn) ∧ w'.cell? ⟨w.heap.size, 3, none⟩ = some (.int .i64 at_) ∧ w'.cell? ⟨w.heap.size, 4, none⟩ = some (.slice la ll lc)) W'))
  go_wp2_with fail
  all_goals
    go_wp2_with fail
    go_region_held3 (fun w' : World => w'.cell? ⟨w.heap.size, 0, none⟩ = some (.int .i64 k) ∧ w'.cell? ⟨w.heap.size, 1, none⟩ = some (.string tx) ∧ w'.cell? ⟨w.heap.size, 2, none⟩ = some (.int .u64 nn) ∧ w'.cell? ⟨w.heap.size, 3, none⟩ = some (.int .i64 at_) ∧ w'.cell? ⟨w.heap.size, 4, none⟩ = some (.slice la ll lc))
      (first | exact hkeep.out _ (by (repeat (first | with_reducible exact Kp.refl _ | with_reducible refine Kp.alloc ?_ _ | with_reducible refine Kp.drew ?_ | with_reducible refine Kp.back (by assumption) ?_))))
      ((first | (go_at_call 12; (with_reducible refine (c_answers _).mono ?_); rintro e w1 ⟨rfl, hk1⟩) | (go_at_call 14; (with_reducible refine (c_Own R T ⟨k, tx, nn, at_, la, ll, lc⟩ _ (HL.out.keep (by (repeat (first | with_reducible exact Kp.refl _ | with_reducible refine Kp.alloc ?_ _ | with_reducible refine Kp.drew ?_ | with_reducible refine Kp.back (by assumption) ?_))))).mono ?_); rintro e w1 ⟨h', rfl, hli, hk1⟩; have LI := Lib.hid (hli.weak (A0_le _)); clear hli) | (go_at_call 13; (with_reducible refine (c_Check R T h' _ (LI.out.keep (by (repeat (first | with_reducible exact Kp.refl _ | with_reducible refine Kp.alloc ?_ _ | with_reducible refine Kp.drew ?_ | with_reducible refine Kp.back (by assumption) ?_)))) (fun y _ => forms_all y.2)).mono ?_); rintro e w1 ⟨rfl, hk1⟩; rw [hvc.out]) | (go_at_call 11; (with_reducible refine (c_rSoundP R T ⟨k, tx, nn, at_, la, ll, lc⟩ _ (HL.out.keep (by (repeat (first | with_reducible exact Kp.refl _ | with_reducible refine Kp.alloc ?_ _ | with_reducible refine Kp.drew ?_ | with_reducible refine Kp.back (by assumption) ?_)))) hz.out).mono ?_); rintro e w1 ⟨rfl, hk1⟩; rw [hc.out]) | (go_at_call 15; (with_reducible refine (c_SoundX h' x _ q1 q2 q3).mono ?_); rintro e w1 ⟨rfl, hk1⟩)))
    all_goals (go_wp2_with fail; go_ret; refine ⟨by first | rfl | (simp; done), ?_⟩; (repeat (first | with_reducible exact Kp.refl _ | with_reducible refine Kp.alloc ?_ _ | with_reducible refine Kp.drew ?_ | with_reducible refine Kp.back (by assumption) ?_)))
set_option maxHeartbeats 6400000 in
set_option maxRecDepth 1000000 in
theorem ts_hi_false (R : Nat) (T : Nd) (h : Hn) (w : World) (x : Int) (hx : 3 < x) (hl : Lies w A0 R T h) (hz0 : sizeN R T ≤ 1048576) (hc0 : sndB (fun k => k == 1) R T = false) :
    Calls Try.prog 3 #[h.val, .int .i64 x] w fun e w' => e = .returned (.bool true) ∧ Kp w w' := by
  have HL := Lib.hid hl
  have hz := Lib.hid hz0
  have hc := Lib.hid hc0
  have hvc := Lib.hid (show soundV (inK [1]) R T = 1 from by rw [snd_V, ← eq_one, hc0]; rfl)
  have dd : decide ((1 : Int) ≤ x) = true := decide_eq_true (by omega)
  have de : decide (x ≤ 3) = false := decide_eq_false (by omega)
  have q1 : x ≠ 1 := by omega
  have q2 : x ≠ 2 := by omega
  have q3 : x ≠ 3 := by omega
  clear hl hz0 hc0
  obtain ⟨k, tx, nn, at_, la, ll, lc⟩ := h
  obtain ⟨b0, b1, b2, b3, b4, bs⟩ := boxed (w := w) (h := ⟨k, tx, nn, at_, la, ll, lc⟩) (e := 25) (Kp.refl _)
  simp only at b0 b1 b2 b3 b4
  go_enter Try.func3, Try.ntmps3
  have hkeep := Lib.hid (fun (W' : World) (hk : Kp (w.alloc (.cells #[.int .i64 k, .string tx, .int .u64 nn, .int .i64 at_, .slice la ll lc] 25)) W') => (⟨hk.cellv b0, hk.cellv b1, hk.cellv b2, hk.cellv b3, hk.cellv b4⟩ : (fun w' : World => w'.cell? ⟨w.heap.size, 0, none⟩ = some (.int .i64 k) ∧ w'.cell? ⟨w.heap.size, 1, none⟩ = some (.string tx) ∧ w'.cell? ⟨w.heap.size, 2, none⟩ = some (.int .u64 nn) ∧ w'.cell? ⟨w.heap.size, 3, none⟩ = some (.int .i64 at_) ∧ w'.cell? ⟨w.heap.size, 4, none⟩ = some (.slice la ll lc)) W'))
  go_wp2_with fail
  all_goals
    go_wp2_with fail
    go_region_held3 (fun w' : World => w'.cell? ⟨w.heap.size, 0, none⟩ = some (.int .i64 k) ∧ w'.cell? ⟨w.heap.size, 1, none⟩ = some (.string tx) ∧ w'.cell? ⟨w.heap.size, 2, none⟩ = some (.int .u64 nn) ∧ w'.cell? ⟨w.heap.size, 3, none⟩ = some (.int .i64 at_) ∧ w'.cell? ⟨w.heap.size, 4, none⟩ = some (.slice la ll lc))
      (first | exact hkeep.out _ (by (repeat (first | with_reducible exact Kp.refl _ | with_reducible refine Kp.alloc ?_ _ | with_reducible refine Kp.drew ?_ | with_reducible refine Kp.back (by assumption) ?_))))
      ((first | (go_at_call 12; (with_reducible refine (c_answers _).mono ?_); rintro e w1 ⟨rfl, hk1⟩) | (go_at_call 14; (with_reducible refine (c_Own R T ⟨k, tx, nn, at_, la, ll, lc⟩ _ (HL.out.keep (by (repeat (first | with_reducible exact Kp.refl _ | with_reducible refine Kp.alloc ?_ _ | with_reducible refine Kp.drew ?_ | with_reducible refine Kp.back (by assumption) ?_))))).mono ?_); rintro e w1 ⟨h', rfl, hli, hk1⟩; have LI := Lib.hid (hli.weak (A0_le _)); clear hli) | (go_at_call 13; (with_reducible refine (c_Check R T h' _ (LI.out.keep (by (repeat (first | with_reducible exact Kp.refl _ | with_reducible refine Kp.alloc ?_ _ | with_reducible refine Kp.drew ?_ | with_reducible refine Kp.back (by assumption) ?_)))) (fun y _ => forms_all y.2)).mono ?_); rintro e w1 ⟨rfl, hk1⟩; rw [hvc.out]) | (go_at_call 11; (with_reducible refine (c_rSoundP R T ⟨k, tx, nn, at_, la, ll, lc⟩ _ (HL.out.keep (by (repeat (first | with_reducible exact Kp.refl _ | with_reducible refine Kp.alloc ?_ _ | with_reducible refine Kp.drew ?_ | with_reducible refine Kp.back (by assumption) ?_)))) hz.out).mono ?_); rintro e w1 ⟨rfl, hk1⟩; rw [hc.out]) | (go_at_call 15; (with_reducible refine (c_SoundX h' x _ q1 q2 q3).mono ?_); rintro e w1 ⟨rfl, hk1⟩)))
    all_goals (go_wp2_with fail; go_ret; refine ⟨by first | rfl | (simp; done), ?_⟩; (repeat (first | with_reducible exact Kp.refl _ | with_reducible refine Kp.alloc ?_ _ | with_reducible refine Kp.drew ?_ | with_reducible refine Kp.back (by assumption) ?_)))
theorem law_TreeSound (R : Nat) (T : Nd) (h : Hn) (w : World) (x : Int) (hl : Lies w A0 R T h) (hz : sizeN R T ≤ 1048576) :
    Calls Try.prog 3 #[h.val, .int .i64 x] w fun e w' => e = .returned (.bool true) ∧ Kp w w' := by
  have hx : x < 1 ∨ x = 1 ∨ x = 2 ∨ x = 3 ∨ 3 < x := by omega
  cases hc : sndB (fun k => k == 1) R T with
  | true =>
    rcases hx with hx | rfl | rfl | rfl | hx
    · exact ts_lo_true R T h w x hx hl hz hc
    · cases hb : sndB (fun k => sortL k == 115) R T with
      | true => exact ts_1_true_true R T h w hl hz hb hc
      | false => exact ts_1_false_true R T h w hl hz hb hc
    · cases hb : sndB (fun k => sortL k == 101) R T with
      | true => exact ts_2_true_true R T h w hl hz hb hc
      | false => exact ts_2_false_true R T h w hl hz hb hc
    · cases hb : sndB (fun k => sortL k == 116) R T with
      | true => exact ts_3_true_true R T h w hl hz hb hc
      | false => exact ts_3_false_true R T h w hl hz hb hc
    · exact ts_hi_true R T h w x hx hl hz hc
  | false =>
    rcases hx with hx | rfl | rfl | rfl | hx
    · exact ts_lo_false R T h w x hx hl hz hc
    · cases hb : sndB (fun k => sortL k == 115) R T with
      | true => exact ts_1_true_false R T h w hl hz hb hc
      | false => exact ts_1_false_false R T h w hl hz hb hc
    · cases hb : sndB (fun k => sortL k == 101) R T with
      | true => exact ts_2_true_false R T h w hl hz hb hc
      | false => exact ts_2_false_false R T h w hl hz hb hc
    · cases hb : sndB (fun k => sortL k == 116) R T with
      | true => exact ts_3_true_false R T h w hl hz hb hc
      | false => exact ts_3_false_false R T h w hl hz hb hc
    · exact ts_hi_false R T h w x hx hl hz hc
end Go.Proofs.Ytefanekfelokmaa
