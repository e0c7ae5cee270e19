/- The walk of TreeSizes. Condition: the node lies in memory, of no more than a million nodes or so. -/
import Derived.Test.YtefanekfelokmaaBU
import Derived.Test.YtefanekfelokmaaO
import Derived.Test.YtefanekfelokmaaC2
namespace Go.Proofs.Ytefanekfelokmaa
open Go.RowKit
set_option linter.unusedVariables false
set_option linter.unusedSimpArgs false
set_option maxHeartbeats 6400000 in
set_option maxRecDepth 1000000 in
theorem law_sizes (R : Nat) (T : Nd) (h : Hn) (w : World) (hl : Lies w A0 R T h) (hd : depthN R T ≤ 1099511627776) :
    Calls Try.prog 4 #[h.val] w fun e w' => e = .returned (.bool true) ∧ Kp w w' := by
  have HL := Lib.hid hl
  have hdd := Lib.hid hd
  have hmd := Lib.hid (maxD_depth hl hd)
  have hfs := Lib.hid (flat_size R 0 T)
  clear hl hd
  obtain ⟨k, tx, nn, at_, la, ll, lc⟩ := h
  obtain ⟨b0, b1, b2, b3, b4, bs⟩ := boxed (w := w) (h := ⟨k, tx, nn, at_, la, ll, lc⟩) (e := 25) (Kp.refl _)
  simp only at b0 b1 b2 b3 b4
  have hkeep := Lib.hid (fun (W' : World) (hk : Kp (w.alloc (.cells #[.int .i64 k, .string tx, .int .u64 nn, .int .i64 at_, .slice la ll lc] 25)) W') => (⟨hk.cellv b0, hk.cellv b1, hk.cellv b2, hk.cellv b3, hk.cellv b4⟩ : (fun w' : World => w'.cell? ⟨w.heap.size, 0, none⟩ = some (.int .i64 k) ∧ w'.cell? ⟨w.heap.size, 1, none⟩ = some (.string tx) ∧ w'.cell? ⟨w.heap.size, 2, none⟩ = some (.int .u64 nn) ∧ w'.cell? ⟨w.heap.size, 3, none⟩ = some (.int .i64 at_) ∧ w'.cell? ⟨w.heap.size, 4, none⟩ = some (.slice la ll lc)) W'))
  go_enter Try.func4, Try.ntmps4
  go_wp2_with fail
  go_region_held3 (fun w' : World => w'.cell? ⟨w.heap.size, 0, none⟩ = some (.int .i64 k) ∧ w'.cell? ⟨w.heap.size, 1, none⟩ = some (.string tx) ∧ w'.cell? ⟨w.heap.size, 2, none⟩ = some (.int .u64 nn) ∧ w'.cell? ⟨w.heap.size, 3, none⟩ = some (.int .i64 at_) ∧ w'.cell? ⟨w.heap.size, 4, none⟩ = some (.slice la ll lc))
    (first | exact hkeep.out _ (by (repeat (first | with_reducible exact Kp.refl _ | with_reducible refine Kp.alloc ?_ _ | with_reducible refine Kp.drew ?_ | with_reducible refine Kp.back (by assumption) ?_))))
    ((first | (go_at_call 12; (with_reducible refine (c_answers _).mono ?_); rintro e w1 ⟨rfl, hk1⟩) | (go_at_call 14; (with_reducible refine (c_Own R T ⟨k, tx, nn, at_, la, ll, lc⟩ _ (HL.out.keep (by (repeat (first | with_reducible exact Kp.refl _ | with_reducible refine Kp.alloc ?_ _ | with_reducible refine Kp.drew ?_ | with_reducible refine Kp.back (by assumption) ?_))))).mono ?_); rintro e w1 ⟨h', rfl, hli, hk1⟩; have LI := Lib.hid (hli.weak (A0_le _)); clear hli) | (go_at_call 16; (with_reducible refine (c_Size R T h' _ (LI.out.keep (by (repeat (first | with_reducible exact Kp.refl _ | with_reducible refine Kp.alloc ?_ _ | with_reducible refine Kp.drew ?_ | with_reducible refine Kp.back (by assumption) ?_))))).mono ?_); rintro e w1 ⟨rfl, hk1⟩; rw [hfs.out]) | (go_at_call 18; (with_reducible refine (c_Depth R T h' _ (LI.out.keep (by (repeat (first | with_reducible exact Kp.refl _ | with_reducible refine Kp.alloc ?_ _ | with_reducible refine Kp.drew ?_ | with_reducible refine Kp.back (by assumption) ?_))))).mono ?_); rintro e w1 ⟨rfl, hk1⟩; rw [hmd.out]) | (go_at_call 17; (with_reducible refine (c_rSize R T ⟨k, tx, nn, at_, la, ll, lc⟩ _ (HL.out.keep (by (repeat (first | with_reducible exact Kp.refl _ | with_reducible refine Kp.alloc ?_ _ | with_reducible refine Kp.drew ?_ | with_reducible refine Kp.back (by assumption) ?_))))).mono ?_); rintro e w1 ⟨rfl, hk1⟩) | (go_at_call 19; (with_reducible refine (c_rDepth R T ⟨k, tx, nn, at_, la, ll, lc⟩ _ (HL.out.keep (by (repeat (first | with_reducible exact Kp.refl _ | with_reducible refine Kp.alloc ?_ _ | with_reducible refine Kp.drew ?_ | with_reducible refine Kp.back (by assumption) ?_)))) hdd.out).mono ?_); rintro e w1 ⟨rfl, hk1⟩)))
  go_wp2_with fail
  go_ret
  refine ⟨by first | rfl | (simp; done), ?_⟩
  (repeat (first | with_reducible exact Kp.refl _ | with_reducible refine Kp.alloc ?_ _ | with_reducible refine Kp.drew ?_ | with_reducible refine Kp.back (by assumption) ?_))
theorem law_TreeSizes (R : Nat) (T : Nd) (h : Hn) (w : World) (hl : Lies w A0 R T h) (hz : sizeN R T ≤ 1048576) :
    Calls Try.prog 4 #[h.val] w fun e w' => e = .returned (.bool true) ∧ Kp w w' :=
  law_sizes R T h w hl (by have := depth_size R T; omega)
end Go.Proofs.Ytefanekfelokmaa
