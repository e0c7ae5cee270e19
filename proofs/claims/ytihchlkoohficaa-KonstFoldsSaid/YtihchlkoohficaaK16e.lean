/- What Fold of the reference answers, by each operator but the product. Conditions: a size is between 0 and 2 to the 64. -/
import Derived.Test.YtihchlkoohficaaK14
import Derived.Test.YtihchlkoohficaaK15
namespace Go.Proofs.Ytihchlkoohficaa
open Go.RowKit Plain
set_option linter.unusedVariables false
set_option linter.unusedSimpArgs false
set_option maxRecDepth 100000 in
set_option maxHeartbeats 6400000 in
theorem rf_mul0 (a : Bool) (m : Int) (b : Bool) (n : Int) (w : World) (hm : 0 ≤ m ∧ m < 18446744073709551616) (hn : 0 ≤ n ∧ n < 18446744073709551616) (ka : kc a m = true) (kb : kc b n = true) (h0 : m = 0) : Calls Try.prog 10 #[.string ⟨#[42]⟩, .agg #[.bool a, .int .u64 m], .agg #[.bool b, .int .u64 n]] w fun e w' => e = .returned (.tuple #[.agg #[.bool (rn (tv (!(a == b)) (IntKind.u64.wrap (m * n)) (!false))), .int .u64 (rs (tv (!(a == b)) (IntKind.u64.wrap (m * n)) (!false)))], .int .i64 (re (tv (!(a == b)) (IntKind.u64.wrap (m * n)) (!false)))]) ∧ Kp w w' := by
  have HM := Lib.hid hm
  have HN := Lib.hid hn
  have hop : isop ⟨#[42]⟩ = true := by simp [isop, ByteArray.toList_eq]
  have hz : (m != 0) = false := by simp [h0]
  clear h0
  clear hm hn
  go_enter Try.func10, Try.ntmps10
  go_wp2_with (first | ((go_at_call 25; with_reducible refine (c_rSign _ _).mono ?_; rintro e w1 ⟨rfl, rfl⟩)) | ((go_at_call 19; with_reducible refine (c_Const a m _ HM.out.1).mono ?_; rintro e w1 ⟨rfl, hk⟩; have hc00 := keepc hk (b := w.heap.size) (o := 0) (v := .bool a) (by first | assumption | (simp [go_sem]; done) | (simp [go_sem]; assumption)); have hc01 := keepc hk (b := w.heap.size) (o := 1) (v := .int .u64 m) (by first | assumption | (simp [go_sem]; done) | (simp [go_sem]; assumption)); have hf00 : w1.frozen? ⟨w.heap.size, 0, none⟩ = false := (by rw [hk.frozen]; first | assumption | (simp [go_sem]; done) | (simp [go_sem]; assumption)); have hf01 : w1.frozen? ⟨w.heap.size, 1, none⟩ = false := (by rw [hk.frozen]; first | assumption | (simp [go_sem]; done) | (simp [go_sem]; assumption)); have hc10 := keepc hk (b := w.heap.size + 1) (o := 0) (v := .bool b) (by first | assumption | (simp [go_sem]; done) | (simp [go_sem]; assumption)); have hc11 := keepc hk (b := w.heap.size + 1) (o := 1) (v := .int .u64 n) (by first | assumption | (simp [go_sem]; done) | (simp [go_sem]; assumption)); have hf10 : w1.frozen? ⟨w.heap.size + 1, 0, none⟩ = false := (by rw [hk.frozen]; first | assumption | (simp [go_sem]; done) | (simp [go_sem]; assumption)); have hf11 : w1.frozen? ⟨w.heap.size + 1, 1, none⟩ = false := (by rw [hk.frozen]; first | assumption | (simp [go_sem]; done) | (simp [go_sem]; assumption)); have hc20 := keepc hk (b := w.heap.size + 1 + 1) (o := 0) (v := .bool false) (by first | assumption | (simp [go_sem]; done) | (simp [go_sem]; assumption)); have hc21 := keepc hk (b := w.heap.size + 1 + 1) (o := 1) (v := .int .u64 0) (by first | assumption | (simp [go_sem]; done) | (simp [go_sem]; assumption)); have hf20 : w1.frozen? ⟨w.heap.size + 1 + 1, 0, none⟩ = false := (by rw [hk.frozen]; first | assumption | (simp [go_sem]; done) | (simp [go_sem]; assumption)); have hf21 : w1.frozen? ⟨w.heap.size + 1 + 1, 1, none⟩ = false := (by rw [hk.frozen]; first | assumption | (simp [go_sem]; done) | (simp [go_sem]; assumption)))) | ((go_at_call 19; with_reducible refine (c_Const b n _ HN.out.1).mono ?_; rintro e w1 ⟨rfl, hk⟩; have hc00 := keepc hk (b := w.heap.size) (o := 0) (v := .bool a) (by first | assumption | (simp [go_sem]; done) | (simp [go_sem]; assumption)); have hc01 := keepc hk (b := w.heap.size) (o := 1) (v := .int .u64 m) (by first | assumption | (simp [go_sem]; done) | (simp [go_sem]; assumption)); have hf00 : w1.frozen? ⟨w.heap.size, 0, none⟩ = false := (by rw [hk.frozen]; first | assumption | (simp [go_sem]; done) | (simp [go_sem]; assumption)); have hf01 : w1.frozen? ⟨w.heap.size, 1, none⟩ = false := (by rw [hk.frozen]; first | assumption | (simp [go_sem]; done) | (simp [go_sem]; assumption)); have hc10 := keepc hk (b := w.heap.size + 1) (o := 0) (v := .bool b) (by first | assumption | (simp [go_sem]; done) | (simp [go_sem]; assumption)); have hc11 := keepc hk (b := w.heap.size + 1) (o := 1) (v := .int .u64 n) (by first | assumption | (simp [go_sem]; done) | (simp [go_sem]; assumption)); have hf10 : w1.frozen? ⟨w.heap.size + 1, 0, none⟩ = false := (by rw [hk.frozen]; first | assumption | (simp [go_sem]; done) | (simp [go_sem]; assumption)); have hf11 : w1.frozen? ⟨w.heap.size + 1, 1, none⟩ = false := (by rw [hk.frozen]; first | assumption | (simp [go_sem]; done) | (simp [go_sem]; assumption)); have hc20 := keepc hk (b := w.heap.size + 1 + 1) (o := 0) (v := .bool false) (by first | assumption | (simp [go_sem]; done) | (simp [go_sem]; assumption)); have hc21 := keepc hk (b := w.heap.size + 1 + 1) (o := 1) (v := .int .u64 0) (by first | assumption | (simp [go_sem]; done) | (simp [go_sem]; assumption)); have hf20 : w1.frozen? ⟨w.heap.size + 1 + 1, 0, none⟩ = false := (by rw [hk.frozen]; first | assumption | (simp [go_sem]; done) | (simp [go_sem]; assumption)); have hf21 : w1.frozen? ⟨w.heap.size + 1 + 1, 1, none⟩ = false := (by rw [hk.frozen]; first | assumption | (simp [go_sem]; done) | (simp [go_sem]; assumption)))))
  (try skip)
  refine wp_region_held_drew (S := fun w'' => w''.cell? ⟨w.heap.size, 0, none⟩ = some (.bool a) ∧ w''.cell? ⟨w.heap.size, 1, none⟩ = some (.int .u64 m) ∧ w''.cell? ⟨w.heap.size + 1, 0, none⟩ = some (.bool b) ∧ w''.cell? ⟨w.heap.size + 1, 1, none⟩ = some (.int .u64 n)) (by kernel_rfl) (by first | exact ⟨by assumption, by assumption, by assumption, by assumption⟩ | (simp [go_sem]; exact ⟨by assumption, by assumption, by assumption, by assumption⟩)) (fun hHeld0 => ?_)
  refine wpAnyH_take (i := 0) (oi := { dst := some 58, op := Op.fieldAddr 24 (Operand.tmp 4) 0, type := 0, pos := "ref.go:273", after := #[], guard := none }) (v := ?_) rfl (by kernel_rfl) (by kernel_rfl) (by kernel_rfl) (fun _ _ _ h => h) (Or.inl ⟨by rfl, ?_⟩) (by assumption) ?_
  rotate_left
  · (intro wz hSw; (try dsimp only at hSw); go_simp; first | done | with_reducible rfl)
  try simp only [Act.put, List.setIfInBounds_toArray, List.set_cons_zero, List.set_cons_succ]
  refine wpAnyH_take (i := 1) (oi := { dst := some 59, op := Op.load 4 (Operand.tmp 58), type := 4, pos := "ref.go:273", after := #[{ on := 0, ground := Ground.data }], guard := none }) (v := ?_) rfl (by kernel_rfl) (by kernel_rfl) (by kernel_rfl) (fun _ _ _ h => h) (Or.inl ⟨by rfl, ?_⟩) (by assumption) ?_
  rotate_left
  · (intro wz hSw; (try dsimp only at hSw); go_simp; first | done | with_reducible rfl)
  try simp only [Act.put, List.setIfInBounds_toArray, List.set_cons_zero, List.set_cons_succ]
  refine wpAnyH_take (i := 2) (oi := { dst := some 60, op := Op.fieldAddr 24 (Operand.tmp 5) 0, type := 0, pos := "ref.go:273", after := #[], guard := none }) (v := ?_) rfl (by kernel_rfl) (by kernel_rfl) (by kernel_rfl) (fun _ _ _ h => h) (Or.inl ⟨by rfl, ?_⟩) (by assumption) ?_
  rotate_left
  · (intro wz hSw; (try dsimp only at hSw); go_simp; first | done | with_reducible rfl)
  try simp only [Act.put, List.setIfInBounds_toArray, List.set_cons_zero, List.set_cons_succ]
  refine wpAnyH_take (i := 3) (oi := { dst := some 61, op := Op.load 4 (Operand.tmp 60), type := 4, pos := "ref.go:273", after := #[{ on := 2, ground := Ground.data }], guard := none }) (v := ?_) rfl (by kernel_rfl) (by kernel_rfl) (by kernel_rfl) (fun _ _ _ h => h) (Or.inl ⟨by rfl, ?_⟩) (by assumption) ?_
  rotate_left
  · (intro wz hSw; (try dsimp only at hSw); go_simp; first | done | with_reducible rfl)
  try simp only [Act.put, List.setIfInBounds_toArray, List.set_cons_zero, List.set_cons_succ]
  refine wpAnyH_take (i := 4) (oi := { dst := some 62, op := Op.binOp BinOp.neq 4 (Operand.tmp 59) (Operand.tmp 61) 4, type := 4, pos := "ref.go:273", after := #[{ on := 1, ground := Ground.data }, { on := 3, ground := Ground.data }], guard := none }) (v := ?_) rfl (by kernel_rfl) (by kernel_rfl) (by kernel_rfl) (fun _ _ _ h => h) (Or.inl ⟨by rfl, ?_⟩) (by assumption) ?_
  rotate_left
  · (intro wz hSw; (try dsimp only at hSw); go_simp; first | done | with_reducible rfl)
  try simp only [Act.put, List.setIfInBounds_toArray, List.set_cons_zero, List.set_cons_succ]
  refine wpAnyH_take (i := 5) (oi := { dst := some 63, op := Op.move (Operand.tmp 8), type := 22, pos := "ref.go:273", after := #[], guard := none }) (v := ?_) rfl (by kernel_rfl) (by kernel_rfl) (by kernel_rfl) (fun _ _ _ h => h) (Or.inl ⟨by rfl, ?_⟩) (by assumption) ?_
  rotate_left
  · (intro wz hSw; (try dsimp only at hSw); go_simp; first | done | with_reducible rfl)
  try simp only [Act.put, List.setIfInBounds_toArray, List.set_cons_zero, List.set_cons_succ]
  refine wpAnyH_take (i := 6) (oi := { dst := some 64, op := Op.build 24 #[(0, Operand.tmp 62), (1, Operand.tmp 63)], type := 24, pos := "ref.go:273", after := #[{ on := 4, ground := Ground.data }, { on := 5, ground := Ground.data }], guard := none }) (v := ?_) rfl (by kernel_rfl) (by kernel_rfl) (by kernel_rfl) (fun _ _ _ h => h) (Or.inl ⟨by rfl, ?_⟩) (by assumption) ?_
  rotate_left
  · (intro wz hSw; (try dsimp only at hSw); go_simp; first | done | with_reducible rfl)
  try simp only [Act.put, List.setIfInBounds_toArray, List.set_cons_zero, List.set_cons_succ]
  refine wpAnyH_take (i := 7) (oi := { dst := some 65, op := Op.fieldAddr 24 (Operand.tmp 4) 1, type := 0, pos := "ref.go:273", after := #[], guard := none }) (v := ?_) rfl (by kernel_rfl) (by kernel_rfl) (by kernel_rfl) (fun _ _ _ h => h) (Or.inl ⟨by rfl, ?_⟩) (by assumption) ?_
  rotate_left
  · (intro wz hSw; (try dsimp only at hSw); go_simp; first | done | with_reducible rfl)
  try simp only [Act.put, List.setIfInBounds_toArray, List.set_cons_zero, List.set_cons_succ]
  refine wpAnyH_take (i := 8) (oi := { dst := some 66, op := Op.load 22 (Operand.tmp 65), type := 22, pos := "ref.go:273", after := #[{ on := 7, ground := Ground.data }], guard := none }) (v := ?_) rfl (by kernel_rfl) (by kernel_rfl) (by kernel_rfl) (fun _ _ _ h => h) (Or.inl ⟨by rfl, ?_⟩) (by assumption) ?_
  rotate_left
  · (intro wz hSw; (try dsimp only at hSw); go_simp; first | done | with_reducible rfl)
  try simp only [Act.put, List.setIfInBounds_toArray, List.set_cons_zero, List.set_cons_succ]
  refine wpAnyH_take (i := 9) (oi := { dst := some 67, op := Op.binOp BinOp.neq 22 (Operand.tmp 66) (Operand.const (Value.int IntKind.u64 0)) 22, type := 4, pos := "ref.go:273", after := #[{ on := 8, ground := Ground.data }], guard := none }) (v := ?_) rfl (by kernel_rfl) (by kernel_rfl) (by kernel_rfl) (fun _ _ _ h => h) (Or.inl ⟨by rfl, ?_⟩) (by assumption) ?_
  rotate_left
  · (intro wz hSw; (try dsimp only at hSw); go_simp; first | done | with_reducible rfl)
  try simp only [Act.put, List.setIfInBounds_toArray, List.set_cons_zero, List.set_cons_succ]
  refine wpAnyH_take (i := 10) (oi := { dst := some 68, op := Op.move (Operand.tmp 67), type := 4, pos := "ref.go:273", after := #[{ on := 9, ground := Ground.data }], guard := none }) (v := ?_) rfl (by kernel_rfl) (by kernel_rfl) (by kernel_rfl) (fun _ _ _ h => h) (Or.inl ⟨by rfl, ?_⟩) (by assumption) ?_
  rotate_left
  · (intro wz hSw; (try dsimp only at hSw); go_simp; first | done | with_reducible rfl)
  try simp only [Act.put, List.setIfInBounds_toArray, List.set_cons_zero, List.set_cons_succ]
  refine wpAnyH_take (i := 11) (oi := { dst := some 69, op := Op.move (Operand.tmp 8), type := 22, pos := "ref.go:273", after := #[{ on := 10, ground := Ground.guard }], guard := some (10, true) }) (v := undef) rfl (by kernel_rfl) (by kernel_rfl) (by kernel_rfl) (fun _ _ _ h => h) (Or.inr ⟨by rfl, rfl⟩) (by assumption) ?_
  try simp only [Act.put, List.setIfInBounds_toArray, List.set_cons_zero, List.set_cons_succ]
  refine wpAnyH_take (i := 12) (oi := { dst := some 70, op := Op.fieldAddr 24 (Operand.tmp 4) 1, type := 0, pos := "ref.go:273", after := #[{ on := 10, ground := Ground.guard }], guard := some (10, true) }) (v := undef) rfl (by kernel_rfl) (by kernel_rfl) (by kernel_rfl) (fun _ _ _ h => h) (Or.inr ⟨by rfl, rfl⟩) (by assumption) ?_
  try simp only [Act.put, List.setIfInBounds_toArray, List.set_cons_zero, List.set_cons_succ]
  refine wpAnyH_take (i := 13) (oi := { dst := some 71, op := Op.load 22 (Operand.tmp 70), type := 22, pos := "ref.go:273", after := #[{ on := 12, ground := Ground.data }, { on := 10, ground := Ground.guard }], guard := some (10, true) }) (v := undef) rfl (by kernel_rfl) (by kernel_rfl) (by kernel_rfl) (fun _ _ _ h => h) (Or.inr ⟨by rfl, rfl⟩) (by assumption) ?_
  try simp only [Act.put, List.setIfInBounds_toArray, List.set_cons_zero, List.set_cons_succ]
  refine wpAnyH_take (i := 14) (oi := { dst := some 72, op := Op.binOp BinOp.quo 22 (Operand.tmp 69) (Operand.tmp 71) 22, type := 22, pos := "ref.go:273", after := #[{ on := 11, ground := Ground.data }, { on := 13, ground := Ground.data }, { on := 10, ground := Ground.guard }], guard := some (10, true) }) (v := undef) rfl (by kernel_rfl) (by kernel_rfl) (by kernel_rfl) (fun _ _ _ h => h) (Or.inr ⟨by rfl, rfl⟩) (by assumption) ?_
  try simp only [Act.put, List.setIfInBounds_toArray, List.set_cons_zero, List.set_cons_succ]
  refine wpAnyH_take (i := 15) (oi := { dst := some 73, op := Op.fieldAddr 24 (Operand.tmp 5) 1, type := 0, pos := "ref.go:273", after := #[{ on := 10, ground := Ground.guard }], guard := some (10, true) }) (v := undef) rfl (by kernel_rfl) (by kernel_rfl) (by kernel_rfl) (fun _ _ _ h => h) (Or.inr ⟨by rfl, rfl⟩) (by assumption) ?_
  try simp only [Act.put, List.setIfInBounds_toArray, List.set_cons_zero, List.set_cons_succ]
  refine wpAnyH_take (i := 16) (oi := { dst := some 74, op := Op.load 22 (Operand.tmp 73), type := 22, pos := "ref.go:273", after := #[{ on := 15, ground := Ground.data }, { on := 10, ground := Ground.guard }], guard := some (10, true) }) (v := undef) rfl (by kernel_rfl) (by kernel_rfl) (by kernel_rfl) (fun _ _ _ h => h) (Or.inr ⟨by rfl, rfl⟩) (by assumption) ?_
  try simp only [Act.put, List.setIfInBounds_toArray, List.set_cons_zero, List.set_cons_succ]
  refine wpAnyH_take (i := 17) (oi := { dst := some 75, op := Op.binOp BinOp.neq 22 (Operand.tmp 72) (Operand.tmp 74) 22, type := 4, pos := "ref.go:273", after := #[{ on := 14, ground := Ground.data }, { on := 16, ground := Ground.data }, { on := 10, ground := Ground.guard }], guard := some (10, true) }) (v := undef) rfl (by kernel_rfl) (by kernel_rfl) (by kernel_rfl) (fun _ _ _ h => h) (Or.inr ⟨by rfl, rfl⟩) (by assumption) ?_
  try simp only [Act.put, List.setIfInBounds_toArray, List.set_cons_zero, List.set_cons_succ]
  refine wpAnyH_take (i := 18) (oi := { dst := some 76, op := Op.pick (Operand.tmp 68) (Operand.tmp 75) (Operand.const (Value.bool false)), type := 4, pos := "ref.go:273", after := #[{ on := 10, ground := Ground.data }, { on := 17, ground := Ground.data }], guard := none }) (v := ?_) rfl (by kernel_rfl) (by kernel_rfl) (by kernel_rfl) (fun _ _ _ h => h) (Or.inl ⟨by rfl, ?_⟩) (by assumption) ?_
  rotate_left
  · (intro wz hSw; (try dsimp only at hSw); go_simp; first | done | with_reducible rfl)
  try simp only [Act.put, List.setIfInBounds_toArray, List.set_cons_zero, List.set_cons_succ]
  refine wpAnyH_ready (rs := [19]) (by kernel_rfl) (by simp) ?_
  refine AllReadyH.cons (o := { dst := some 77, op := Op.call { callee := Callee.value (Operand.func 27), args := #[Operand.tmp 64, Operand.tmp 76], argTypes := #[24, 4] }, type := 28, pos := "ref.go:273", after := #[{ on := 6, ground := Ground.data }, { on := 18, ground := Ground.data }, { on := 10, ground := Ground.chain }], guard := none }) rfl (fun Kw hKw => ?_) AllReadyH.nil
  go_simp
  ((go_at_call 27; with_reducible refine (c_toldX _ _ _ _ (u64_r _)).mono ?_; rintro e w2 ⟨rfl, hk⟩; have hc00 := keepc hk (b := w.heap.size) (o := 0) (v := .bool a) (by first | assumption | (simp [go_sem]; done) | (simp [go_sem]; assumption)); have hc01 := keepc hk (b := w.heap.size) (o := 1) (v := .int .u64 m) (by first | assumption | (simp [go_sem]; done) | (simp [go_sem]; assumption)); have hc10 := keepc hk (b := w.heap.size + 1) (o := 0) (v := .bool b) (by first | assumption | (simp [go_sem]; done) | (simp [go_sem]; assumption)); have hc11 := keepc hk (b := w.heap.size + 1) (o := 1) (v := .int .u64 n) (by first | assumption | (simp [go_sem]; done) | (simp [go_sem]; assumption)); have hc20 := keepc hk (b := w.heap.size + 1 + 1) (o := 0) (v := .bool false) (by first | assumption | (simp [go_sem]; done) | (simp [go_sem]; assumption)); have hc21 := keepc hk (b := w.heap.size + 1 + 1) (o := 1) (v := .int .u64 0) (by first | assumption | (simp [go_sem]; done) | (simp [go_sem]; assumption)); have hf20 : w2.frozen? ⟨w.heap.size + 1 + 1, 0, none⟩ = false := (by rw [hk.frozen]; first | assumption | (simp [go_sem]; done) | (simp [go_sem]; assumption)); have hf21 : w2.frozen? ⟨w.heap.size + 1 + 1, 1, none⟩ = false := (by rw [hk.frozen]; first | assumption | (simp [go_sem]; done) | (simp [go_sem]; assumption))))
  (try go_wp2_with fail)
  refine hKw.out _ _ ?_ (fun hHeld1 => ?_)
  · exact ⟨hc00, hc01, hc10, hc11⟩
  clear hKw Kw hHeld0
  try simp only [Act.put, List.setIfInBounds_toArray, List.set_cons_zero, List.set_cons_succ]
  refine wpAnyH_take (i := 20) (oi := { dst := some 78, op := Op.extract (Operand.tmp 77) 0, type := 24, pos := "ref.go:273", after := #[{ on := 19, ground := Ground.data }], guard := none }) (v := ?_) rfl (by kernel_rfl) (by kernel_rfl) (by kernel_rfl) (fun _ _ _ h => h) (Or.inl ⟨by rfl, ?_⟩) (by assumption) ?_
  rotate_left
  · (intro wz hSw; (try dsimp only at hSw); go_simp; first | done | with_reducible rfl)
  try simp only [Act.put, List.setIfInBounds_toArray, List.set_cons_zero, List.set_cons_succ]
  refine wpAnyH_take (i := 21) (oi := { dst := some 79, op := Op.extract (Operand.tmp 77) 1, type := 25, pos := "ref.go:273", after := #[{ on := 19, ground := Ground.data }], guard := none }) (v := ?_) rfl (by kernel_rfl) (by kernel_rfl) (by kernel_rfl) (fun _ _ _ h => h) (Or.inl ⟨by rfl, ?_⟩) (by assumption) ?_
  rotate_left
  · (intro wz hSw; (try dsimp only at hSw); go_simp; first | done | with_reducible rfl)
  try simp only [Act.put, List.setIfInBounds_toArray, List.set_cons_zero, List.set_cons_succ]
  refine wpAnyH_ready (rs := [22]) (by kernel_rfl) (by simp) ?_
  refine AllReadyH.cons (o := { dst := none, op := Op.store 24 (Operand.tmp 6) (Operand.tmp 78), type := 0, pos := "ref.go:273", after := #[{ on := 20, ground := Ground.data }, { on := 19, ground := Ground.chain }, { on := 0, ground := Ground.phase }, { on := 1, ground := Ground.phase }, { on := 2, ground := Ground.phase }, { on := 3, ground := Ground.phase }, { on := 4, ground := Ground.phase }, { on := 5, ground := Ground.phase }, { on := 6, ground := Ground.phase }, { on := 7, ground := Ground.phase }, { on := 8, ground := Ground.phase }, { on := 9, ground := Ground.phase }, { on := 10, ground := Ground.phase }, { on := 11, ground := Ground.phase }, { on := 12, ground := Ground.phase }, { on := 13, ground := Ground.phase }, { on := 14, ground := Ground.phase }, { on := 15, ground := Ground.phase }, { on := 16, ground := Ground.phase }, { on := 17, ground := Ground.phase }, { on := 18, ground := Ground.phase }, { on := 19, ground := Ground.phase }, { on := 20, ground := Ground.phase }, { on := 21, ground := Ground.phase }], guard := none }) rfl (fun Kw hKw => ?_) AllReadyH.nil
  go_simp
  (try go_wp2_with fail)
  refine hKw.out _ _ ?_ (fun hHeld2 => ?_)
  · (simp [go_sem, *]; done)
  clear hKw Kw hHeld1
  try simp only [Act.put, List.setIfInBounds_toArray, List.set_cons_zero, List.set_cons_succ]
  refine wpAnyH_take (i := 23) (oi := { dst := some 7, op := Op.assign (Operand.tmp 79), type := 25, pos := "ref.go:273", after := #[{ on := 21, ground := Ground.data }, { on := 22, ground := Ground.chain }, { on := 0, ground := Ground.phase }, { on := 1, ground := Ground.phase }, { on := 2, ground := Ground.phase }, { on := 3, ground := Ground.phase }, { on := 4, ground := Ground.phase }, { on := 5, ground := Ground.phase }, { on := 6, ground := Ground.phase }, { on := 7, ground := Ground.phase }, { on := 8, ground := Ground.phase }, { on := 9, ground := Ground.phase }, { on := 10, ground := Ground.phase }, { on := 11, ground := Ground.phase }, { on := 12, ground := Ground.phase }, { on := 13, ground := Ground.phase }, { on := 14, ground := Ground.phase }, { on := 15, ground := Ground.phase }, { on := 16, ground := Ground.phase }, { on := 17, ground := Ground.phase }, { on := 18, ground := Ground.phase }, { on := 19, ground := Ground.phase }, { on := 20, ground := Ground.phase }, { on := 21, ground := Ground.phase }, { on := 22, ground := Ground.phase }], guard := none }) (v := ?_) rfl (by kernel_rfl) (by kernel_rfl) (by kernel_rfl) (fun _ _ _ h => h) (Or.inl ⟨by rfl, ?_⟩) (by assumption) ?_
  rotate_left
  · (intro wz hSw; (try dsimp only at hSw); go_simp; first | done | with_reducible rfl)
  try simp only [Act.put, List.setIfInBounds_toArray, List.set_cons_zero, List.set_cons_succ]
  refine wpAnyH_done (by kernel_rfl) ?_ _
  go_wp2_with fail
  refine bodyPost_ret (by simp [results, Try.results10, go_sem, hc20, hc21]; try rfl) rfl ?_
  exact ⟨rfl, (by (repeat (first | exact Kp.refl _ | refine kback (by assumption) ?_ | refine Kp.setCell ?_ (by first | omega | (simp; done) | (simp; omega)) _ | refine Kp.alloc ?_ _ _ | refine Kp.drewN ?_ _ | refine Kp.drew ?_)))⟩
set_option maxRecDepth 100000 in
set_option maxHeartbeats 6400000 in
theorem rf_mul (a : Bool) (m : Int) (b : Bool) (n : Int) (w : World) (hm : 0 ≤ m ∧ m < 18446744073709551616) (hn : 0 ≤ n ∧ n < 18446744073709551616) (ka : kc a m = true) (kb : kc b n = true) (h0 : ¬ m = 0) : Calls Try.prog 10 #[.string ⟨#[42]⟩, .agg #[.bool a, .int .u64 m], .agg #[.bool b, .int .u64 n]] w fun e w' => e = .returned (.tuple #[.agg #[.bool (rn (tv (!(a == b)) (IntKind.u64.wrap (m * n)) (!(!((IntKind.u64.wrap (m * n)).tdiv m == n))))), .int .u64 (rs (tv (!(a == b)) (IntKind.u64.wrap (m * n)) (!(!((IntKind.u64.wrap (m * n)).tdiv m == n)))))], .int .i64 (re (tv (!(a == b)) (IntKind.u64.wrap (m * n)) (!(!((IntKind.u64.wrap (m * n)).tdiv m == n)))))]) ∧ Kp w w' := by
  have HM := Lib.hid hm
  have HN := Lib.hid hn
  have hop : isop ⟨#[42]⟩ = true := by simp [isop, ByteArray.toList_eq]
  have hz : (m != 0) = true := by simp [h0]
  have hq := tdiv_r (u64_r (m * n)) hm
  have hw : IntKind.u64.wrap ((IntKind.u64.wrap (m * n)).tdiv m) = (IntKind.u64.wrap (m * n)).tdiv m := u64_id hq
  clear hq
  clear hm hn
  go_enter Try.func10, Try.ntmps10
  go_wp2_with (first | ((go_at_call 25; with_reducible refine (c_rSign _ _).mono ?_; rintro e w1 ⟨rfl, rfl⟩)) | ((go_at_call 19; with_reducible refine (c_Const a m _ HM.out.1).mono ?_; rintro e w1 ⟨rfl, hk⟩; have hc00 := keepc hk (b := w.heap.size) (o := 0) (v := .bool a) (by first | assumption | (simp [go_sem]; done) | (simp [go_sem]; assumption)); have hc01 := keepc hk (b := w.heap.size) (o := 1) (v := .int .u64 m) (by first | assumption | (simp [go_sem]; done) | (simp [go_sem]; assumption)); have hf00 : w1.frozen? ⟨w.heap.size, 0, none⟩ = false := (by rw [hk.frozen]; first | assumption | (simp [go_sem]; done) | (simp [go_sem]; assumption)); have hf01 : w1.frozen? ⟨w.heap.size, 1, none⟩ = false := (by rw [hk.frozen]; first | assumption | (simp [go_sem]; done) | (simp [go_sem]; assumption)); have hc10 := keepc hk (b := w.heap.size + 1) (o := 0) (v := .bool b) (by first | assumption | (simp [go_sem]; done) | (simp [go_sem]; assumption)); have hc11 := keepc hk (b := w.heap.size + 1) (o := 1) (v := .int .u64 n) (by first | assumption | (simp [go_sem]; done) | (simp [go_sem]; assumption)); have hf10 : w1.frozen? ⟨w.heap.size + 1, 0, none⟩ = false := (by rw [hk.frozen]; first | assumption | (simp [go_sem]; done) | (simp [go_sem]; assumption)); have hf11 : w1.frozen? ⟨w.heap.size + 1, 1, none⟩ = false := (by rw [hk.frozen]; first | assumption | (simp [go_sem]; done) | (simp [go_sem]; assumption)); have hc20 := keepc hk (b := w.heap.size + 1 + 1) (o := 0) (v := .bool false) (by first | assumption | (simp [go_sem]; done) | (simp [go_sem]; assumption)); have hc21 := keepc hk (b := w.heap.size + 1 + 1) (o := 1) (v := .int .u64 0) (by first | assumption | (simp [go_sem]; done) | (simp [go_sem]; assumption)); have hf20 : w1.frozen? ⟨w.heap.size + 1 + 1, 0, none⟩ = false := (by rw [hk.frozen]; first | assumption | (simp [go_sem]; done) | (simp [go_sem]; assumption)); have hf21 : w1.frozen? ⟨w.heap.size + 1 + 1, 1, none⟩ = false := (by rw [hk.frozen]; first | assumption | (simp [go_sem]; done) | (simp [go_sem]; assumption)))) | ((go_at_call 19; with_reducible refine (c_Const b n _ HN.out.1).mono ?_; rintro e w1 ⟨rfl, hk⟩; have hc00 := keepc hk (b := w.heap.size) (o := 0) (v := .bool a) (by first | assumption | (simp [go_sem]; done) | (simp [go_sem]; assumption)); have hc01 := keepc hk (b := w.heap.size) (o := 1) (v := .int .u64 m) (by first | assumption | (simp [go_sem]; done) | (simp [go_sem]; assumption)); have hf00 : w1.frozen? ⟨w.heap.size, 0, none⟩ = false := (by rw [hk.frozen]; first | assumption | (simp [go_sem]; done) | (simp [go_sem]; assumption)); have hf01 : w1.frozen? ⟨w.heap.size, 1, none⟩ = false := (by rw [hk.frozen]; first | assumption | (simp [go_sem]; done) | (simp [go_sem]; assumption)); have hc10 := keepc hk (b := w.heap.size + 1) (o := 0) (v := .bool b) (by first | assumption | (simp [go_sem]; done) | (simp [go_sem]; assumption)); have hc11 := keepc hk (b := w.heap.size + 1) (o := 1) (v := .int .u64 n) (by first | assumption | (simp [go_sem]; done) | (simp [go_sem]; assumption)); have hf10 : w1.frozen? ⟨w.heap.size + 1, 0, none⟩ = false := (by rw [hk.frozen]; first | assumption | (simp [go_sem]; done) | (simp [go_sem]; assumption)); have hf11 : w1.frozen? ⟨w.heap.size + 1, 1, none⟩ = false := (by rw [hk.frozen]; first | assumption | (simp [go_sem]; done) | (simp [go_sem]; assumption)); have hc20 := keepc hk (b := w.heap.size + 1 + 1) (o := 0) (v := .bool false) (by first | assumption | (simp [go_sem]; done) | (simp [go_sem]; assumption)); have hc21 := keepc hk (b := w.heap.size + 1 + 1) (o := 1) (v := .int .u64 0) (by first | assumption | (simp [go_sem]; done) | (simp [go_sem]; assumption)); have hf20 : w1.frozen? ⟨w.heap.size + 1 + 1, 0, none⟩ = false := (by rw [hk.frozen]; first | assumption | (simp [go_sem]; done) | (simp [go_sem]; assumption)); have hf21 : w1.frozen? ⟨w.heap.size + 1 + 1, 1, none⟩ = false := (by rw [hk.frozen]; first | assumption | (simp [go_sem]; done) | (simp [go_sem]; assumption)))))
  (try skip)
  refine wp_region_held_drew (S := fun w'' => w''.cell? ⟨w.heap.size, 0, none⟩ = some (.bool a) ∧ w''.cell? ⟨w.heap.size, 1, none⟩ = some (.int .u64 m) ∧ w''.cell? ⟨w.heap.size + 1, 0, none⟩ = some (.bool b) ∧ w''.cell? ⟨w.heap.size + 1, 1, none⟩ = some (.int .u64 n)) (by kernel_rfl) (by first | exact ⟨by assumption, by assumption, by assumption, by assumption⟩ | (simp [go_sem]; exact ⟨by assumption, by assumption, by assumption, by assumption⟩)) (fun hHeld0 => ?_)
  refine wpAnyH_take (i := 0) (oi := { dst := some 58, op := Op.fieldAddr 24 (Operand.tmp 4) 0, type := 0, pos := "ref.go:273", after := #[], guard := none }) (v := ?_) rfl (by kernel_rfl) (by kernel_rfl) (by kernel_rfl) (fun _ _ _ h => h) (Or.inl ⟨by rfl, ?_⟩) (by assumption) ?_
  rotate_left
  · (intro wz hSw; (try dsimp only at hSw); go_simp; first | done | with_reducible rfl)
  try simp only [Act.put, List.setIfInBounds_toArray, List.set_cons_zero, List.set_cons_succ]
  refine wpAnyH_take (i := 1) (oi := { dst := some 59, op := Op.load 4 (Operand.tmp 58), type := 4, pos := "ref.go:273", after := #[{ on := 0, ground := Ground.data }], guard := none }) (v := ?_) rfl (by kernel_rfl) (by kernel_rfl) (by kernel_rfl) (fun _ _ _ h => h) (Or.inl ⟨by rfl, ?_⟩) (by assumption) ?_
  rotate_left
  · (intro wz hSw; (try dsimp only at hSw); go_simp; first | done | with_reducible rfl)
  try simp only [Act.put, List.setIfInBounds_toArray, List.set_cons_zero, List.set_cons_succ]
  refine wpAnyH_take (i := 2) (oi := { dst := some 60, op := Op.fieldAddr 24 (Operand.tmp 5) 0, type := 0, pos := "ref.go:273", after := #[], guard := none }) (v := ?_) rfl (by kernel_rfl) (by kernel_rfl) (by kernel_rfl) (fun _ _ _ h => h) (Or.inl ⟨by rfl, ?_⟩) (by assumption) ?_
  rotate_left
  · (intro wz hSw; (try dsimp only at hSw); go_simp; first | done | with_reducible rfl)
  try simp only [Act.put, List.setIfInBounds_toArray, List.set_cons_zero, List.set_cons_succ]
  refine wpAnyH_take (i := 3) (oi := { dst := some 61, op := Op.load 4 (Operand.tmp 60), type := 4, pos := "ref.go:273", after := #[{ on := 2, ground := Ground.data }], guard := none }) (v := ?_) rfl (by kernel_rfl) (by kernel_rfl) (by kernel_rfl) (fun _ _ _ h => h) (Or.inl ⟨by rfl, ?_⟩) (by assumption) ?_
  rotate_left
  · (intro wz hSw; (try dsimp only at hSw); go_simp; first | done | with_reducible rfl)
  try simp only [Act.put, List.setIfInBounds_toArray, List.set_cons_zero, List.set_cons_succ]
  refine wpAnyH_take (i := 4) (oi := { dst := some 62, op := Op.binOp BinOp.neq 4 (Operand.tmp 59) (Operand.tmp 61) 4, type := 4, pos := "ref.go:273", after := #[{ on := 1, ground := Ground.data }, { on := 3, ground := Ground.data }], guard := none }) (v := ?_) rfl (by kernel_rfl) (by kernel_rfl) (by kernel_rfl) (fun _ _ _ h => h) (Or.inl ⟨by rfl, ?_⟩) (by assumption) ?_
  rotate_left
  · (intro wz hSw; (try dsimp only at hSw); go_simp; first | done | with_reducible rfl)
  try simp only [Act.put, List.setIfInBounds_toArray, List.set_cons_zero, List.set_cons_succ]
  refine wpAnyH_take (i := 5) (oi := { dst := some 63, op := Op.move (Operand.tmp 8), type := 22, pos := "ref.go:273", after := #[], guard := none }) (v := ?_) rfl (by kernel_rfl) (by kernel_rfl) (by kernel_rfl) (fun _ _ _ h => h) (Or.inl ⟨by rfl, ?_⟩) (by assumption) ?_
  rotate_left
  · (intro wz hSw; (try dsimp only at hSw); go_simp; first | done | with_reducible rfl)
  try simp only [Act.put, List.setIfInBounds_toArray, List.set_cons_zero, List.set_cons_succ]
  refine wpAnyH_take (i := 6) (oi := { dst := some 64, op := Op.build 24 #[(0, Operand.tmp 62), (1, Operand.tmp 63)], type := 24, pos := "ref.go:273", after := #[{ on := 4, ground := Ground.data }, { on := 5, ground := Ground.data }], guard := none }) (v := ?_) rfl (by kernel_rfl) (by kernel_rfl) (by kernel_rfl) (fun _ _ _ h => h) (Or.inl ⟨by rfl, ?_⟩) (by assumption) ?_
  rotate_left
  · (intro wz hSw; (try dsimp only at hSw); go_simp; first | done | with_reducible rfl)
  try simp only [Act.put, List.setIfInBounds_toArray, List.set_cons_zero, List.set_cons_succ]
  refine wpAnyH_take (i := 7) (oi := { dst := some 65, op := Op.fieldAddr 24 (Operand.tmp 4) 1, type := 0, pos := "ref.go:273", after := #[], guard := none }) (v := ?_) rfl (by kernel_rfl) (by kernel_rfl) (by kernel_rfl) (fun _ _ _ h => h) (Or.inl ⟨by rfl, ?_⟩) (by assumption) ?_
  rotate_left
  · (intro wz hSw; (try dsimp only at hSw); go_simp; first | done | with_reducible rfl)
  try simp only [Act.put, List.setIfInBounds_toArray, List.set_cons_zero, List.set_cons_succ]
  refine wpAnyH_take (i := 8) (oi := { dst := some 66, op := Op.load 22 (Operand.tmp 65), type := 22, pos := "ref.go:273", after := #[{ on := 7, ground := Ground.data }], guard := none }) (v := ?_) rfl (by kernel_rfl) (by kernel_rfl) (by kernel_rfl) (fun _ _ _ h => h) (Or.inl ⟨by rfl, ?_⟩) (by assumption) ?_
  rotate_left
  · (intro wz hSw; (try dsimp only at hSw); go_simp; first | done | with_reducible rfl)
  try simp only [Act.put, List.setIfInBounds_toArray, List.set_cons_zero, List.set_cons_succ]
  refine wpAnyH_take (i := 9) (oi := { dst := some 67, op := Op.binOp BinOp.neq 22 (Operand.tmp 66) (Operand.const (Value.int IntKind.u64 0)) 22, type := 4, pos := "ref.go:273", after := #[{ on := 8, ground := Ground.data }], guard := none }) (v := ?_) rfl (by kernel_rfl) (by kernel_rfl) (by kernel_rfl) (fun _ _ _ h => h) (Or.inl ⟨by rfl, ?_⟩) (by assumption) ?_
  rotate_left
  · (intro wz hSw; (try dsimp only at hSw); go_simp; first | done | with_reducible rfl)
  try simp only [Act.put, List.setIfInBounds_toArray, List.set_cons_zero, List.set_cons_succ]
  refine wpAnyH_take (i := 10) (oi := { dst := some 68, op := Op.move (Operand.tmp 67), type := 4, pos := "ref.go:273", after := #[{ on := 9, ground := Ground.data }], guard := none }) (v := ?_) rfl (by kernel_rfl) (by kernel_rfl) (by kernel_rfl) (fun _ _ _ h => h) (Or.inl ⟨by rfl, ?_⟩) (by assumption) ?_
  rotate_left
  · (intro wz hSw; (try dsimp only at hSw); go_simp; first | done | with_reducible rfl)
  try simp only [Act.put, List.setIfInBounds_toArray, List.set_cons_zero, List.set_cons_succ]
  refine wpAnyH_take (i := 11) (oi := { dst := some 69, op := Op.move (Operand.tmp 8), type := 22, pos := "ref.go:273", after := #[{ on := 10, ground := Ground.guard }], guard := some (10, true) }) (v := ?_) rfl (by kernel_rfl) (by kernel_rfl) (by kernel_rfl) (fun _ _ _ h => h) (Or.inl ⟨by rfl, ?_⟩) (by assumption) ?_
  rotate_left
  · (intro wz hSw; (try dsimp only at hSw); go_simp; first | done | with_reducible rfl)
  try simp only [Act.put, List.setIfInBounds_toArray, List.set_cons_zero, List.set_cons_succ]
  refine wpAnyH_take (i := 12) (oi := { dst := some 70, op := Op.fieldAddr 24 (Operand.tmp 4) 1, type := 0, pos := "ref.go:273", after := #[{ on := 10, ground := Ground.guard }], guard := some (10, true) }) (v := ?_) rfl (by kernel_rfl) (by kernel_rfl) (by kernel_rfl) (fun _ _ _ h => h) (Or.inl ⟨by rfl, ?_⟩) (by assumption) ?_
  rotate_left
  · (intro wz hSw; (try dsimp only at hSw); go_simp; first | done | with_reducible rfl)
  try simp only [Act.put, List.setIfInBounds_toArray, List.set_cons_zero, List.set_cons_succ]
  refine wpAnyH_take (i := 13) (oi := { dst := some 71, op := Op.load 22 (Operand.tmp 70), type := 22, pos := "ref.go:273", after := #[{ on := 12, ground := Ground.data }, { on := 10, ground := Ground.guard }], guard := some (10, true) }) (v := ?_) rfl (by kernel_rfl) (by kernel_rfl) (by kernel_rfl) (fun _ _ _ h => h) (Or.inl ⟨by rfl, ?_⟩) (by assumption) ?_
  rotate_left
  · (intro wz hSw; (try dsimp only at hSw); go_simp; first | done | with_reducible rfl)
  try simp only [Act.put, List.setIfInBounds_toArray, List.set_cons_zero, List.set_cons_succ]
  refine wpAnyH_take (i := 14) (oi := { dst := some 72, op := Op.binOp BinOp.quo 22 (Operand.tmp 69) (Operand.tmp 71) 22, type := 22, pos := "ref.go:273", after := #[{ on := 11, ground := Ground.data }, { on := 13, ground := Ground.data }, { on := 10, ground := Ground.guard }], guard := some (10, true) }) (v := ?_) rfl (by kernel_rfl) (by kernel_rfl) (by kernel_rfl) (fun _ _ _ h => h) (Or.inl ⟨by rfl, ?_⟩) (by assumption) ?_
  rotate_left
  · (intro wz hSw; (try dsimp only at hSw); go_simp; first | done | with_reducible rfl)
  try simp only [Act.put, List.setIfInBounds_toArray, List.set_cons_zero, List.set_cons_succ]
  refine wpAnyH_take (i := 15) (oi := { dst := some 73, op := Op.fieldAddr 24 (Operand.tmp 5) 1, type := 0, pos := "ref.go:273", after := #[{ on := 10, ground := Ground.guard }], guard := some (10, true) }) (v := ?_) rfl (by kernel_rfl) (by kernel_rfl) (by kernel_rfl) (fun _ _ _ h => h) (Or.inl ⟨by rfl, ?_⟩) (by assumption) ?_
  rotate_left
  · (intro wz hSw; (try dsimp only at hSw); go_simp; first | done | with_reducible rfl)
  try simp only [Act.put, List.setIfInBounds_toArray, List.set_cons_zero, List.set_cons_succ]
  refine wpAnyH_take (i := 16) (oi := { dst := some 74, op := Op.load 22 (Operand.tmp 73), type := 22, pos := "ref.go:273", after := #[{ on := 15, ground := Ground.data }, { on := 10, ground := Ground.guard }], guard := some (10, true) }) (v := ?_) rfl (by kernel_rfl) (by kernel_rfl) (by kernel_rfl) (fun _ _ _ h => h) (Or.inl ⟨by rfl, ?_⟩) (by assumption) ?_
  rotate_left
  · (intro wz hSw; (try dsimp only at hSw); go_simp; first | done | with_reducible rfl)
  try simp only [Act.put, List.setIfInBounds_toArray, List.set_cons_zero, List.set_cons_succ]
  refine wpAnyH_take (i := 17) (oi := { dst := some 75, op := Op.binOp BinOp.neq 22 (Operand.tmp 72) (Operand.tmp 74) 22, type := 4, pos := "ref.go:273", after := #[{ on := 14, ground := Ground.data }, { on := 16, ground := Ground.data }, { on := 10, ground := Ground.guard }], guard := some (10, true) }) (v := ?_) rfl (by kernel_rfl) (by kernel_rfl) (by kernel_rfl) (fun _ _ _ h => h) (Or.inl ⟨by rfl, ?_⟩) (by assumption) ?_
  rotate_left
  · (intro wz hSw; (try dsimp only at hSw); go_simp; first | done | with_reducible rfl)
  try simp only [Act.put, List.setIfInBounds_toArray, List.set_cons_zero, List.set_cons_succ]
  refine wpAnyH_take (i := 18) (oi := { dst := some 76, op := Op.pick (Operand.tmp 68) (Operand.tmp 75) (Operand.const (Value.bool false)), type := 4, pos := "ref.go:273", after := #[{ on := 10, ground := Ground.data }, { on := 17, ground := Ground.data }], guard := none }) (v := ?_) rfl (by kernel_rfl) (by kernel_rfl) (by kernel_rfl) (fun _ _ _ h => h) (Or.inl ⟨by rfl, ?_⟩) (by assumption) ?_
  rotate_left
  · (intro wz hSw; (try dsimp only at hSw); go_simp; first | done | with_reducible rfl)
  try simp only [Act.put, List.setIfInBounds_toArray, List.set_cons_zero, List.set_cons_succ]
  refine wpAnyH_ready (rs := [19]) (by kernel_rfl) (by simp) ?_
  refine AllReadyH.cons (o := { dst := some 77, op := Op.call { callee := Callee.value (Operand.func 27), args := #[Operand.tmp 64, Operand.tmp 76], argTypes := #[24, 4] }, type := 28, pos := "ref.go:273", after := #[{ on := 6, ground := Ground.data }, { on := 18, ground := Ground.data }, { on := 10, ground := Ground.chain }], guard := none }) rfl (fun Kw hKw => ?_) AllReadyH.nil
  go_simp
  ((go_at_call 27; with_reducible refine (c_toldX _ _ _ _ (u64_r _)).mono ?_; rintro e w2 ⟨rfl, hk⟩; have hc00 := keepc hk (b := w.heap.size) (o := 0) (v := .bool a) (by first | assumption | (simp [go_sem]; done) | (simp [go_sem]; assumption)); have hc01 := keepc hk (b := w.heap.size) (o := 1) (v := .int .u64 m) (by first | assumption | (simp [go_sem]; done) | (simp [go_sem]; assumption)); have hc10 := keepc hk (b := w.heap.size + 1) (o := 0) (v := .bool b) (by first | assumption | (simp [go_sem]; done) | (simp [go_sem]; assumption)); have hc11 := keepc hk (b := w.heap.size + 1) (o := 1) (v := .int .u64 n) (by first | assumption | (simp [go_sem]; done) | (simp [go_sem]; assumption)); have hc20 := keepc hk (b := w.heap.size + 1 + 1) (o := 0) (v := .bool false) (by first | assumption | (simp [go_sem]; done) | (simp [go_sem]; assumption)); have hc21 := keepc hk (b := w.heap.size + 1 + 1) (o := 1) (v := .int .u64 0) (by first | assumption | (simp [go_sem]; done) | (simp [go_sem]; assumption)); have hf20 : w2.frozen? ⟨w.heap.size + 1 + 1, 0, none⟩ = false := (by rw [hk.frozen]; first | assumption | (simp [go_sem]; done) | (simp [go_sem]; assumption)); have hf21 : w2.frozen? ⟨w.heap.size + 1 + 1, 1, none⟩ = false := (by rw [hk.frozen]; first | assumption | (simp [go_sem]; done) | (simp [go_sem]; assumption))))
  (try go_wp2_with fail)
  refine hKw.out _ _ ?_ (fun hHeld1 => ?_)
  · exact ⟨hc00, hc01, hc10, hc11⟩
  clear hKw Kw hHeld0
  try simp only [Act.put, List.setIfInBounds_toArray, List.set_cons_zero, List.set_cons_succ]
  refine wpAnyH_take (i := 20) (oi := { dst := some 78, op := Op.extract (Operand.tmp 77) 0, type := 24, pos := "ref.go:273", after := #[{ on := 19, ground := Ground.data }], guard := none }) (v := ?_) rfl (by kernel_rfl) (by kernel_rfl) (by kernel_rfl) (fun _ _ _ h => h) (Or.inl ⟨by rfl, ?_⟩) (by assumption) ?_
  rotate_left
  · (intro wz hSw; (try dsimp only at hSw); go_simp; first | done | with_reducible rfl)
  try simp only [Act.put, List.setIfInBounds_toArray, List.set_cons_zero, List.set_cons_succ]
  refine wpAnyH_take (i := 21) (oi := { dst := some 79, op := Op.extract (Operand.tmp 77) 1, type := 25, pos := "ref.go:273", after := #[{ on := 19, ground := Ground.data }], guard := none }) (v := ?_) rfl (by kernel_rfl) (by kernel_rfl) (by kernel_rfl) (fun _ _ _ h => h) (Or.inl ⟨by rfl, ?_⟩) (by assumption) ?_
  rotate_left
  · (intro wz hSw; (try dsimp only at hSw); go_simp; first | done | with_reducible rfl)
  try simp only [Act.put, List.setIfInBounds_toArray, List.set_cons_zero, List.set_cons_succ]
  refine wpAnyH_ready (rs := [22]) (by kernel_rfl) (by simp) ?_
  refine AllReadyH.cons (o := { dst := none, op := Op.store 24 (Operand.tmp 6) (Operand.tmp 78), type := 0, pos := "ref.go:273", after := #[{ on := 20, ground := Ground.data }, { on := 19, ground := Ground.chain }, { on := 0, ground := Ground.phase }, { on := 1, ground := Ground.phase }, { on := 2, ground := Ground.phase }, { on := 3, ground := Ground.phase }, { on := 4, ground := Ground.phase }, { on := 5, ground := Ground.phase }, { on := 6, ground := Ground.phase }, { on := 7, ground := Ground.phase }, { on := 8, ground := Ground.phase }, { on := 9, ground := Ground.phase }, { on := 10, ground := Ground.phase }, { on := 11, ground := Ground.phase }, { on := 12, ground := Ground.phase }, { on := 13, ground := Ground.phase }, { on := 14, ground := Ground.phase }, { on := 15, ground := Ground.phase }, { on := 16, ground := Ground.phase }, { on := 17, ground := Ground.phase }, { on := 18, ground := Ground.phase }, { on := 19, ground := Ground.phase }, { on := 20, ground := Ground.phase }, { on := 21, ground := Ground.phase }], guard := none }) rfl (fun Kw hKw => ?_) AllReadyH.nil
  go_simp
  (try go_wp2_with fail)
  refine hKw.out _ _ ?_ (fun hHeld2 => ?_)
  · (simp [go_sem, *]; done)
  clear hKw Kw hHeld1
  try simp only [Act.put, List.setIfInBounds_toArray, List.set_cons_zero, List.set_cons_succ]
  refine wpAnyH_take (i := 23) (oi := { dst := some 7, op := Op.assign (Operand.tmp 79), type := 25, pos := "ref.go:273", after := #[{ on := 21, ground := Ground.data }, { on := 22, ground := Ground.chain }, { on := 0, ground := Ground.phase }, { on := 1, ground := Ground.phase }, { on := 2, ground := Ground.phase }, { on := 3, ground := Ground.phase }, { on := 4, ground := Ground.phase }, { on := 5, ground := Ground.phase }, { on := 6, ground := Ground.phase }, { on := 7, ground := Ground.phase }, { on := 8, ground := Ground.phase }, { on := 9, ground := Ground.phase }, { on := 10, ground := Ground.phase }, { on := 11, ground := Ground.phase }, { on := 12, ground := Ground.phase }, { on := 13, ground := Ground.phase }, { on := 14, ground := Ground.phase }, { on := 15, ground := Ground.phase }, { on := 16, ground := Ground.phase }, { on := 17, ground := Ground.phase }, { on := 18, ground := Ground.phase }, { on := 19, ground := Ground.phase }, { on := 20, ground := Ground.phase }, { on := 21, ground := Ground.phase }, { on := 22, ground := Ground.phase }], guard := none }) (v := ?_) rfl (by kernel_rfl) (by kernel_rfl) (by kernel_rfl) (fun _ _ _ h => h) (Or.inl ⟨by rfl, ?_⟩) (by assumption) ?_
  rotate_left
  · (intro wz hSw; (try dsimp only at hSw); go_simp; first | done | with_reducible rfl)
  try simp only [Act.put, List.setIfInBounds_toArray, List.set_cons_zero, List.set_cons_succ]
  refine wpAnyH_done (by kernel_rfl) ?_ _
  go_wp2_with fail
  refine bodyPost_ret (by simp [results, Try.results10, go_sem, hc20, hc21]; try rfl) rfl ?_
  exact ⟨rfl, (by (repeat (first | exact Kp.refl _ | refine kback (by assumption) ?_ | refine Kp.setCell ?_ (by first | omega | (simp; done) | (simp; omega)) _ | refine Kp.alloc ?_ _ _ | refine Kp.drewN ?_ _ | refine Kp.drew ?_)))⟩
end Go.Proofs.Ytihchlkoohficaa
