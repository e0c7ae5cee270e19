/- Programs, structs, type parameters, fields, parameters: what their Kinds ask for. Condition: the node lies in memory. -/
import Derived.Test.YtgamenimbkafjaaF5
import Derived.Deep.RegionHeld3
namespace Go.Proofs.Ytgamenimbkafjaa
open Go.RowKit
set_option linter.unusedVariables false
set_option linter.unusedSimpArgs false
set_option maxHeartbeats 12800000 in
set_option maxRecDepth 100000 in
theorem form_1 (ks : List Int) (tx : ByteArray) (n at_ : Int) (la : Option Addr) (ll lc : Nat) (K : Nat → Hn) (w : World) (hL : ListAt w ks la ll lc K) (hcap : ll ≤ lc) (hs : tx.size ≤ 140737488351232) :
    Calls Try.prog 53 #[.agg #[.int .i64 1, .string tx, .int .u64 n, .int .i64 at_, .slice la ll lc]] w fun e w' => e = .returned (.bool (bareB tx n && allB ks (inK [2, 3]))) ∧ Kp w w' := by
  have hmf : ∀ (fn : Fn) (first cap : Array Value) (w : World), (Instr.makeFunc fn first cap).run Try.prog w = .ok (.func fn first cap) w := fun _ _ _ _ => rfl
  have HL := Lib.hid hL
  clear hL
  cases hq : bareB tx n with
  | false =>
    rw [Bool.false_and]
    go_enter Try.func53, Try.ntmps53
    go_wp2_with fail
    have b := boxed (w := w) (h := ⟨1, tx, n, at_, la, ll, lc⟩) (show Kp _ (w.alloc (.cells #[.int .i64 1, .string tx, .int .u64 n, .int .i64 at_, .slice la ll lc] 25)) by (repeat (first | with_reducible exact Kp.refl _ | with_reducible refine Kp.alloc ?_ _ | with_reducible refine Kp.drew ?_ | with_reducible refine Kp.back hk3 ?_ | with_reducible refine Kp.back hk2 ?_ | with_reducible refine Kp.back hk1 ?_)))
    simp only at b
    obtain ⟨b0, b1, b2, b3, b4, bs⟩ := b
    have hkw : Kp w (w.alloc (.cells #[.int .i64 1, .string tx, .int .u64 n, .int .i64 at_, .slice la ll lc] 25)) := by (repeat (first | with_reducible exact Kp.refl _ | with_reducible refine Kp.alloc ?_ _ | with_reducible refine Kp.drew ?_ | with_reducible refine Kp.back hk3 ?_ | with_reducible refine Kp.back hk2 ?_ | with_reducible refine Kp.back hk1 ?_))
    obtain ⟨W0, hW0⟩ : ∃ W0, (w.alloc (.cells #[.int .i64 1, .string tx, .int .u64 n, .int .i64 at_, .slice la ll lc] 25)) = W0 := ⟨_, rfl⟩
    rw [hW0] at b0 b1 b2 b3 b4 bs hkw ⊢
    skip
    clear hW0
    replace HL := Lib.hid (HL.out.keep hkw)
    have hkeep := Lib.hid (fun (W' : World) (hk : Kp W0 W') => (⟨hk.cellv b0, hk.cellv b1, hk.cellv b2, hk.cellv b3, hk.cellv b4⟩ : (fun w' => w'.cell? ⟨w.heap.size, 0, none⟩ = some (.int .i64 1) ∧ w'.cell? ⟨w.heap.size, 1, none⟩ = some (.string tx) ∧ w'.cell? ⟨w.heap.size, 2, none⟩ = some (.int .u64 n) ∧ w'.cell? ⟨w.heap.size, 3, none⟩ = some (.int .i64 at_) ∧ w'.cell? ⟨w.heap.size, 4, none⟩ = some (.slice la ll lc)) W'))
    refine wp_region_held_drew (S := (fun w' => w'.cell? ⟨w.heap.size, 0, none⟩ = some (.int .i64 1) ∧ w'.cell? ⟨w.heap.size, 1, none⟩ = some (.string tx) ∧ w'.cell? ⟨w.heap.size, 2, none⟩ = some (.int .u64 n) ∧ w'.cell? ⟨w.heap.size, 3, none⟩ = some (.int .i64 at_) ∧ w'.cell? ⟨w.heap.size, 4, none⟩ = some (.slice la ll lc))) (by kernel_rfl) (by exact hkeep.out _ (by (repeat (first | with_reducible exact Kp.refl _ | with_reducible refine Kp.alloc ?_ _ | with_reducible refine Kp.drew ?_ | with_reducible refine Kp.back hk3 ?_ | with_reducible refine Kp.back hk2 ?_ | with_reducible refine Kp.back hk1 ?_)))) (fun hHeld0 => ?_)
    refine wpAnyH_take (i := 0) (oi := { dst := some 7, op := Op.load 25 (Operand.tmp 1), type := 25, pos := "sound.go:46", after := #[], guard := none }) (v := ?_) rfl (by kernel_rfl) (by kernel_rfl) (by kernel_rfl) (fun _ _ _ h => h) (Or.inl ⟨by rfl, ?_⟩) (by assumption) ?_
    rotate_left
    · (intro wz hSw; (try dsimp only at hSw); go_simp; first | done | with_reducible rfl)
    try simp only [Act.put, List.setIfInBounds_toArray, List.set_cons_zero, List.set_cons_succ]
    refine wpAnyH_ready (rs := [1]) (by kernel_rfl) (by simp) ?_
    refine AllReadyH.cons (o := { dst := some 8, op := Op.call { callee := Callee.value (Operand.func 59), args := #[Operand.tmp 7], argTypes := #[25] }, type := 4, pos := "sound.go:46", after := #[{ on := 0, ground := Ground.data }], guard := none }) rfl (fun Kw hKw => ?_) AllReadyH.nil
    rw [if_pos (by rfl)]
    go_simp
    (go_at_call 59; (with_reducible refine (c_isBare ⟨1, tx, n, at_, la, ll, lc⟩ _).mono ?_); rintro e w' ⟨rfl, hk1⟩; rw [hq])
    (try go_wp2_with fail)
    refine hKw.out _ _ ?_ (fun hHeld1 => ?_)
    · exact hkeep.out _ (by (repeat (first | with_reducible exact Kp.refl _ | with_reducible refine Kp.alloc ?_ _ | with_reducible refine Kp.drew ?_ | with_reducible refine Kp.back hk3 ?_ | with_reducible refine Kp.back hk2 ?_ | with_reducible refine Kp.back hk1 ?_)))
    clear hKw Kw hHeld0
    try simp only [Act.put, List.setIfInBounds_toArray, List.set_cons_zero, List.set_cons_succ]
    refine wpAnyH_take (i := 2) (oi := { dst := some 9, op := Op.move (Operand.tmp 8), type := 4, pos := "sound.go:46", after := #[{ on := 1, ground := Ground.data }, { on := 1, ground := Ground.chain }], guard := none }) (v := ?_) rfl (by kernel_rfl) (by kernel_rfl) (by kernel_rfl) (fun _ _ _ h => h) (Or.inl ⟨by rfl, ?_⟩) (by assumption) ?_
    rotate_left
    · (intro wz hSw; (try dsimp only at hSw); go_simp; first | done | with_reducible rfl)
    try simp only [Act.put, List.setIfInBounds_toArray, List.set_cons_zero, List.set_cons_succ]
    refine wpAnyH_take (i := 3) (oi := { dst := some 10, op := Op.fieldAddr 25 (Operand.tmp 1) 4, type := 0, pos := "sound.go:46", after := #[{ on := 2, ground := Ground.guard }], guard := some (2, true) }) (v := undef) rfl (by kernel_rfl) (by kernel_rfl) (by kernel_rfl) (fun _ _ _ h => h) (Or.inr ⟨by rfl, rfl⟩) (by assumption) ?_
    try simp only [Act.put, List.setIfInBounds_toArray, List.set_cons_zero, List.set_cons_succ]
    refine wpAnyH_take (i := 4) (oi := { dst := some 11, op := Op.load 23 (Operand.tmp 10), type := 23, pos := "sound.go:46", after := #[{ on := 3, ground := Ground.data }, { on := 2, ground := Ground.guard }], guard := some (2, true) }) (v := undef) rfl (by kernel_rfl) (by kernel_rfl) (by kernel_rfl) (fun _ _ _ h => h) (Or.inr ⟨by rfl, rfl⟩) (by assumption) ?_
    try simp only [Act.put, List.setIfInBounds_toArray, List.set_cons_zero, List.set_cons_succ]
    refine wpAnyH_take (i := 5) (oi := { dst := some 12, op := Op.buildSlice 36 2 #[(0, Operand.const (Value.int IntKind.i64 2)), (1, Operand.const (Value.int IntKind.i64 3))], type := 36, pos := "sound.go:46", after := #[{ on := 2, ground := Ground.guard }], guard := some (2, true) }) (v := undef) rfl (by kernel_rfl) (by kernel_rfl) (by kernel_rfl) (fun _ _ _ h => h) (Or.inr ⟨by rfl, rfl⟩) (by assumption) ?_
    try simp only [Act.put, List.setIfInBounds_toArray, List.set_cons_zero, List.set_cons_succ]
    refine wpAnyH_take (i := 6) (oi := { dst := some 13, op := Op.call { callee := Callee.value (Operand.func 31), args := #[Operand.tmp 12], argTypes := #[36] }, type := 49, pos := "sound.go:46", after := #[{ on := 5, ground := Ground.data }, { on := 2, ground := Ground.chain }, { on := 2, ground := Ground.guard }], guard := some (2, true) }) (v := undef) rfl (by kernel_rfl) (by kernel_rfl) (by kernel_rfl) (fun _ _ _ h => h) (Or.inr ⟨by rfl, rfl⟩) (by assumption) ?_
    try simp only [Act.put, List.setIfInBounds_toArray, List.set_cons_zero, List.set_cons_succ]
    refine wpAnyH_take (i := 7) (oi := { dst := some 14, op := Op.call { callee := Callee.value (Operand.func 61), args := #[Operand.tmp 11, Operand.tmp 13], argTypes := #[23, 49] }, type := 4, pos := "sound.go:46", after := #[{ on := 4, ground := Ground.data }, { on := 6, ground := Ground.data }, { on := 6, ground := Ground.chain }, { on := 2, ground := Ground.guard }], guard := some (2, true) }) (v := undef) rfl (by kernel_rfl) (by kernel_rfl) (by kernel_rfl) (fun _ _ _ h => h) (Or.inr ⟨by rfl, rfl⟩) (by assumption) ?_
    try simp only [Act.put, List.setIfInBounds_toArray, List.set_cons_zero, List.set_cons_succ]
    refine wpAnyH_take (i := 8) (oi := { dst := some 15, op := Op.pick (Operand.tmp 9) (Operand.tmp 14) (Operand.const (Value.bool false)), type := 4, pos := "sound.go:46", after := #[{ on := 2, ground := Ground.data }, { on := 7, ground := Ground.data }], guard := none }) (v := ?_) rfl (by kernel_rfl) (by kernel_rfl) (by kernel_rfl) (fun _ _ _ h => h) (Or.inl ⟨by rfl, ?_⟩) (by assumption) ?_
    rotate_left
    · (intro wz hSw; (try dsimp only at hSw); go_simp; first | done | with_reducible rfl)
    try simp only [Act.put, List.setIfInBounds_toArray, List.set_cons_zero, List.set_cons_succ]
    refine wpAnyH_take (i := 9) (oi := { dst := some 2, op := Op.assign (Operand.tmp 15), type := 4, pos := "sound.go:46", after := #[{ on := 8, ground := Ground.data }, { on := 7, ground := Ground.chain }, { on := 0, ground := Ground.phase }, { on := 1, ground := Ground.phase }, { on := 2, ground := Ground.phase }, { on := 3, ground := Ground.phase }, { on := 4, ground := Ground.phase }, { on := 5, ground := Ground.phase }, { on := 6, ground := Ground.phase }, { on := 7, ground := Ground.phase }, { on := 8, ground := Ground.phase }], guard := none }) (v := ?_) rfl (by kernel_rfl) (by kernel_rfl) (by kernel_rfl) (fun _ _ _ h => h) (Or.inl ⟨by rfl, ?_⟩) (by assumption) ?_
    rotate_left
    · (intro wz hSw; (try dsimp only at hSw); go_simp; first | done | with_reducible rfl)
    try simp only [Act.put, List.setIfInBounds_toArray, List.set_cons_zero, List.set_cons_succ]
    refine wpAnyH_done (by kernel_rfl) ?_ _
    all_goals (go_wp2_with fail; go_ret; refine ⟨rfl, hkw.trans ?_⟩; (repeat (first | with_reducible exact Kp.refl _ | with_reducible refine Kp.alloc ?_ _ | with_reducible refine Kp.drew ?_ | with_reducible refine Kp.back hk3 ?_ | with_reducible refine Kp.back hk2 ?_ | with_reducible refine Kp.back hk1 ?_)))
  | true =>
    rw [Bool.true_and]
    go_enter Try.func53, Try.ntmps53
    go_wp2_with fail
    have b := boxed (w := w) (h := ⟨1, tx, n, at_, la, ll, lc⟩) (show Kp _ (w.alloc (.cells #[.int .i64 1, .string tx, .int .u64 n, .int .i64 at_, .slice la ll lc] 25)) by (repeat (first | with_reducible exact Kp.refl _ | with_reducible refine Kp.alloc ?_ _ | with_reducible refine Kp.drew ?_ | with_reducible refine Kp.back hk3 ?_ | with_reducible refine Kp.back hk2 ?_ | with_reducible refine Kp.back hk1 ?_)))
    simp only at b
    obtain ⟨b0, b1, b2, b3, b4, bs⟩ := b
    have hkw : Kp w (w.alloc (.cells #[.int .i64 1, .string tx, .int .u64 n, .int .i64 at_, .slice la ll lc] 25)) := by (repeat (first | with_reducible exact Kp.refl _ | with_reducible refine Kp.alloc ?_ _ | with_reducible refine Kp.drew ?_ | with_reducible refine Kp.back hk3 ?_ | with_reducible refine Kp.back hk2 ?_ | with_reducible refine Kp.back hk1 ?_))
    obtain ⟨W0, hW0⟩ : ∃ W0, (w.alloc (.cells #[.int .i64 1, .string tx, .int .u64 n, .int .i64 at_, .slice la ll lc] 25)) = W0 := ⟨_, rfl⟩
    rw [hW0] at b0 b1 b2 b3 b4 bs hkw ⊢
    skip
    clear hW0
    replace HL := Lib.hid (HL.out.keep hkw)
    have hkeep := Lib.hid (fun (W' : World) (hk : Kp W0 W') => (⟨hk.cellv b0, hk.cellv b1, hk.cellv b2, hk.cellv b3, hk.cellv b4⟩ : (fun w' => w'.cell? ⟨w.heap.size, 0, none⟩ = some (.int .i64 1) ∧ w'.cell? ⟨w.heap.size, 1, none⟩ = some (.string tx) ∧ w'.cell? ⟨w.heap.size, 2, none⟩ = some (.int .u64 n) ∧ w'.cell? ⟨w.heap.size, 3, none⟩ = some (.int .i64 at_) ∧ w'.cell? ⟨w.heap.size, 4, none⟩ = some (.slice la ll lc)) W'))
    go_region_held3 (fun w' => w'.cell? ⟨w.heap.size, 0, none⟩ = some (.int .i64 1) ∧ w'.cell? ⟨w.heap.size, 1, none⟩ = some (.string tx) ∧ w'.cell? ⟨w.heap.size, 2, none⟩ = some (.int .u64 n) ∧ w'.cell? ⟨w.heap.size, 3, none⟩ = some (.int .i64 at_) ∧ w'.cell? ⟨w.heap.size, 4, none⟩ = some (.slice la ll lc))
      (first | exact hkeep.out _ (by (repeat (first | with_reducible exact Kp.refl _ | with_reducible refine Kp.alloc ?_ _ | with_reducible refine Kp.drew ?_ | with_reducible refine Kp.back hk3 ?_ | with_reducible refine Kp.back hk2 ?_ | with_reducible refine Kp.back hk1 ?_))))
      ((first | (go_at_call 59; (with_reducible refine (c_isBare ⟨1, tx, n, at_, la, ll, lc⟩ _).mono ?_); rintro e w' ⟨rfl, hk1⟩; rw [hq]) | (go_at_call 31; (with_reducible refine (c_of2S _ _ _ 2 3 ?_ ?_).mono ?_); (focus (simp [go_sem]; done)); (focus (simp [go_sem]; done)); rintro e w' ⟨rfl, rfl, hso2⟩; (try simp only [World.size_alloc] at hso2)) | (go_at_call 61; (with_reducible refine (c_areAll _ ks la ll lc K (HL.out.keep (by (repeat (first | with_reducible exact Kp.refl _ | with_reducible refine Kp.alloc ?_ _ | with_reducible refine Kp.drew ?_ | with_reducible refine Kp.back hk3 ?_ | with_reducible refine Kp.back hk2 ?_ | with_reducible refine Kp.back hk1 ?_)))) _ (inK [2, 3]) (SortAt.keep (p := inK [2, 3]) hso2 (by (repeat (first | with_reducible exact Kp.refl _ | with_reducible refine Kp.alloc ?_ _ | with_reducible refine Kp.drew ?_ | with_reducible refine Kp.back hk3 ?_ | with_reducible refine Kp.back hk2 ?_ | with_reducible refine Kp.back hk1 ?_))))).mono ?_); rintro e w' ⟨rfl, hk2⟩)))
    all_goals (go_wp2_with fail; go_ret; refine ⟨rfl, hkw.trans ?_⟩; (repeat (first | with_reducible exact Kp.refl _ | with_reducible refine Kp.alloc ?_ _ | with_reducible refine Kp.drew ?_ | with_reducible refine Kp.back hk3 ?_ | with_reducible refine Kp.back hk2 ?_ | with_reducible refine Kp.back hk1 ?_)))
set_option maxHeartbeats 12800000 in
set_option maxRecDepth 100000 in
theorem form_2 (ks : List Int) (tx : ByteArray) (n at_ : Int) (la : Option Addr) (ll lc : Nat) (K : Nat → Hn) (w : World) (hL : ListAt w ks la ll lc K) (hcap : ll ≤ lc) (hs : tx.size ≤ 140737488351232) :
    Calls Try.prog 53 #[.agg #[.int .i64 2, .string tx, .int .u64 n, .int .i64 at_, .slice la ll lc]] w fun e w' => e = .returned (.bool (namedB tx n && fewB ks (inK [5]))) ∧ Kp w w' := by
  have hmf : ∀ (fn : Fn) (first cap : Array Value) (w : World), (Instr.makeFunc fn first cap).run Try.prog w = .ok (.func fn first cap) w := fun _ _ _ _ => rfl
  have HL := Lib.hid hL
  clear hL
  cases hq : namedB tx n with
  | false =>
    rw [Bool.false_and]
    go_enter Try.func53, Try.ntmps53
    go_wp2_with fail
    have b := boxed (w := w) (h := ⟨2, tx, n, at_, la, ll, lc⟩) (show Kp _ (w.alloc (.cells #[.int .i64 2, .string tx, .int .u64 n, .int .i64 at_, .slice la ll lc] 25)) by (repeat (first | with_reducible exact Kp.refl _ | with_reducible refine Kp.alloc ?_ _ | with_reducible refine Kp.drew ?_ | with_reducible refine Kp.back hk3 ?_ | with_reducible refine Kp.back hk2 ?_ | with_reducible refine Kp.back hk1 ?_)))
    simp only at b
    obtain ⟨b0, b1, b2, b3, b4, bs⟩ := b
    have hkw : Kp w (w.alloc (.cells #[.int .i64 2, .string tx, .int .u64 n, .int .i64 at_, .slice la ll lc] 25)) := by (repeat (first | with_reducible exact Kp.refl _ | with_reducible refine Kp.alloc ?_ _ | with_reducible refine Kp.drew ?_ | with_reducible refine Kp.back hk3 ?_ | with_reducible refine Kp.back hk2 ?_ | with_reducible refine Kp.back hk1 ?_))
    obtain ⟨W0, hW0⟩ : ∃ W0, (w.alloc (.cells #[.int .i64 2, .string tx, .int .u64 n, .int .i64 at_, .slice la ll lc] 25)) = W0 := ⟨_, rfl⟩
    rw [hW0] at b0 b1 b2 b3 b4 bs hkw ⊢
    skip
    clear hW0
    replace HL := Lib.hid (HL.out.keep hkw)
    have hkeep := Lib.hid (fun (W' : World) (hk : Kp W0 W') => (⟨hk.cellv b0, hk.cellv b1, hk.cellv b2, hk.cellv b3, hk.cellv b4⟩ : (fun w' => w'.cell? ⟨w.heap.size, 0, none⟩ = some (.int .i64 2) ∧ w'.cell? ⟨w.heap.size, 1, none⟩ = some (.string tx) ∧ w'.cell? ⟨w.heap.size, 2, none⟩ = some (.int .u64 n) ∧ w'.cell? ⟨w.heap.size, 3, none⟩ = some (.int .i64 at_) ∧ w'.cell? ⟨w.heap.size, 4, none⟩ = some (.slice la ll lc)) W'))
    refine wp_region_held_drew (S := (fun w' => w'.cell? ⟨w.heap.size, 0, none⟩ = some (.int .i64 2) ∧ w'.cell? ⟨w.heap.size, 1, none⟩ = some (.string tx) ∧ w'.cell? ⟨w.heap.size, 2, none⟩ = some (.int .u64 n) ∧ w'.cell? ⟨w.heap.size, 3, none⟩ = some (.int .i64 at_) ∧ w'.cell? ⟨w.heap.size, 4, none⟩ = some (.slice la ll lc))) (by kernel_rfl) (by exact hkeep.out _ (by (repeat (first | with_reducible exact Kp.refl _ | with_reducible refine Kp.alloc ?_ _ | with_reducible refine Kp.drew ?_ | with_reducible refine Kp.back hk3 ?_ | with_reducible refine Kp.back hk2 ?_ | with_reducible refine Kp.back hk1 ?_)))) (fun hHeld0 => ?_)
    refine wpAnyH_take (i := 0) (oi := { dst := some 18, op := Op.load 25 (Operand.tmp 1), type := 25, pos := "sound.go:48", after := #[], guard := none }) (v := ?_) rfl (by kernel_rfl) (by kernel_rfl) (by kernel_rfl) (fun _ _ _ h => h) (Or.inl ⟨by rfl, ?_⟩) (by assumption) ?_
    rotate_left
    · (intro wz hSw; (try dsimp only at hSw); go_simp; first | done | with_reducible rfl)
    try simp only [Act.put, List.setIfInBounds_toArray, List.set_cons_zero, List.set_cons_succ]
    refine wpAnyH_ready (rs := [1]) (by kernel_rfl) (by simp) ?_
    refine AllReadyH.cons (o := { dst := some 19, op := Op.call { callee := Callee.value (Operand.func 57), args := #[Operand.tmp 18], argTypes := #[25] }, type := 4, pos := "sound.go:48", after := #[{ on := 0, ground := Ground.data }], guard := none }) rfl (fun Kw hKw => ?_) AllReadyH.nil
    rw [if_pos (by rfl)]
    go_simp
    (go_at_call 57; (with_reducible refine (c_isNamed ⟨2, tx, n, at_, la, ll, lc⟩ _ hs).mono ?_); rintro e w' ⟨rfl, hk1⟩; rw [hq])
    (try go_wp2_with fail)
    refine hKw.out _ _ ?_ (fun hHeld1 => ?_)
    · exact hkeep.out _ (by (repeat (first | with_reducible exact Kp.refl _ | with_reducible refine Kp.alloc ?_ _ | with_reducible refine Kp.drew ?_ | with_reducible refine Kp.back hk3 ?_ | with_reducible refine Kp.back hk2 ?_ | with_reducible refine Kp.back hk1 ?_)))
    clear hKw Kw hHeld0
    try simp only [Act.put, List.setIfInBounds_toArray, List.set_cons_zero, List.set_cons_succ]
    refine wpAnyH_take (i := 2) (oi := { dst := some 20, op := Op.move (Operand.tmp 19), type := 4, pos := "sound.go:48", after := #[{ on := 1, ground := Ground.data }, { on := 1, ground := Ground.chain }], guard := none }) (v := ?_) rfl (by kernel_rfl) (by kernel_rfl) (by kernel_rfl) (fun _ _ _ h => h) (Or.inl ⟨by rfl, ?_⟩) (by assumption) ?_
    rotate_left
    · (intro wz hSw; (try dsimp only at hSw); go_simp; first | done | with_reducible rfl)
    try simp only [Act.put, List.setIfInBounds_toArray, List.set_cons_zero, List.set_cons_succ]
    refine wpAnyH_take (i := 3) (oi := { dst := some 21, op := Op.fieldAddr 25 (Operand.tmp 1) 4, type := 0, pos := "sound.go:48", after := #[{ on := 2, ground := Ground.guard }], guard := some (2, true) }) (v := undef) rfl (by kernel_rfl) (by kernel_rfl) (by kernel_rfl) (fun _ _ _ h => h) (Or.inr ⟨by rfl, rfl⟩) (by assumption) ?_
    try simp only [Act.put, List.setIfInBounds_toArray, List.set_cons_zero, List.set_cons_succ]
    refine wpAnyH_take (i := 4) (oi := { dst := some 22, op := Op.load 23 (Operand.tmp 21), type := 23, pos := "sound.go:48", after := #[{ on := 3, ground := Ground.data }, { on := 2, ground := Ground.guard }], guard := some (2, true) }) (v := undef) rfl (by kernel_rfl) (by kernel_rfl) (by kernel_rfl) (fun _ _ _ h => h) (Or.inr ⟨by rfl, rfl⟩) (by assumption) ?_
    try simp only [Act.put, List.setIfInBounds_toArray, List.set_cons_zero, List.set_cons_succ]
    refine wpAnyH_take (i := 5) (oi := { dst := some 23, op := Op.buildSlice 36 1 #[(0, Operand.const (Value.int IntKind.i64 5))], type := 36, pos := "sound.go:48", after := #[{ on := 2, ground := Ground.guard }], guard := some (2, true) }) (v := undef) rfl (by kernel_rfl) (by kernel_rfl) (by kernel_rfl) (fun _ _ _ h => h) (Or.inr ⟨by rfl, rfl⟩) (by assumption) ?_
    try simp only [Act.put, List.setIfInBounds_toArray, List.set_cons_zero, List.set_cons_succ]
    refine wpAnyH_take (i := 6) (oi := { dst := some 24, op := Op.call { callee := Callee.value (Operand.func 31), args := #[Operand.tmp 23], argTypes := #[36] }, type := 49, pos := "sound.go:48", after := #[{ on := 5, ground := Ground.data }, { on := 2, ground := Ground.chain }, { on := 2, ground := Ground.guard }], guard := some (2, true) }) (v := undef) rfl (by kernel_rfl) (by kernel_rfl) (by kernel_rfl) (fun _ _ _ h => h) (Or.inr ⟨by rfl, rfl⟩) (by assumption) ?_
    try simp only [Act.put, List.setIfInBounds_toArray, List.set_cons_zero, List.set_cons_succ]
    refine wpAnyH_take (i := 7) (oi := { dst := some 25, op := Op.call { callee := Callee.value (Operand.func 66), args := #[Operand.tmp 22, Operand.tmp 24], argTypes := #[23, 49] }, type := 4, pos := "sound.go:48", after := #[{ on := 4, ground := Ground.data }, { on := 6, ground := Ground.data }, { on := 6, ground := Ground.chain }, { on := 2, ground := Ground.guard }], guard := some (2, true) }) (v := undef) rfl (by kernel_rfl) (by kernel_rfl) (by kernel_rfl) (fun _ _ _ h => h) (Or.inr ⟨by rfl, rfl⟩) (by assumption) ?_
    try simp only [Act.put, List.setIfInBounds_toArray, List.set_cons_zero, List.set_cons_succ]
    refine wpAnyH_take (i := 8) (oi := { dst := some 26, op := Op.pick (Operand.tmp 20) (Operand.tmp 25) (Operand.const (Value.bool false)), type := 4, pos := "sound.go:48", after := #[{ on := 2, ground := Ground.data }, { on := 7, ground := Ground.data }], guard := none }) (v := ?_) rfl (by kernel_rfl) (by kernel_rfl) (by kernel_rfl) (fun _ _ _ h => h) (Or.inl ⟨by rfl, ?_⟩) (by assumption) ?_
    rotate_left
    · (intro wz hSw; (try dsimp only at hSw); go_simp; first | done | with_reducible rfl)
    try simp only [Act.put, List.setIfInBounds_toArray, List.set_cons_zero, List.set_cons_succ]
    refine wpAnyH_take (i := 9) (oi := { dst := some 2, op := Op.assign (Operand.tmp 26), type := 4, pos := "sound.go:48", after := #[{ on := 8, ground := Ground.data }, { on := 7, ground := Ground.chain }, { on := 0, ground := Ground.phase }, { on := 1, ground := Ground.phase }, { on := 2, ground := Ground.phase }, { on := 3, ground := Ground.phase }, { on := 4, ground := Ground.phase }, { on := 5, ground := Ground.phase }, { on := 6, ground := Ground.phase }, { on := 7, ground := Ground.phase }, { on := 8, ground := Ground.phase }], guard := none }) (v := ?_) rfl (by kernel_rfl) (by kernel_rfl) (by kernel_rfl) (fun _ _ _ h => h) (Or.inl ⟨by rfl, ?_⟩) (by assumption) ?_
    rotate_left
    · (intro wz hSw; (try dsimp only at hSw); go_simp; first | done | with_reducible rfl)
    try simp only [Act.put, List.setIfInBounds_toArray, List.set_cons_zero, List.set_cons_succ]
    refine wpAnyH_done (by kernel_rfl) ?_ _
    all_goals (go_wp2_with fail; go_ret; refine ⟨rfl, hkw.trans ?_⟩; (repeat (first | with_reducible exact Kp.refl _ | with_reducible refine Kp.alloc ?_ _ | with_reducible refine Kp.drew ?_ | with_reducible refine Kp.back hk3 ?_ | with_reducible refine Kp.back hk2 ?_ | with_reducible refine Kp.back hk1 ?_)))
  | true =>
    rw [Bool.true_and]
    go_enter Try.func53, Try.ntmps53
    go_wp2_with fail
    have b := boxed (w := w) (h := ⟨2, tx, n, at_, la, ll, lc⟩) (show Kp _ (w.alloc (.cells #[.int .i64 2, .string tx, .int .u64 n, .int .i64 at_, .slice la ll lc] 25)) by (repeat (first | with_reducible exact Kp.refl _ | with_reducible refine Kp.alloc ?_ _ | with_reducible refine Kp.drew ?_ | with_reducible refine Kp.back hk3 ?_ | with_reducible refine Kp.back hk2 ?_ | with_reducible refine Kp.back hk1 ?_)))
    simp only at b
    obtain ⟨b0, b1, b2, b3, b4, bs⟩ := b
    have hkw : Kp w (w.alloc (.cells #[.int .i64 2, .string tx, .int .u64 n, .int .i64 at_, .slice la ll lc] 25)) := by (repeat (first | with_reducible exact Kp.refl _ | with_reducible refine Kp.alloc ?_ _ | with_reducible refine Kp.drew ?_ | with_reducible refine Kp.back hk3 ?_ | with_reducible refine Kp.back hk2 ?_ | with_reducible refine Kp.back hk1 ?_))
    obtain ⟨W0, hW0⟩ : ∃ W0, (w.alloc (.cells #[.int .i64 2, .string tx, .int .u64 n, .int .i64 at_, .slice la ll lc] 25)) = W0 := ⟨_, rfl⟩
    rw [hW0] at b0 b1 b2 b3 b4 bs hkw ⊢
    skip
    clear hW0
    replace HL := Lib.hid (HL.out.keep hkw)
    have hkeep := Lib.hid (fun (W' : World) (hk : Kp W0 W') => (⟨hk.cellv b0, hk.cellv b1, hk.cellv b2, hk.cellv b3, hk.cellv b4⟩ : (fun w' => w'.cell? ⟨w.heap.size, 0, none⟩ = some (.int .i64 2) ∧ w'.cell? ⟨w.heap.size, 1, none⟩ = some (.string tx) ∧ w'.cell? ⟨w.heap.size, 2, none⟩ = some (.int .u64 n) ∧ w'.cell? ⟨w.heap.size, 3, none⟩ = some (.int .i64 at_) ∧ w'.cell? ⟨w.heap.size, 4, none⟩ = some (.slice la ll lc)) W'))
    go_region_held3 (fun w' => w'.cell? ⟨w.heap.size, 0, none⟩ = some (.int .i64 2) ∧ w'.cell? ⟨w.heap.size, 1, none⟩ = some (.string tx) ∧ w'.cell? ⟨w.heap.size, 2, none⟩ = some (.int .u64 n) ∧ w'.cell? ⟨w.heap.size, 3, none⟩ = some (.int .i64 at_) ∧ w'.cell? ⟨w.heap.size, 4, none⟩ = some (.slice la ll lc))
      (first | exact hkeep.out _ (by (repeat (first | with_reducible exact Kp.refl _ | with_reducible refine Kp.alloc ?_ _ | with_reducible refine Kp.drew ?_ | with_reducible refine Kp.back hk3 ?_ | with_reducible refine Kp.back hk2 ?_ | with_reducible refine Kp.back hk1 ?_))))
      ((first | (go_at_call 57; (with_reducible refine (c_isNamed ⟨2, tx, n, at_, la, ll, lc⟩ _ hs).mono ?_); rintro e w' ⟨rfl, hk1⟩; rw [hq]) | (go_at_call 31; (with_reducible refine (c_of1S _ _ _ 5 ?_).mono ?_); (focus (simp [go_sem]; done)); rintro e w' ⟨rfl, rfl, hso5⟩; (try simp only [World.size_alloc] at hso5)) | (go_at_call 66; (with_reducible refine (c_areFew _ ks la ll lc K (HL.out.keep (by (repeat (first | with_reducible exact Kp.refl _ | with_reducible refine Kp.alloc ?_ _ | with_reducible refine Kp.drew ?_ | with_reducible refine Kp.back hk3 ?_ | with_reducible refine Kp.back hk2 ?_ | with_reducible refine Kp.back hk1 ?_)))) _ (inK [5]) (SortAt.keep (p := inK [5]) hso5 (by (repeat (first | with_reducible exact Kp.refl _ | with_reducible refine Kp.alloc ?_ _ | with_reducible refine Kp.drew ?_ | with_reducible refine Kp.back hk3 ?_ | with_reducible refine Kp.back hk2 ?_ | with_reducible refine Kp.back hk1 ?_))))).mono ?_); rintro e w' ⟨rfl, hk2⟩)))
    all_goals (go_wp2_with fail; go_ret; refine ⟨rfl, hkw.trans ?_⟩; (repeat (first | with_reducible exact Kp.refl _ | with_reducible refine Kp.alloc ?_ _ | with_reducible refine Kp.drew ?_ | with_reducible refine Kp.back hk3 ?_ | with_reducible refine Kp.back hk2 ?_ | with_reducible refine Kp.back hk1 ?_)))
set_option maxHeartbeats 12800000 in
set_option maxRecDepth 100000 in
theorem form_4 (ks : List Int) (tx : ByteArray) (n at_ : Int) (la : Option Addr) (ll lc : Nat) (K : Nat → Hn) (w : World) (hL : ListAt w ks la ll lc K) (hcap : ll ≤ lc) (hs : tx.size ≤ 140737488351232) :
    Calls Try.prog 53 #[.agg #[.int .i64 4, .string tx, .int .u64 n, .int .i64 at_, .slice la ll lc]] w fun e w' => e = .returned (.bool (bareB tx n && fewB ks (inK [8]))) ∧ Kp w w' := by
  have hmf : ∀ (fn : Fn) (first cap : Array Value) (w : World), (Instr.makeFunc fn first cap).run Try.prog w = .ok (.func fn first cap) w := fun _ _ _ _ => rfl
  have HL := Lib.hid hL
  clear hL
  cases hq : bareB tx n with
  | false =>
    rw [Bool.false_and]
    go_enter Try.func53, Try.ntmps53
    go_wp2_with fail
    have b := boxed (w := w) (h := ⟨4, tx, n, at_, la, ll, lc⟩) (show Kp _ (w.alloc (.cells #[.int .i64 4, .string tx, .int .u64 n, .int .i64 at_, .slice la ll lc] 25)) by (repeat (first | with_reducible exact Kp.refl _ | with_reducible refine Kp.alloc ?_ _ | with_reducible refine Kp.drew ?_ | with_reducible refine Kp.back hk3 ?_ | with_reducible refine Kp.back hk2 ?_ | with_reducible refine Kp.back hk1 ?_)))
    simp only at b
    obtain ⟨b0, b1, b2, b3, b4, bs⟩ := b
    have hkw : Kp w (w.alloc (.cells #[.int .i64 4, .string tx, .int .u64 n, .int .i64 at_, .slice la ll lc] 25)) := by (repeat (first | with_reducible exact Kp.refl _ | with_reducible refine Kp.alloc ?_ _ | with_reducible refine Kp.drew ?_ | with_reducible refine Kp.back hk3 ?_ | with_reducible refine Kp.back hk2 ?_ | with_reducible refine Kp.back hk1 ?_))
    obtain ⟨W0, hW0⟩ : ∃ W0, (w.alloc (.cells #[.int .i64 4, .string tx, .int .u64 n, .int .i64 at_, .slice la ll lc] 25)) = W0 := ⟨_, rfl⟩
    rw [hW0] at b0 b1 b2 b3 b4 bs hkw ⊢
    skip
    clear hW0
    replace HL := Lib.hid (HL.out.keep hkw)
    have hkeep := Lib.hid (fun (W' : World) (hk : Kp W0 W') => (⟨hk.cellv b0, hk.cellv b1, hk.cellv b2, hk.cellv b3, hk.cellv b4⟩ : (fun w' => w'.cell? ⟨w.heap.size, 0, none⟩ = some (.int .i64 4) ∧ w'.cell? ⟨w.heap.size, 1, none⟩ = some (.string tx) ∧ w'.cell? ⟨w.heap.size, 2, none⟩ = some (.int .u64 n) ∧ w'.cell? ⟨w.heap.size, 3, none⟩ = some (.int .i64 at_) ∧ w'.cell? ⟨w.heap.size, 4, none⟩ = some (.slice la ll lc)) W'))
    refine wp_region_held_drew (S := (fun w' => w'.cell? ⟨w.heap.size, 0, none⟩ = some (.int .i64 4) ∧ w'.cell? ⟨w.heap.size, 1, none⟩ = some (.string tx) ∧ w'.cell? ⟨w.heap.size, 2, none⟩ = some (.int .u64 n) ∧ w'.cell? ⟨w.heap.size, 3, none⟩ = some (.int .i64 at_) ∧ w'.cell? ⟨w.heap.size, 4, none⟩ = some (.slice la ll lc))) (by kernel_rfl) (by exact hkeep.out _ (by (repeat (first | with_reducible exact Kp.refl _ | with_reducible refine Kp.alloc ?_ _ | with_reducible refine Kp.drew ?_ | with_reducible refine Kp.back hk3 ?_ | with_reducible refine Kp.back hk2 ?_ | with_reducible refine Kp.back hk1 ?_)))) (fun hHeld0 => ?_)
    refine wpAnyH_take (i := 0) (oi := { dst := some 47, op := Op.load 25 (Operand.tmp 1), type := 25, pos := "sound.go:52", after := #[], guard := none }) (v := ?_) rfl (by kernel_rfl) (by kernel_rfl) (by kernel_rfl) (fun _ _ _ h => h) (Or.inl ⟨by rfl, ?_⟩) (by assumption) ?_
    rotate_left
    · (intro wz hSw; (try dsimp only at hSw); go_simp; first | done | with_reducible rfl)
    try simp only [Act.put, List.setIfInBounds_toArray, List.set_cons_zero, List.set_cons_succ]
    refine wpAnyH_ready (rs := [1]) (by kernel_rfl) (by simp) ?_
    refine AllReadyH.cons (o := { dst := some 48, op := Op.call { callee := Callee.value (Operand.func 59), args := #[Operand.tmp 47], argTypes := #[25] }, type := 4, pos := "sound.go:52", after := #[{ on := 0, ground := Ground.data }], guard := none }) rfl (fun Kw hKw => ?_) AllReadyH.nil
    rw [if_pos (by rfl)]
    go_simp
    (go_at_call 59; (with_reducible refine (c_isBare ⟨4, tx, n, at_, la, ll, lc⟩ _).mono ?_); rintro e w' ⟨rfl, hk1⟩; rw [hq])
    (try go_wp2_with fail)
    refine hKw.out _ _ ?_ (fun hHeld1 => ?_)
    · exact hkeep.out _ (by (repeat (first | with_reducible exact Kp.refl _ | with_reducible refine Kp.alloc ?_ _ | with_reducible refine Kp.drew ?_ | with_reducible refine Kp.back hk3 ?_ | with_reducible refine Kp.back hk2 ?_ | with_reducible refine Kp.back hk1 ?_)))
    clear hKw Kw hHeld0
    try simp only [Act.put, List.setIfInBounds_toArray, List.set_cons_zero, List.set_cons_succ]
    refine wpAnyH_take (i := 2) (oi := { dst := some 49, op := Op.move (Operand.tmp 48), type := 4, pos := "sound.go:52", after := #[{ on := 1, ground := Ground.data }, { on := 1, ground := Ground.chain }], guard := none }) (v := ?_) rfl (by kernel_rfl) (by kernel_rfl) (by kernel_rfl) (fun _ _ _ h => h) (Or.inl ⟨by rfl, ?_⟩) (by assumption) ?_
    rotate_left
    · (intro wz hSw; (try dsimp only at hSw); go_simp; first | done | with_reducible rfl)
    try simp only [Act.put, List.setIfInBounds_toArray, List.set_cons_zero, List.set_cons_succ]
    refine wpAnyH_take (i := 3) (oi := { dst := some 50, op := Op.fieldAddr 25 (Operand.tmp 1) 4, type := 0, pos := "sound.go:52", after := #[{ on := 2, ground := Ground.guard }], guard := some (2, true) }) (v := undef) rfl (by kernel_rfl) (by kernel_rfl) (by kernel_rfl) (fun _ _ _ h => h) (Or.inr ⟨by rfl, rfl⟩) (by assumption) ?_
    try simp only [Act.put, List.setIfInBounds_toArray, List.set_cons_zero, List.set_cons_succ]
    refine wpAnyH_take (i := 4) (oi := { dst := some 51, op := Op.load 23 (Operand.tmp 50), type := 23, pos := "sound.go:52", after := #[{ on := 3, ground := Ground.data }, { on := 2, ground := Ground.guard }], guard := some (2, true) }) (v := undef) rfl (by kernel_rfl) (by kernel_rfl) (by kernel_rfl) (fun _ _ _ h => h) (Or.inr ⟨by rfl, rfl⟩) (by assumption) ?_
    try simp only [Act.put, List.setIfInBounds_toArray, List.set_cons_zero, List.set_cons_succ]
    refine wpAnyH_take (i := 5) (oi := { dst := some 52, op := Op.buildSlice 36 1 #[(0, Operand.const (Value.int IntKind.i64 8))], type := 36, pos := "sound.go:52", after := #[{ on := 2, ground := Ground.guard }], guard := some (2, true) }) (v := undef) rfl (by kernel_rfl) (by kernel_rfl) (by kernel_rfl) (fun _ _ _ h => h) (Or.inr ⟨by rfl, rfl⟩) (by assumption) ?_
    try simp only [Act.put, List.setIfInBounds_toArray, List.set_cons_zero, List.set_cons_succ]
    refine wpAnyH_take (i := 6) (oi := { dst := some 53, op := Op.call { callee := Callee.value (Operand.func 31), args := #[Operand.tmp 52], argTypes := #[36] }, type := 49, pos := "sound.go:52", after := #[{ on := 5, ground := Ground.data }, { on := 2, ground := Ground.chain }, { on := 2, ground := Ground.guard }], guard := some (2, true) }) (v := undef) rfl (by kernel_rfl) (by kernel_rfl) (by kernel_rfl) (fun _ _ _ h => h) (Or.inr ⟨by rfl, rfl⟩) (by assumption) ?_
    try simp only [Act.put, List.setIfInBounds_toArray, List.set_cons_zero, List.set_cons_succ]
    refine wpAnyH_take (i := 7) (oi := { dst := some 54, op := Op.call { callee := Callee.value (Operand.func 66), args := #[Operand.tmp 51, Operand.tmp 53], argTypes := #[23, 49] }, type := 4, pos := "sound.go:52", after := #[{ on := 4, ground := Ground.data }, { on := 6, ground := Ground.data }, { on := 6, ground := Ground.chain }, { on := 2, ground := Ground.guard }], guard := some (2, true) }) (v := undef) rfl (by kernel_rfl) (by kernel_rfl) (by kernel_rfl) (fun _ _ _ h => h) (Or.inr ⟨by rfl, rfl⟩) (by assumption) ?_
    try simp only [Act.put, List.setIfInBounds_toArray, List.set_cons_zero, List.set_cons_succ]
    refine wpAnyH_take (i := 8) (oi := { dst := some 55, op := Op.pick (Operand.tmp 49) (Operand.tmp 54) (Operand.const (Value.bool false)), type := 4, pos := "sound.go:52", after := #[{ on := 2, ground := Ground.data }, { on := 7, ground := Ground.data }], guard := none }) (v := ?_) rfl (by kernel_rfl) (by kernel_rfl) (by kernel_rfl) (fun _ _ _ h => h) (Or.inl ⟨by rfl, ?_⟩) (by assumption) ?_
    rotate_left
    · (intro wz hSw; (try dsimp only at hSw); go_simp; first | done | with_reducible rfl)
    try simp only [Act.put, List.setIfInBounds_toArray, List.set_cons_zero, List.set_cons_succ]
    refine wpAnyH_take (i := 9) (oi := { dst := some 2, op := Op.assign (Operand.tmp 55), type := 4, pos := "sound.go:52", after := #[{ on := 8, ground := Ground.data }, { on := 7, ground := Ground.chain }, { on := 0, ground := Ground.phase }, { on := 1, ground := Ground.phase }, { on := 2, ground := Ground.phase }, { on := 3, ground := Ground.phase }, { on := 4, ground := Ground.phase }, { on := 5, ground := Ground.phase }, { on := 6, ground := Ground.phase }, { on := 7, ground := Ground.phase }, { on := 8, ground := Ground.phase }], guard := none }) (v := ?_) rfl (by kernel_rfl) (by kernel_rfl) (by kernel_rfl) (fun _ _ _ h => h) (Or.inl ⟨by rfl, ?_⟩) (by assumption) ?_
    rotate_left
    · (intro wz hSw; (try dsimp only at hSw); go_simp; first | done | with_reducible rfl)
    try simp only [Act.put, List.setIfInBounds_toArray, List.set_cons_zero, List.set_cons_succ]
    refine wpAnyH_done (by kernel_rfl) ?_ _
    all_goals (go_wp2_with fail; go_ret; refine ⟨rfl, hkw.trans ?_⟩; (repeat (first | with_reducible exact Kp.refl _ | with_reducible refine Kp.alloc ?_ _ | with_reducible refine Kp.drew ?_ | with_reducible refine Kp.back hk3 ?_ | with_reducible refine Kp.back hk2 ?_ | with_reducible refine Kp.back hk1 ?_)))
  | true =>
    rw [Bool.true_and]
    go_enter Try.func53, Try.ntmps53
    go_wp2_with fail
    have b := boxed (w := w) (h := ⟨4, tx, n, at_, la, ll, lc⟩) (show Kp _ (w.alloc (.cells #[.int .i64 4, .string tx, .int .u64 n, .int .i64 at_, .slice la ll lc] 25)) by (repeat (first | with_reducible exact Kp.refl _ | with_reducible refine Kp.alloc ?_ _ | with_reducible refine Kp.drew ?_ | with_reducible refine Kp.back hk3 ?_ | with_reducible refine Kp.back hk2 ?_ | with_reducible refine Kp.back hk1 ?_)))
    simp only at b
    obtain ⟨b0, b1, b2, b3, b4, bs⟩ := b
    have hkw : Kp w (w.alloc (.cells #[.int .i64 4, .string tx, .int .u64 n, .int .i64 at_, .slice la ll lc] 25)) := by (repeat (first | with_reducible exact Kp.refl _ | with_reducible refine Kp.alloc ?_ _ | with_reducible refine Kp.drew ?_ | with_reducible refine Kp.back hk3 ?_ | with_reducible refine Kp.back hk2 ?_ | with_reducible refine Kp.back hk1 ?_))
    obtain ⟨W0, hW0⟩ : ∃ W0, (w.alloc (.cells #[.int .i64 4, .string tx, .int .u64 n, .int .i64 at_, .slice la ll lc] 25)) = W0 := ⟨_, rfl⟩
    rw [hW0] at b0 b1 b2 b3 b4 bs hkw ⊢
    skip
    clear hW0
    replace HL := Lib.hid (HL.out.keep hkw)
    have hkeep := Lib.hid (fun (W' : World) (hk : Kp W0 W') => (⟨hk.cellv b0, hk.cellv b1, hk.cellv b2, hk.cellv b3, hk.cellv b4⟩ : (fun w' => w'.cell? ⟨w.heap.size, 0, none⟩ = some (.int .i64 4) ∧ w'.cell? ⟨w.heap.size, 1, none⟩ = some (.string tx) ∧ w'.cell? ⟨w.heap.size, 2, none⟩ = some (.int .u64 n) ∧ w'.cell? ⟨w.heap.size, 3, none⟩ = some (.int .i64 at_) ∧ w'.cell? ⟨w.heap.size, 4, none⟩ = some (.slice la ll lc)) W'))
    go_region_held3 (fun w' => w'.cell? ⟨w.heap.size, 0, none⟩ = some (.int .i64 4) ∧ w'.cell? ⟨w.heap.size, 1, none⟩ = some (.string tx) ∧ w'.cell? ⟨w.heap.size, 2, none⟩ = some (.int .u64 n) ∧ w'.cell? ⟨w.heap.size, 3, none⟩ = some (.int .i64 at_) ∧ w'.cell? ⟨w.heap.size, 4, none⟩ = some (.slice la ll lc))
      (first | exact hkeep.out _ (by (repeat (first | with_reducible exact Kp.refl _ | with_reducible refine Kp.alloc ?_ _ | with_reducible refine Kp.drew ?_ | with_reducible refine Kp.back hk3 ?_ | with_reducible refine Kp.back hk2 ?_ | with_reducible refine Kp.back hk1 ?_))))
      ((first | (go_at_call 59; (with_reducible refine (c_isBare ⟨4, tx, n, at_, la, ll, lc⟩ _).mono ?_); rintro e w' ⟨rfl, hk1⟩; rw [hq]) | (go_at_call 31; (with_reducible refine (c_of1S _ _ _ 8 ?_).mono ?_); (focus (simp [go_sem]; done)); rintro e w' ⟨rfl, rfl, hso8⟩; (try simp only [World.size_alloc] at hso8)) | (go_at_call 66; (with_reducible refine (c_areFew _ ks la ll lc K (HL.out.keep (by (repeat (first | with_reducible exact Kp.refl _ | with_reducible refine Kp.alloc ?_ _ | with_reducible refine Kp.drew ?_ | with_reducible refine Kp.back hk3 ?_ | with_reducible refine Kp.back hk2 ?_ | with_reducible refine Kp.back hk1 ?_)))) _ (inK [8]) (SortAt.keep (p := inK [8]) hso8 (by (repeat (first | with_reducible exact Kp.refl _ | with_reducible refine Kp.alloc ?_ _ | with_reducible refine Kp.drew ?_ | with_reducible refine Kp.back hk3 ?_ | with_reducible refine Kp.back hk2 ?_ | with_reducible refine Kp.back hk1 ?_))))).mono ?_); rintro e w' ⟨rfl, hk2⟩)))
    all_goals (go_wp2_with fail; go_ret; refine ⟨rfl, hkw.trans ?_⟩; (repeat (first | with_reducible exact Kp.refl _ | with_reducible refine Kp.alloc ?_ _ | with_reducible refine Kp.drew ?_ | with_reducible refine Kp.back hk3 ?_ | with_reducible refine Kp.back hk2 ?_ | with_reducible refine Kp.back hk1 ?_)))
set_option maxHeartbeats 12800000 in
set_option maxRecDepth 100000 in
theorem form_5 (ks : List Int) (tx : ByteArray) (n at_ : Int) (la : Option Addr) (ll lc : Nat) (K : Nat → Hn) (w : World) (hL : ListAt w ks la ll lc K) (hcap : ll ≤ lc) (hs : tx.size ≤ 140737488351232) :
    Calls Try.prog 53 #[.agg #[.int .i64 5, .string tx, .int .u64 n, .int .i64 at_, .slice la ll lc]] w fun e w' => e = .returned (.bool (namedB tx n && areB ks [tyK])) ∧ Kp w w' := by
  have hmf : ∀ (fn : Fn) (first cap : Array Value) (w : World), (Instr.makeFunc fn first cap).run Try.prog w = .ok (.func fn first cap) w := fun _ _ _ _ => rfl
  have HL := Lib.hid hL
  clear hL
  cases hq : namedB tx n with
  | false =>
    rw [Bool.false_and]
    go_enter Try.func53, Try.ntmps53
    go_wp2_with (first | (go_at_call 57; (with_reducible refine (c_isNamed ⟨5, tx, n, at_, la, ll, lc⟩ _ hs).mono ?_); rintro e w' ⟨rfl, hk1⟩; rw [hq]; have b := boxed (w := w) (h := ⟨5, tx, n, at_, la, ll, lc⟩) (show Kp _ w' by (repeat (first | with_reducible exact Kp.refl _ | with_reducible refine Kp.alloc ?_ _ | with_reducible refine Kp.drew ?_ | with_reducible refine Kp.back hk3 ?_ | with_reducible refine Kp.back hk2 ?_ | with_reducible refine Kp.back hk1 ?_))); simp only at b; obtain ⟨b0, b1, b2, b3, b4, bs⟩ := b))
    go_ret
    refine ⟨rfl, ?_⟩
    (repeat (first | with_reducible exact Kp.refl _ | with_reducible refine Kp.alloc ?_ _ | with_reducible refine Kp.drew ?_ | with_reducible refine Kp.back hk3 ?_ | with_reducible refine Kp.back hk2 ?_ | with_reducible refine Kp.back hk1 ?_))
  | true =>
    rw [Bool.true_and]
    go_enter Try.func53, Try.ntmps53
    go_wp2_with (first | (go_at_call 57; (with_reducible refine (c_isNamed ⟨5, tx, n, at_, la, ll, lc⟩ _ hs).mono ?_); rintro e w' ⟨rfl, hk1⟩; rw [hq]; have b := boxed (w := w) (h := ⟨5, tx, n, at_, la, ll, lc⟩) (show Kp _ w' by (repeat (first | with_reducible exact Kp.refl _ | with_reducible refine Kp.alloc ?_ _ | with_reducible refine Kp.drew ?_ | with_reducible refine Kp.back hk3 ?_ | with_reducible refine Kp.back hk2 ?_ | with_reducible refine Kp.back hk1 ?_))); simp only at b; obtain ⟨b0, b1, b2, b3, b4, bs⟩ := b) | (go_at_call 58; (with_reducible refine (c_are _ ks la ll lc K (HL.out.keep (by (repeat (first | with_reducible exact Kp.refl _ | with_reducible refine Kp.alloc ?_ _ | with_reducible refine Kp.drew ?_ | with_reducible refine Kp.back hk3 ?_ | with_reducible refine Kp.back hk2 ?_ | with_reducible refine Kp.back hk1 ?_)))) [tyK] _ _ _ _ (sorts1 (by simp) (sort_ty _))).mono ?_); rintro e w' ⟨rfl, hk2⟩))
    go_ret
    refine ⟨rfl, ?_⟩
    (repeat (first | with_reducible exact Kp.refl _ | with_reducible refine Kp.alloc ?_ _ | with_reducible refine Kp.drew ?_ | with_reducible refine Kp.back hk3 ?_ | with_reducible refine Kp.back hk2 ?_ | with_reducible refine Kp.back hk1 ?_))
set_option maxHeartbeats 12800000 in
set_option maxRecDepth 100000 in
theorem form_6 (ks : List Int) (tx : ByteArray) (n at_ : Int) (la : Option Addr) (ll lc : Nat) (K : Nat → Hn) (w : World) (hL : ListAt w ks la ll lc K) (hcap : ll ≤ lc) (hs : tx.size ≤ 140737488351232) :
    Calls Try.prog 53 #[.agg #[.int .i64 6, .string tx, .int .u64 n, .int .i64 at_, .slice la ll lc]] w fun e w' => e = .returned (.bool (bareB tx n && fewB ks (inK [5]))) ∧ Kp w w' := by
  have hmf : ∀ (fn : Fn) (first cap : Array Value) (w : World), (Instr.makeFunc fn first cap).run Try.prog w = .ok (.func fn first cap) w := fun _ _ _ _ => rfl
  have HL := Lib.hid hL
  clear hL
  cases hq : bareB tx n with
  | false =>
    rw [Bool.false_and]
    go_enter Try.func53, Try.ntmps53
    go_wp2_with fail
    have b := boxed (w := w) (h := ⟨6, tx, n, at_, la, ll, lc⟩) (show Kp _ (w.alloc (.cells #[.int .i64 6, .string tx, .int .u64 n, .int .i64 at_, .slice la ll lc] 25)) by (repeat (first | with_reducible exact Kp.refl _ | with_reducible refine Kp.alloc ?_ _ | with_reducible refine Kp.drew ?_ | with_reducible refine Kp.back hk3 ?_ | with_reducible refine Kp.back hk2 ?_ | with_reducible refine Kp.back hk1 ?_)))
    simp only at b
    obtain ⟨b0, b1, b2, b3, b4, bs⟩ := b
    have hkw : Kp w (w.alloc (.cells #[.int .i64 6, .string tx, .int .u64 n, .int .i64 at_, .slice la ll lc] 25)) := by (repeat (first | with_reducible exact Kp.refl _ | with_reducible refine Kp.alloc ?_ _ | with_reducible refine Kp.drew ?_ | with_reducible refine Kp.back hk3 ?_ | with_reducible refine Kp.back hk2 ?_ | with_reducible refine Kp.back hk1 ?_))
    obtain ⟨W0, hW0⟩ : ∃ W0, (w.alloc (.cells #[.int .i64 6, .string tx, .int .u64 n, .int .i64 at_, .slice la ll lc] 25)) = W0 := ⟨_, rfl⟩
    rw [hW0] at b0 b1 b2 b3 b4 bs hkw ⊢
    skip
    clear hW0
    replace HL := Lib.hid (HL.out.keep hkw)
    have hkeep := Lib.hid (fun (W' : World) (hk : Kp W0 W') => (⟨hk.cellv b0, hk.cellv b1, hk.cellv b2, hk.cellv b3, hk.cellv b4⟩ : (fun w' => w'.cell? ⟨w.heap.size, 0, none⟩ = some (.int .i64 6) ∧ w'.cell? ⟨w.heap.size, 1, none⟩ = some (.string tx) ∧ w'.cell? ⟨w.heap.size, 2, none⟩ = some (.int .u64 n) ∧ w'.cell? ⟨w.heap.size, 3, none⟩ = some (.int .i64 at_) ∧ w'.cell? ⟨w.heap.size, 4, none⟩ = some (.slice la ll lc)) W'))
    refine wp_region_held_drew (S := (fun w' => w'.cell? ⟨w.heap.size, 0, none⟩ = some (.int .i64 6) ∧ w'.cell? ⟨w.heap.size, 1, none⟩ = some (.string tx) ∧ w'.cell? ⟨w.heap.size, 2, none⟩ = some (.int .u64 n) ∧ w'.cell? ⟨w.heap.size, 3, none⟩ = some (.int .i64 at_) ∧ w'.cell? ⟨w.heap.size, 4, none⟩ = some (.slice la ll lc))) (by kernel_rfl) (by exact hkeep.out _ (by (repeat (first | with_reducible exact Kp.refl _ | with_reducible refine Kp.alloc ?_ _ | with_reducible refine Kp.drew ?_ | with_reducible refine Kp.back hk3 ?_ | with_reducible refine Kp.back hk2 ?_ | with_reducible refine Kp.back hk1 ?_)))) (fun hHeld0 => ?_)
    refine wpAnyH_take (i := 0) (oi := { dst := some 68, op := Op.load 25 (Operand.tmp 1), type := 25, pos := "sound.go:56", after := #[], guard := none }) (v := ?_) rfl (by kernel_rfl) (by kernel_rfl) (by kernel_rfl) (fun _ _ _ h => h) (Or.inl ⟨by rfl, ?_⟩) (by assumption) ?_
    rotate_left
    · (intro wz hSw; (try dsimp only at hSw); go_simp; first | done | with_reducible rfl)
    try simp only [Act.put, List.setIfInBounds_toArray, List.set_cons_zero, List.set_cons_succ]
    refine wpAnyH_ready (rs := [1]) (by kernel_rfl) (by simp) ?_
    refine AllReadyH.cons (o := { dst := some 69, op := Op.call { callee := Callee.value (Operand.func 59), args := #[Operand.tmp 68], argTypes := #[25] }, type := 4, pos := "sound.go:56", after := #[{ on := 0, ground := Ground.data }], guard := none }) rfl (fun Kw hKw => ?_) AllReadyH.nil
    rw [if_pos (by rfl)]
    go_simp
    (go_at_call 59; (with_reducible refine (c_isBare ⟨6, tx, n, at_, la, ll, lc⟩ _).mono ?_); rintro e w' ⟨rfl, hk1⟩; rw [hq])
    (try go_wp2_with fail)
    refine hKw.out _ _ ?_ (fun hHeld1 => ?_)
    · exact hkeep.out _ (by (repeat (first | with_reducible exact Kp.refl _ | with_reducible refine Kp.alloc ?_ _ | with_reducible refine Kp.drew ?_ | with_reducible refine Kp.back hk3 ?_ | with_reducible refine Kp.back hk2 ?_ | with_reducible refine Kp.back hk1 ?_)))
    clear hKw Kw hHeld0
    try simp only [Act.put, List.setIfInBounds_toArray, List.set_cons_zero, List.set_cons_succ]
    refine wpAnyH_take (i := 2) (oi := { dst := some 70, op := Op.move (Operand.tmp 69), type := 4, pos := "sound.go:56", after := #[{ on := 1, ground := Ground.data }, { on := 1, ground := Ground.chain }], guard := none }) (v := ?_) rfl (by kernel_rfl) (by kernel_rfl) (by kernel_rfl) (fun _ _ _ h => h) (Or.inl ⟨by rfl, ?_⟩) (by assumption) ?_
    rotate_left
    · (intro wz hSw; (try dsimp only at hSw); go_simp; first | done | with_reducible rfl)
    try simp only [Act.put, List.setIfInBounds_toArray, List.set_cons_zero, List.set_cons_succ]
    refine wpAnyH_take (i := 3) (oi := { dst := some 71, op := Op.fieldAddr 25 (Operand.tmp 1) 4, type := 0, pos := "sound.go:56", after := #[{ on := 2, ground := Ground.guard }], guard := some (2, true) }) (v := undef) rfl (by kernel_rfl) (by kernel_rfl) (by kernel_rfl) (fun _ _ _ h => h) (Or.inr ⟨by rfl, rfl⟩) (by assumption) ?_
    try simp only [Act.put, List.setIfInBounds_toArray, List.set_cons_zero, List.set_cons_succ]
    refine wpAnyH_take (i := 4) (oi := { dst := some 72, op := Op.load 23 (Operand.tmp 71), type := 23, pos := "sound.go:56", after := #[{ on := 3, ground := Ground.data }, { on := 2, ground := Ground.guard }], guard := some (2, true) }) (v := undef) rfl (by kernel_rfl) (by kernel_rfl) (by kernel_rfl) (fun _ _ _ h => h) (Or.inr ⟨by rfl, rfl⟩) (by assumption) ?_
    try simp only [Act.put, List.setIfInBounds_toArray, List.set_cons_zero, List.set_cons_succ]
    refine wpAnyH_take (i := 5) (oi := { dst := some 73, op := Op.buildSlice 36 1 #[(0, Operand.const (Value.int IntKind.i64 5))], type := 36, pos := "sound.go:56", after := #[{ on := 2, ground := Ground.guard }], guard := some (2, true) }) (v := undef) rfl (by kernel_rfl) (by kernel_rfl) (by kernel_rfl) (fun _ _ _ h => h) (Or.inr ⟨by rfl, rfl⟩) (by assumption) ?_
    try simp only [Act.put, List.setIfInBounds_toArray, List.set_cons_zero, List.set_cons_succ]
    refine wpAnyH_take (i := 6) (oi := { dst := some 74, op := Op.call { callee := Callee.value (Operand.func 31), args := #[Operand.tmp 73], argTypes := #[36] }, type := 49, pos := "sound.go:56", after := #[{ on := 5, ground := Ground.data }, { on := 2, ground := Ground.chain }, { on := 2, ground := Ground.guard }], guard := some (2, true) }) (v := undef) rfl (by kernel_rfl) (by kernel_rfl) (by kernel_rfl) (fun _ _ _ h => h) (Or.inr ⟨by rfl, rfl⟩) (by assumption) ?_
    try simp only [Act.put, List.setIfInBounds_toArray, List.set_cons_zero, List.set_cons_succ]
    refine wpAnyH_take (i := 7) (oi := { dst := some 75, op := Op.call { callee := Callee.value (Operand.func 66), args := #[Operand.tmp 72, Operand.tmp 74], argTypes := #[23, 49] }, type := 4, pos := "sound.go:56", after := #[{ on := 4, ground := Ground.data }, { on := 6, ground := Ground.data }, { on := 6, ground := Ground.chain }, { on := 2, ground := Ground.guard }], guard := some (2, true) }) (v := undef) rfl (by kernel_rfl) (by kernel_rfl) (by kernel_rfl) (fun _ _ _ h => h) (Or.inr ⟨by rfl, rfl⟩) (by assumption) ?_
    try simp only [Act.put, List.setIfInBounds_toArray, List.set_cons_zero, List.set_cons_succ]
    refine wpAnyH_take (i := 8) (oi := { dst := some 76, op := Op.pick (Operand.tmp 70) (Operand.tmp 75) (Operand.const (Value.bool false)), type := 4, pos := "sound.go:56", after := #[{ on := 2, ground := Ground.data }, { on := 7, ground := Ground.data }], guard := none }) (v := ?_) rfl (by kernel_rfl) (by kernel_rfl) (by kernel_rfl) (fun _ _ _ h => h) (Or.inl ⟨by rfl, ?_⟩) (by assumption) ?_
    rotate_left
    · (intro wz hSw; (try dsimp only at hSw); go_simp; first | done | with_reducible rfl)
    try simp only [Act.put, List.setIfInBounds_toArray, List.set_cons_zero, List.set_cons_succ]
    refine wpAnyH_take (i := 9) (oi := { dst := some 2, op := Op.assign (Operand.tmp 76), type := 4, pos := "sound.go:56", after := #[{ on := 8, ground := Ground.data }, { on := 7, ground := Ground.chain }, { on := 0, ground := Ground.phase }, { on := 1, ground := Ground.phase }, { on := 2, ground := Ground.phase }, { on := 3, ground := Ground.phase }, { on := 4, ground := Ground.phase }, { on := 5, ground := Ground.phase }, { on := 6, ground := Ground.phase }, { on := 7, ground := Ground.phase }, { on := 8, ground := Ground.phase }], guard := none }) (v := ?_) rfl (by kernel_rfl) (by kernel_rfl) (by kernel_rfl) (fun _ _ _ h => h) (Or.inl ⟨by rfl, ?_⟩) (by assumption) ?_
    rotate_left
    · (intro wz hSw; (try dsimp only at hSw); go_simp; first | done | with_reducible rfl)
    try simp only [Act.put, List.setIfInBounds_toArray, List.set_cons_zero, List.set_cons_succ]
    refine wpAnyH_done (by kernel_rfl) ?_ _
    all_goals (go_wp2_with fail; go_ret; refine ⟨rfl, hkw.trans ?_⟩; (repeat (first | with_reducible exact Kp.refl _ | with_reducible refine Kp.alloc ?_ _ | with_reducible refine Kp.drew ?_ | with_reducible refine Kp.back hk3 ?_ | with_reducible refine Kp.back hk2 ?_ | with_reducible refine Kp.back hk1 ?_)))
  | true =>
    rw [Bool.true_and]
    go_enter Try.func53, Try.ntmps53
    go_wp2_with fail
    have b := boxed (w := w) (h := ⟨6, tx, n, at_, la, ll, lc⟩) (show Kp _ (w.alloc (.cells #[.int .i64 6, .string tx, .int .u64 n, .int .i64 at_, .slice la ll lc] 25)) by (repeat (first | with_reducible exact Kp.refl _ | with_reducible refine Kp.alloc ?_ _ | with_reducible refine Kp.drew ?_ | with_reducible refine Kp.back hk3 ?_ | with_reducible refine Kp.back hk2 ?_ | with_reducible refine Kp.back hk1 ?_)))
    simp only at b
    obtain ⟨b0, b1, b2, b3, b4, bs⟩ := b
    have hkw : Kp w (w.alloc (.cells #[.int .i64 6, .string tx, .int .u64 n, .int .i64 at_, .slice la ll lc] 25)) := by (repeat (first | with_reducible exact Kp.refl _ | with_reducible refine Kp.alloc ?_ _ | with_reducible refine Kp.drew ?_ | with_reducible refine Kp.back hk3 ?_ | with_reducible refine Kp.back hk2 ?_ | with_reducible refine Kp.back hk1 ?_))
    obtain ⟨W0, hW0⟩ : ∃ W0, (w.alloc (.cells #[.int .i64 6, .string tx, .int .u64 n, .int .i64 at_, .slice la ll lc] 25)) = W0 := ⟨_, rfl⟩
    rw [hW0] at b0 b1 b2 b3 b4 bs hkw ⊢
    skip
    clear hW0
    replace HL := Lib.hid (HL.out.keep hkw)
    have hkeep := Lib.hid (fun (W' : World) (hk : Kp W0 W') => (⟨hk.cellv b0, hk.cellv b1, hk.cellv b2, hk.cellv b3, hk.cellv b4⟩ : (fun w' => w'.cell? ⟨w.heap.size, 0, none⟩ = some (.int .i64 6) ∧ w'.cell? ⟨w.heap.size, 1, none⟩ = some (.string tx) ∧ w'.cell? ⟨w.heap.size, 2, none⟩ = some (.int .u64 n) ∧ w'.cell? ⟨w.heap.size, 3, none⟩ = some (.int .i64 at_) ∧ w'.cell? ⟨w.heap.size, 4, none⟩ = some (.slice la ll lc)) W'))
    go_region_held3 (fun w' => w'.cell? ⟨w.heap.size, 0, none⟩ = some (.int .i64 6) ∧ w'.cell? ⟨w.heap.size, 1, none⟩ = some (.string tx) ∧ w'.cell? ⟨w.heap.size, 2, none⟩ = some (.int .u64 n) ∧ w'.cell? ⟨w.heap.size, 3, none⟩ = some (.int .i64 at_) ∧ w'.cell? ⟨w.heap.size, 4, none⟩ = some (.slice la ll lc))
      (first | exact hkeep.out _ (by (repeat (first | with_reducible exact Kp.refl _ | with_reducible refine Kp.alloc ?_ _ | with_reducible refine Kp.drew ?_ | with_reducible refine Kp.back hk3 ?_ | with_reducible refine Kp.back hk2 ?_ | with_reducible refine Kp.back hk1 ?_))))
      ((first | (go_at_call 59; (with_reducible refine (c_isBare ⟨6, tx, n, at_, la, ll, lc⟩ _).mono ?_); rintro e w' ⟨rfl, hk1⟩; rw [hq]) | (go_at_call 31; (with_reducible refine (c_of1S _ _ _ 5 ?_).mono ?_); (focus (simp [go_sem]; done)); rintro e w' ⟨rfl, rfl, hso5⟩; (try simp only [World.size_alloc] at hso5)) | (go_at_call 66; (with_reducible refine (c_areFew _ ks la ll lc K (HL.out.keep (by (repeat (first | with_reducible exact Kp.refl _ | with_reducible refine Kp.alloc ?_ _ | with_reducible refine Kp.drew ?_ | with_reducible refine Kp.back hk3 ?_ | with_reducible refine Kp.back hk2 ?_ | with_reducible refine Kp.back hk1 ?_)))) _ (inK [5]) (SortAt.keep (p := inK [5]) hso5 (by (repeat (first | with_reducible exact Kp.refl _ | with_reducible refine Kp.alloc ?_ _ | with_reducible refine Kp.drew ?_ | with_reducible refine Kp.back hk3 ?_ | with_reducible refine Kp.back hk2 ?_ | with_reducible refine Kp.back hk1 ?_))))).mono ?_); rintro e w' ⟨rfl, hk2⟩)))
    all_goals (go_wp2_with fail; go_ret; refine ⟨rfl, hkw.trans ?_⟩; (repeat (first | with_reducible exact Kp.refl _ | with_reducible refine Kp.alloc ?_ _ | with_reducible refine Kp.drew ?_ | with_reducible refine Kp.back hk3 ?_ | with_reducible refine Kp.back hk2 ?_ | with_reducible refine Kp.back hk1 ?_)))
end Go.Proofs.Ytgamenimbkafjaa
