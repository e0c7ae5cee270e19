/- Cases that receive, if, select: what their Kinds ask for. Condition: the node lies in memory. -/
import Derived.Test.YtgamenimbkafjaaF5
import Derived.Deep.RegionHeld3
namespace Go.Proofs.Ytgamenimbkafjaa
open Go.RowKit
set_option linter.unusedVariables false
set_option linter.unusedSimpArgs false
set_option maxHeartbeats 12800000 in
set_option maxRecDepth 100000 in
theorem form_43 (ks : List Int) (tx : ByteArray) (n at_ : Int) (la : Option Addr) (ll lc : Nat) (K : Nat → Hn) (w : World) (hL : ListAt w ks la ll lc K) (hcap : ll ≤ lc) (hs : tx.size ≤ 140737488351232) :
    Calls Try.prog 53 #[.agg #[.int .i64 43, .string tx, .int .u64 n, .int .i64 at_, .slice la ll lc]] w fun e w' => e = .returned (.bool ((bareB tx n || namedB tx n) && areB ks [exK, inK [20]])) ∧ Kp w w' := by
  have hmf : ∀ (fn : Fn) (first cap : Array Value) (w : World), (Instr.makeFunc fn first cap).run Try.prog w = .ok (.func fn first cap) w := fun _ _ _ _ => rfl
  have HL := Lib.hid hL
  clear hL
  cases hq : bareB tx n with
  | true =>
    rw [Bool.true_or, Bool.true_and]
    go_enter Try.func53, Try.ntmps53
    go_wp2_with fail
    have b := boxed (w := w) (h := ⟨43, tx, n, at_, la, ll, lc⟩) (show Kp _ (w.alloc (.cells #[.int .i64 43, .string tx, .int .u64 n, .int .i64 at_, .slice la ll lc] 25)) by (repeat (first | with_reducible exact Kp.refl _ | with_reducible refine Kp.alloc ?_ _ | with_reducible refine Kp.drew ?_ | with_reducible refine Kp.back hk3 ?_ | with_reducible refine Kp.back hk2 ?_ | with_reducible refine Kp.back hk1 ?_)))
    simp only at b
    obtain ⟨b0, b1, b2, b3, b4, bs⟩ := b
    have hkw : Kp w (w.alloc (.cells #[.int .i64 43, .string tx, .int .u64 n, .int .i64 at_, .slice la ll lc] 25)) := by (repeat (first | with_reducible exact Kp.refl _ | with_reducible refine Kp.alloc ?_ _ | with_reducible refine Kp.drew ?_ | with_reducible refine Kp.back hk3 ?_ | with_reducible refine Kp.back hk2 ?_ | with_reducible refine Kp.back hk1 ?_))
    obtain ⟨W0, hW0⟩ : ∃ W0, (w.alloc (.cells #[.int .i64 43, .string tx, .int .u64 n, .int .i64 at_, .slice la ll lc] 25)) = W0 := ⟨_, rfl⟩
    rw [hW0] at b0 b1 b2 b3 b4 bs hkw ⊢
    skip
    clear hW0
    replace HL := Lib.hid (HL.out.keep hkw)
    refine wp_region_held_drew (S := (fun w' => w'.cell? ⟨w.heap.size, 0, none⟩ = some (.int .i64 43) ∧ w'.cell? ⟨w.heap.size, 1, none⟩ = some (.string tx) ∧ w'.cell? ⟨w.heap.size, 2, none⟩ = some (.int .u64 n) ∧ w'.cell? ⟨w.heap.size, 3, none⟩ = some (.int .i64 at_) ∧ w'.cell? ⟨w.heap.size, 4, none⟩ = some (.slice la ll lc))) (by kernel_rfl) (by (refine ⟨Kp.cellv (a := W0) ?_ b0, Kp.cellv (a := W0) ?_ b1, Kp.cellv (a := W0) ?_ b2, Kp.cellv (a := W0) ?_ b3, Kp.cellv (a := W0) ?_ b4⟩ <;> (repeat (first | with_reducible exact Kp.refl _ | with_reducible refine Kp.alloc ?_ _ | with_reducible refine Kp.drew ?_ | with_reducible refine Kp.back hk3 ?_ | with_reducible refine Kp.back hk2 ?_ | with_reducible refine Kp.back hk1 ?_)))) (fun hHeld0 => ?_)
    refine wpAnyH_take (i := 0) (oi := { dst := some 114, op := Op.load 25 (Operand.tmp 1), type := 25, pos := "sound.go:62", after := #[], guard := none }) (v := ?_) rfl (by kernel_rfl) (by kernel_rfl) (by kernel_rfl) (fun _ _ _ h => h) (Or.inl ⟨by rfl, ?_⟩) (by assumption) ?_
    rotate_left
    · (intro wz hSw; (try dsimp only at hSw); go_simp; first | done | with_reducible rfl)
    try simp only [Act.put, List.setIfInBounds_toArray, List.set_cons_zero, List.set_cons_succ]
    refine wpAnyH_ready (rs := [1]) (by kernel_rfl) (by simp) ?_
    refine AllReadyH.cons (o := { dst := some 115, op := Op.call { callee := Callee.value (Operand.func 59), args := #[Operand.tmp 114], argTypes := #[25] }, type := 4, pos := "sound.go:62", after := #[{ on := 0, ground := Ground.data }], guard := none }) rfl (fun Kw hKw => ?_) AllReadyH.nil
    rw [if_pos (by rfl)]
    go_simp
    (refine (c_isBare ⟨43, tx, n, at_, la, ll, lc⟩ _).mono ?_; rintro e w' ⟨rfl, hk1⟩; rw [hq])
    (try go_wp2_with fail)
    refine hKw.out _ _ ?_ (fun hHeld1 => ?_)
    · (refine ⟨Kp.cellv (a := W0) ?_ b0, Kp.cellv (a := W0) ?_ b1, Kp.cellv (a := W0) ?_ b2, Kp.cellv (a := W0) ?_ b3, Kp.cellv (a := W0) ?_ b4⟩ <;> (repeat (first | with_reducible exact Kp.refl _ | with_reducible refine Kp.alloc ?_ _ | with_reducible refine Kp.drew ?_ | with_reducible refine Kp.back hk3 ?_ | with_reducible refine Kp.back hk2 ?_ | with_reducible refine Kp.back hk1 ?_)))
    clear hKw Kw hHeld0
    try simp only [Act.put, List.setIfInBounds_toArray, List.set_cons_zero, List.set_cons_succ]
    refine wpAnyH_take (i := 2) (oi := { dst := some 116, op := Op.move (Operand.tmp 115), type := 4, pos := "sound.go:62", after := #[{ on := 1, ground := Ground.data }, { on := 1, ground := Ground.chain }], guard := none }) (v := ?_) rfl (by kernel_rfl) (by kernel_rfl) (by kernel_rfl) (fun _ _ _ h => h) (Or.inl ⟨by rfl, ?_⟩) (by assumption) ?_
    rotate_left
    · (intro wz hSw; (try dsimp only at hSw); go_simp; first | done | with_reducible rfl)
    try simp only [Act.put, List.setIfInBounds_toArray, List.set_cons_zero, List.set_cons_succ]
    refine wpAnyH_take (i := 3) (oi := { dst := some 117, op := Op.load 25 (Operand.tmp 1), type := 25, pos := "sound.go:62", after := #[{ on := 2, ground := Ground.guard }], guard := some (2, false) }) (v := undef) rfl (by kernel_rfl) (by kernel_rfl) (by kernel_rfl) (fun _ _ _ h => h) (Or.inr ⟨by rfl, rfl⟩) (by assumption) ?_
    try simp only [Act.put, List.setIfInBounds_toArray, List.set_cons_zero, List.set_cons_succ]
    refine wpAnyH_take (i := 4) (oi := { dst := some 118, op := Op.call { callee := Callee.value (Operand.func 57), args := #[Operand.tmp 117], argTypes := #[25] }, type := 4, pos := "sound.go:62", after := #[{ on := 3, ground := Ground.data }, { on := 2, ground := Ground.chain }, { on := 2, ground := Ground.guard }], guard := some (2, false) }) (v := undef) rfl (by kernel_rfl) (by kernel_rfl) (by kernel_rfl) (fun _ _ _ h => h) (Or.inr ⟨by rfl, rfl⟩) (by assumption) ?_
    try simp only [Act.put, List.setIfInBounds_toArray, List.set_cons_zero, List.set_cons_succ]
    refine wpAnyH_take (i := 5) (oi := { dst := some 119, op := Op.pick (Operand.tmp 116) (Operand.const (Value.bool true)) (Operand.tmp 118), type := 4, pos := "sound.go:62", after := #[{ on := 2, ground := Ground.data }, { on := 4, ground := Ground.data }], guard := none }) (v := ?_) rfl (by kernel_rfl) (by kernel_rfl) (by kernel_rfl) (fun _ _ _ h => h) (Or.inl ⟨by rfl, ?_⟩) (by assumption) ?_
    rotate_left
    · (intro wz hSw; (try dsimp only at hSw); go_simp; first | done | with_reducible rfl)
    try simp only [Act.put, List.setIfInBounds_toArray, List.set_cons_zero, List.set_cons_succ]
    refine wpAnyH_take (i := 6) (oi := { dst := some 120, op := Op.move (Operand.tmp 119), type := 4, pos := "sound.go:62", after := #[{ on := 5, ground := Ground.data }, { on := 4, ground := Ground.chain }], guard := none }) (v := ?_) rfl (by kernel_rfl) (by kernel_rfl) (by kernel_rfl) (fun _ _ _ h => h) (Or.inl ⟨by rfl, ?_⟩) (by assumption) ?_
    rotate_left
    · (intro wz hSw; (try dsimp only at hSw); go_simp; first | done | with_reducible rfl)
    try simp only [Act.put, List.setIfInBounds_toArray, List.set_cons_zero, List.set_cons_succ]
    refine wpAnyH_take (i := 7) (oi := { dst := some 121, op := Op.fieldAddr 25 (Operand.tmp 1) 4, type := 0, pos := "sound.go:62", after := #[{ on := 6, ground := Ground.guard }], guard := some (6, true) }) (v := ?_) rfl (by kernel_rfl) (by kernel_rfl) (by kernel_rfl) (fun _ _ _ h => h) (Or.inl ⟨by rfl, ?_⟩) (by assumption) ?_
    rotate_left
    · (intro wz hSw; (try dsimp only at hSw); go_simp; first | done | with_reducible rfl)
    try simp only [Act.put, List.setIfInBounds_toArray, List.set_cons_zero, List.set_cons_succ]
    refine wpAnyH_take (i := 8) (oi := { dst := some 122, op := Op.load 23 (Operand.tmp 121), type := 23, pos := "sound.go:62", after := #[{ on := 7, ground := Ground.data }, { on := 6, ground := Ground.guard }], guard := some (6, true) }) (v := ?_) rfl (by kernel_rfl) (by kernel_rfl) (by kernel_rfl) (fun _ _ _ h => h) (Or.inl ⟨by rfl, ?_⟩) (by assumption) ?_
    rotate_left
    · (intro wz hSw; (try dsimp only at hSw); go_simp; first | done | with_reducible rfl)
    try simp only [Act.put, List.setIfInBounds_toArray, List.set_cons_zero, List.set_cons_succ]
    refine wpAnyH_ready (rs := [9]) (by kernel_rfl) (by simp) ?_
    refine AllReadyH.cons (o := { dst := some 123, op := Op.buildSlice 36 1 #[(0, Operand.const (Value.int IntKind.i64 20))], type := 36, pos := "sound.go:62", after := #[{ on := 6, ground := Ground.guard }], guard := some (6, true) }) rfl (fun Kw hKw => ?_) AllReadyH.nil
    rw [if_pos (by rfl)]
    go_simp
    refine hKw.out _ _ ?_ (fun hHeld2 => ?_)
    · (refine ⟨Kp.cellv (a := W0) ?_ b0, Kp.cellv (a := W0) ?_ b1, Kp.cellv (a := W0) ?_ b2, Kp.cellv (a := W0) ?_ b3, Kp.cellv (a := W0) ?_ b4⟩ <;> (repeat (first | with_reducible exact Kp.refl _ | with_reducible refine Kp.alloc ?_ _ | with_reducible refine Kp.drew ?_ | with_reducible refine Kp.back hk3 ?_ | with_reducible refine Kp.back hk2 ?_ | with_reducible refine Kp.back hk1 ?_)))
    clear hKw Kw hHeld1
    try simp only [Act.put, List.setIfInBounds_toArray, List.set_cons_zero, List.set_cons_succ]
    refine wpAnyH_ready (rs := [10]) (by kernel_rfl) (by simp) ?_
    refine AllReadyH.cons (o := { dst := some 124, op := Op.call { callee := Callee.value (Operand.func 31), args := #[Operand.tmp 123], argTypes := #[36] }, type := 49, pos := "sound.go:62", after := #[{ on := 9, ground := Ground.data }, { on := 6, ground := Ground.chain }, { on := 6, ground := Ground.guard }], guard := some (6, true) }) rfl (fun Kw hKw => ?_) AllReadyH.nil
    rw [if_pos (by rfl)]
    go_simp
    (refine (c_of1S _ _ _ 20 (by simp [go_sem])).mono ?_; rintro e w' ⟨rfl, rfl, hso⟩; (try simp only [World.size_alloc] at hso))
    (try go_wp2_with fail)
    refine hKw.out _ _ ?_ (fun hHeld3 => ?_)
    · (refine ⟨Kp.cellv (a := W0) ?_ b0, Kp.cellv (a := W0) ?_ b1, Kp.cellv (a := W0) ?_ b2, Kp.cellv (a := W0) ?_ b3, Kp.cellv (a := W0) ?_ b4⟩ <;> (repeat (first | with_reducible exact Kp.refl _ | with_reducible refine Kp.alloc ?_ _ | with_reducible refine Kp.drew ?_ | with_reducible refine Kp.back hk3 ?_ | with_reducible refine Kp.back hk2 ?_ | with_reducible refine Kp.back hk1 ?_)))
    clear hKw Kw hHeld2
    try simp only [Act.put, List.setIfInBounds_toArray, List.set_cons_zero, List.set_cons_succ]
    refine wpAnyH_ready (rs := [11]) (by kernel_rfl) (by simp) ?_
    refine AllReadyH.cons (o := { dst := some 125, op := Op.buildSlice 65 2 #[(0, Operand.func 33), (1, Operand.tmp 124)], type := 65, pos := "sound.go:62", after := #[{ on := 10, ground := Ground.data }, { on := 6, ground := Ground.guard }], guard := some (6, true) }) rfl (fun Kw hKw => ?_) AllReadyH.nil
    rw [if_pos (by rfl)]
    go_simp
    refine hKw.out _ _ ?_ (fun hHeld4 => ?_)
    · (refine ⟨Kp.cellv (a := W0) ?_ b0, Kp.cellv (a := W0) ?_ b1, Kp.cellv (a := W0) ?_ b2, Kp.cellv (a := W0) ?_ b3, Kp.cellv (a := W0) ?_ b4⟩ <;> (repeat (first | with_reducible exact Kp.refl _ | with_reducible refine Kp.alloc ?_ _ | with_reducible refine Kp.drew ?_ | with_reducible refine Kp.back hk3 ?_ | with_reducible refine Kp.back hk2 ?_ | with_reducible refine Kp.back hk1 ?_)))
    clear hKw Kw hHeld3
    try simp only [Act.put, List.setIfInBounds_toArray, List.set_cons_zero, List.set_cons_succ]
    refine wpAnyH_ready (rs := [12]) (by kernel_rfl) (by simp) ?_
    refine AllReadyH.cons (o := { dst := some 126, op := Op.call { callee := Callee.value (Operand.func 58), args := #[Operand.tmp 122, Operand.tmp 125], argTypes := #[23, 65] }, type := 4, pos := "sound.go:62", after := #[{ on := 8, ground := Ground.data }, { on := 11, ground := Ground.data }, { on := 10, ground := Ground.chain }, { on := 6, ground := Ground.guard }], guard := some (6, true) }) rfl (fun Kw hKw => ?_) AllReadyH.nil
    rw [if_pos (by rfl)]
    go_simp
    (refine (c_are _ ks la ll lc K (HL.out.keep (by (repeat (first | with_reducible exact Kp.refl _ | with_reducible refine Kp.alloc ?_ _ | with_reducible refine Kp.drew ?_ | with_reducible refine Kp.back hk3 ?_ | with_reducible refine Kp.back hk2 ?_ | with_reducible refine Kp.back hk1 ?_)))) [exK, (inK [20])] _ _ _ _ (sorts2 (by simp) (sort_ex _) (SortAt.keep (p := inK [20]) hso (by (repeat (first | with_reducible exact Kp.refl _ | with_reducible refine Kp.alloc ?_ _ | with_reducible refine Kp.drew ?_ | with_reducible refine Kp.back hk3 ?_ | with_reducible refine Kp.back hk2 ?_ | with_reducible refine Kp.back hk1 ?_)))))).mono ?_; rintro e w' ⟨rfl, hk3⟩)
    (try go_wp2_with fail)
    refine hKw.out _ _ ?_ (fun hHeld5 => ?_)
    · (refine ⟨Kp.cellv (a := W0) ?_ b0, Kp.cellv (a := W0) ?_ b1, Kp.cellv (a := W0) ?_ b2, Kp.cellv (a := W0) ?_ b3, Kp.cellv (a := W0) ?_ b4⟩ <;> (repeat (first | with_reducible exact Kp.refl _ | with_reducible refine Kp.alloc ?_ _ | with_reducible refine Kp.drew ?_ | with_reducible refine Kp.back hk3 ?_ | with_reducible refine Kp.back hk2 ?_ | with_reducible refine Kp.back hk1 ?_)))
    clear hKw Kw hHeld4
    try simp only [Act.put, List.setIfInBounds_toArray, List.set_cons_zero, List.set_cons_succ]
    refine wpAnyH_take (i := 13) (oi := { dst := some 127, op := Op.pick (Operand.tmp 120) (Operand.tmp 126) (Operand.const (Value.bool false)), type := 4, pos := "sound.go:62", after := #[{ on := 6, ground := Ground.data }, { on := 12, ground := Ground.data }], guard := none }) (v := ?_) rfl (by kernel_rfl) (by kernel_rfl) (by kernel_rfl) (fun _ _ _ h => h) (Or.inl ⟨by rfl, ?_⟩) (by assumption) ?_
    rotate_left
    · (intro wz hSw; (try dsimp only at hSw); go_simp; first | done | with_reducible rfl)
    try simp only [Act.put, List.setIfInBounds_toArray, List.set_cons_zero, List.set_cons_succ]
    refine wpAnyH_take (i := 14) (oi := { dst := some 2, op := Op.assign (Operand.tmp 127), type := 4, pos := "sound.go:62", after := #[{ on := 13, ground := Ground.data }, { on := 12, ground := Ground.chain }, { on := 0, ground := Ground.phase }, { on := 1, ground := Ground.phase }, { on := 2, ground := Ground.phase }, { on := 3, ground := Ground.phase }, { on := 4, ground := Ground.phase }, { on := 5, ground := Ground.phase }, { on := 6, ground := Ground.phase }, { on := 7, ground := Ground.phase }, { on := 8, ground := Ground.phase }, { on := 9, ground := Ground.phase }, { on := 10, ground := Ground.phase }, { on := 11, ground := Ground.phase }, { on := 12, ground := Ground.phase }, { on := 13, ground := Ground.phase }], guard := none }) (v := ?_) rfl (by kernel_rfl) (by kernel_rfl) (by kernel_rfl) (fun _ _ _ h => h) (Or.inl ⟨by rfl, ?_⟩) (by assumption) ?_
    rotate_left
    · (intro wz hSw; (try dsimp only at hSw); go_simp; first | done | with_reducible rfl)
    try simp only [Act.put, List.setIfInBounds_toArray, List.set_cons_zero, List.set_cons_succ]
    refine wpAnyH_done (by kernel_rfl) ?_ _
    go_wp2_with fail
    go_ret
    refine ⟨rfl, hkw.trans ?_⟩
    (repeat (first | with_reducible exact Kp.refl _ | with_reducible refine Kp.alloc ?_ _ | with_reducible refine Kp.drew ?_ | with_reducible refine Kp.back hk3 ?_ | with_reducible refine Kp.back hk2 ?_ | with_reducible refine Kp.back hk1 ?_))
  | false =>
    rw [Bool.false_or]
    cases h1 : namedB tx n with
    | true =>
      rw [Bool.true_and]
      go_enter Try.func53, Try.ntmps53
      go_wp2_with fail
      have b := boxed (w := w) (h := ⟨43, tx, n, at_, la, ll, lc⟩) (show Kp _ (w.alloc (.cells #[.int .i64 43, .string tx, .int .u64 n, .int .i64 at_, .slice la ll lc] 25)) by (repeat (first | with_reducible exact Kp.refl _ | with_reducible refine Kp.alloc ?_ _ | with_reducible refine Kp.drew ?_ | with_reducible refine Kp.back hk3 ?_ | with_reducible refine Kp.back hk2 ?_ | with_reducible refine Kp.back hk1 ?_)))
      simp only at b
      obtain ⟨b0, b1, b2, b3, b4, bs⟩ := b
      have hkw : Kp w (w.alloc (.cells #[.int .i64 43, .string tx, .int .u64 n, .int .i64 at_, .slice la ll lc] 25)) := by (repeat (first | with_reducible exact Kp.refl _ | with_reducible refine Kp.alloc ?_ _ | with_reducible refine Kp.drew ?_ | with_reducible refine Kp.back hk3 ?_ | with_reducible refine Kp.back hk2 ?_ | with_reducible refine Kp.back hk1 ?_))
      obtain ⟨W0, hW0⟩ : ∃ W0, (w.alloc (.cells #[.int .i64 43, .string tx, .int .u64 n, .int .i64 at_, .slice la ll lc] 25)) = W0 := ⟨_, rfl⟩
      rw [hW0] at b0 b1 b2 b3 b4 bs hkw ⊢
      skip
      clear hW0
      replace HL := Lib.hid (HL.out.keep hkw)
      refine wp_region_held_drew (S := (fun w' => w'.cell? ⟨w.heap.size, 0, none⟩ = some (.int .i64 43) ∧ w'.cell? ⟨w.heap.size, 1, none⟩ = some (.string tx) ∧ w'.cell? ⟨w.heap.size, 2, none⟩ = some (.int .u64 n) ∧ w'.cell? ⟨w.heap.size, 3, none⟩ = some (.int .i64 at_) ∧ w'.cell? ⟨w.heap.size, 4, none⟩ = some (.slice la ll lc))) (by kernel_rfl) (by (refine ⟨Kp.cellv (a := W0) ?_ b0, Kp.cellv (a := W0) ?_ b1, Kp.cellv (a := W0) ?_ b2, Kp.cellv (a := W0) ?_ b3, Kp.cellv (a := W0) ?_ b4⟩ <;> (repeat (first | with_reducible exact Kp.refl _ | with_reducible refine Kp.alloc ?_ _ | with_reducible refine Kp.drew ?_ | with_reducible refine Kp.back hk3 ?_ | with_reducible refine Kp.back hk2 ?_ | with_reducible refine Kp.back hk1 ?_)))) (fun hHeld0 => ?_)
      refine wpAnyH_take (i := 0) (oi := { dst := some 114, op := Op.load 25 (Operand.tmp 1), type := 25, pos := "sound.go:62", after := #[], guard := none }) (v := ?_) rfl (by kernel_rfl) (by kernel_rfl) (by kernel_rfl) (fun _ _ _ h => h) (Or.inl ⟨by rfl, ?_⟩) (by assumption) ?_
      rotate_left
      · (intro wz hSw; (try dsimp only at hSw); go_simp; first | done | with_reducible rfl)
      try simp only [Act.put, List.setIfInBounds_toArray, List.set_cons_zero, List.set_cons_succ]
      refine wpAnyH_ready (rs := [1]) (by kernel_rfl) (by simp) ?_
      refine AllReadyH.cons (o := { dst := some 115, op := Op.call { callee := Callee.value (Operand.func 59), args := #[Operand.tmp 114], argTypes := #[25] }, type := 4, pos := "sound.go:62", after := #[{ on := 0, ground := Ground.data }], guard := none }) rfl (fun Kw hKw => ?_) AllReadyH.nil
      rw [if_pos (by rfl)]
      go_simp
      (refine (c_isBare ⟨43, tx, n, at_, la, ll, lc⟩ _).mono ?_; rintro e w' ⟨rfl, hk1⟩; rw [hq])
      (try go_wp2_with fail)
      refine hKw.out _ _ ?_ (fun hHeld1 => ?_)
      · (refine ⟨Kp.cellv (a := W0) ?_ b0, Kp.cellv (a := W0) ?_ b1, Kp.cellv (a := W0) ?_ b2, Kp.cellv (a := W0) ?_ b3, Kp.cellv (a := W0) ?_ b4⟩ <;> (repeat (first | with_reducible exact Kp.refl _ | with_reducible refine Kp.alloc ?_ _ | with_reducible refine Kp.drew ?_ | with_reducible refine Kp.back hk3 ?_ | with_reducible refine Kp.back hk2 ?_ | with_reducible refine Kp.back hk1 ?_)))
      clear hKw Kw hHeld0
      try simp only [Act.put, List.setIfInBounds_toArray, List.set_cons_zero, List.set_cons_succ]
      refine wpAnyH_take (i := 2) (oi := { dst := some 116, op := Op.move (Operand.tmp 115), type := 4, pos := "sound.go:62", after := #[{ on := 1, ground := Ground.data }, { on := 1, ground := Ground.chain }], guard := none }) (v := ?_) rfl (by kernel_rfl) (by kernel_rfl) (by kernel_rfl) (fun _ _ _ h => h) (Or.inl ⟨by rfl, ?_⟩) (by assumption) ?_
      rotate_left
      · (intro wz hSw; (try dsimp only at hSw); go_simp; first | done | with_reducible rfl)
      try simp only [Act.put, List.setIfInBounds_toArray, List.set_cons_zero, List.set_cons_succ]
      refine wpAnyH_take (i := 3) (oi := { dst := some 117, op := Op.load 25 (Operand.tmp 1), type := 25, pos := "sound.go:62", after := #[{ on := 2, ground := Ground.guard }], guard := some (2, false) }) (v := ?_) rfl (by kernel_rfl) (by kernel_rfl) (by kernel_rfl) (fun _ _ _ h => h) (Or.inl ⟨by rfl, ?_⟩) (by assumption) ?_
      rotate_left
      · (intro wz hSw; (try dsimp only at hSw); go_simp; first | done | with_reducible rfl)
      try simp only [Act.put, List.setIfInBounds_toArray, List.set_cons_zero, List.set_cons_succ]
      refine wpAnyH_ready (rs := [4]) (by kernel_rfl) (by simp) ?_
      refine AllReadyH.cons (o := { dst := some 118, op := Op.call { callee := Callee.value (Operand.func 57), args := #[Operand.tmp 117], argTypes := #[25] }, type := 4, pos := "sound.go:62", after := #[{ on := 3, ground := Ground.data }, { on := 2, ground := Ground.chain }, { on := 2, ground := Ground.guard }], guard := some (2, false) }) rfl (fun Kw hKw => ?_) AllReadyH.nil
      rw [if_pos (by rfl)]
      go_simp
      (refine (c_isNamed ⟨43, tx, n, at_, la, ll, lc⟩ _ hs).mono ?_; rintro e w' ⟨rfl, hk2⟩; rw [h1])
      (try go_wp2_with fail)
      refine hKw.out _ _ ?_ (fun hHeld2 => ?_)
      · (refine ⟨Kp.cellv (a := W0) ?_ b0, Kp.cellv (a := W0) ?_ b1, Kp.cellv (a := W0) ?_ b2, Kp.cellv (a := W0) ?_ b3, Kp.cellv (a := W0) ?_ b4⟩ <;> (repeat (first | with_reducible exact Kp.refl _ | with_reducible refine Kp.alloc ?_ _ | with_reducible refine Kp.drew ?_ | with_reducible refine Kp.back hk3 ?_ | with_reducible refine Kp.back hk2 ?_ | with_reducible refine Kp.back hk1 ?_)))
      clear hKw Kw hHeld1
      try simp only [Act.put, List.setIfInBounds_toArray, List.set_cons_zero, List.set_cons_succ]
      refine wpAnyH_take (i := 5) (oi := { dst := some 119, op := Op.pick (Operand.tmp 116) (Operand.const (Value.bool true)) (Operand.tmp 118), type := 4, pos := "sound.go:62", after := #[{ on := 2, ground := Ground.data }, { on := 4, ground := Ground.data }], guard := none }) (v := ?_) rfl (by kernel_rfl) (by kernel_rfl) (by kernel_rfl) (fun _ _ _ h => h) (Or.inl ⟨by rfl, ?_⟩) (by assumption) ?_
      rotate_left
      · (intro wz hSw; (try dsimp only at hSw); go_simp; first | done | with_reducible rfl)
      try simp only [Act.put, List.setIfInBounds_toArray, List.set_cons_zero, List.set_cons_succ]
      refine wpAnyH_take (i := 6) (oi := { dst := some 120, op := Op.move (Operand.tmp 119), type := 4, pos := "sound.go:62", after := #[{ on := 5, ground := Ground.data }, { on := 4, ground := Ground.chain }], guard := none }) (v := ?_) rfl (by kernel_rfl) (by kernel_rfl) (by kernel_rfl) (fun _ _ _ h => h) (Or.inl ⟨by rfl, ?_⟩) (by assumption) ?_
      rotate_left
      · (intro wz hSw; (try dsimp only at hSw); go_simp; first | done | with_reducible rfl)
      try simp only [Act.put, List.setIfInBounds_toArray, List.set_cons_zero, List.set_cons_succ]
      refine wpAnyH_take (i := 7) (oi := { dst := some 121, op := Op.fieldAddr 25 (Operand.tmp 1) 4, type := 0, pos := "sound.go:62", after := #[{ on := 6, ground := Ground.guard }], guard := some (6, true) }) (v := ?_) rfl (by kernel_rfl) (by kernel_rfl) (by kernel_rfl) (fun _ _ _ h => h) (Or.inl ⟨by rfl, ?_⟩) (by assumption) ?_
      rotate_left
      · (intro wz hSw; (try dsimp only at hSw); go_simp; first | done | with_reducible rfl)
      try simp only [Act.put, List.setIfInBounds_toArray, List.set_cons_zero, List.set_cons_succ]
      refine wpAnyH_take (i := 8) (oi := { dst := some 122, op := Op.load 23 (Operand.tmp 121), type := 23, pos := "sound.go:62", after := #[{ on := 7, ground := Ground.data }, { on := 6, ground := Ground.guard }], guard := some (6, true) }) (v := ?_) rfl (by kernel_rfl) (by kernel_rfl) (by kernel_rfl) (fun _ _ _ h => h) (Or.inl ⟨by rfl, ?_⟩) (by assumption) ?_
      rotate_left
      · (intro wz hSw; (try dsimp only at hSw); go_simp; first | done | with_reducible rfl)
      try simp only [Act.put, List.setIfInBounds_toArray, List.set_cons_zero, List.set_cons_succ]
      refine wpAnyH_ready (rs := [9]) (by kernel_rfl) (by simp) ?_
      refine AllReadyH.cons (o := { dst := some 123, op := Op.buildSlice 36 1 #[(0, Operand.const (Value.int IntKind.i64 20))], type := 36, pos := "sound.go:62", after := #[{ on := 6, ground := Ground.guard }], guard := some (6, true) }) rfl (fun Kw hKw => ?_) AllReadyH.nil
      rw [if_pos (by rfl)]
      go_simp
      refine hKw.out _ _ ?_ (fun hHeld3 => ?_)
      · (refine ⟨Kp.cellv (a := W0) ?_ b0, Kp.cellv (a := W0) ?_ b1, Kp.cellv (a := W0) ?_ b2, Kp.cellv (a := W0) ?_ b3, Kp.cellv (a := W0) ?_ b4⟩ <;> (repeat (first | with_reducible exact Kp.refl _ | with_reducible refine Kp.alloc ?_ _ | with_reducible refine Kp.drew ?_ | with_reducible refine Kp.back hk3 ?_ | with_reducible refine Kp.back hk2 ?_ | with_reducible refine Kp.back hk1 ?_)))
      clear hKw Kw hHeld2
      try simp only [Act.put, List.setIfInBounds_toArray, List.set_cons_zero, List.set_cons_succ]
      refine wpAnyH_ready (rs := [10]) (by kernel_rfl) (by simp) ?_
      refine AllReadyH.cons (o := { dst := some 124, op := Op.call { callee := Callee.value (Operand.func 31), args := #[Operand.tmp 123], argTypes := #[36] }, type := 49, pos := "sound.go:62", after := #[{ on := 9, ground := Ground.data }, { on := 6, ground := Ground.chain }, { on := 6, ground := Ground.guard }], guard := some (6, true) }) rfl (fun Kw hKw => ?_) AllReadyH.nil
      rw [if_pos (by rfl)]
      go_simp
      (refine (c_of1S _ _ _ 20 (by simp [go_sem])).mono ?_; rintro e w' ⟨rfl, rfl, hso⟩; (try simp only [World.size_alloc] at hso))
      (try go_wp2_with fail)
      refine hKw.out _ _ ?_ (fun hHeld4 => ?_)
      · (refine ⟨Kp.cellv (a := W0) ?_ b0, Kp.cellv (a := W0) ?_ b1, Kp.cellv (a := W0) ?_ b2, Kp.cellv (a := W0) ?_ b3, Kp.cellv (a := W0) ?_ b4⟩ <;> (repeat (first | with_reducible exact Kp.refl _ | with_reducible refine Kp.alloc ?_ _ | with_reducible refine Kp.drew ?_ | with_reducible refine Kp.back hk3 ?_ | with_reducible refine Kp.back hk2 ?_ | with_reducible refine Kp.back hk1 ?_)))
      clear hKw Kw hHeld3
      try simp only [Act.put, List.setIfInBounds_toArray, List.set_cons_zero, List.set_cons_succ]
      refine wpAnyH_ready (rs := [11]) (by kernel_rfl) (by simp) ?_
      refine AllReadyH.cons (o := { dst := some 125, op := Op.buildSlice 65 2 #[(0, Operand.func 33), (1, Operand.tmp 124)], type := 65, pos := "sound.go:62", after := #[{ on := 10, ground := Ground.data }, { on := 6, ground := Ground.guard }], guard := some (6, true) }) rfl (fun Kw hKw => ?_) AllReadyH.nil
      rw [if_pos (by rfl)]
      go_simp
      refine hKw.out _ _ ?_ (fun hHeld5 => ?_)
      · (refine ⟨Kp.cellv (a := W0) ?_ b0, Kp.cellv (a := W0) ?_ b1, Kp.cellv (a := W0) ?_ b2, Kp.cellv (a := W0) ?_ b3, Kp.cellv (a := W0) ?_ b4⟩ <;> (repeat (first | with_reducible exact Kp.refl _ | with_reducible refine Kp.alloc ?_ _ | with_reducible refine Kp.drew ?_ | with_reducible refine Kp.back hk3 ?_ | with_reducible refine Kp.back hk2 ?_ | with_reducible refine Kp.back hk1 ?_)))
      clear hKw Kw hHeld4
      try simp only [Act.put, List.setIfInBounds_toArray, List.set_cons_zero, List.set_cons_succ]
      refine wpAnyH_ready (rs := [12]) (by kernel_rfl) (by simp) ?_
      refine AllReadyH.cons (o := { dst := some 126, op := Op.call { callee := Callee.value (Operand.func 58), args := #[Operand.tmp 122, Operand.tmp 125], argTypes := #[23, 65] }, type := 4, pos := "sound.go:62", after := #[{ on := 8, ground := Ground.data }, { on := 11, ground := Ground.data }, { on := 10, ground := Ground.chain }, { on := 6, ground := Ground.guard }], guard := some (6, true) }) rfl (fun Kw hKw => ?_) AllReadyH.nil
      rw [if_pos (by rfl)]
      go_simp
      (refine (c_are _ ks la ll lc K (HL.out.keep (by (repeat (first | with_reducible exact Kp.refl _ | with_reducible refine Kp.alloc ?_ _ | with_reducible refine Kp.drew ?_ | with_reducible refine Kp.back hk3 ?_ | with_reducible refine Kp.back hk2 ?_ | with_reducible refine Kp.back hk1 ?_)))) [exK, (inK [20])] _ _ _ _ (sorts2 (by simp) (sort_ex _) (SortAt.keep (p := inK [20]) hso (by (repeat (first | with_reducible exact Kp.refl _ | with_reducible refine Kp.alloc ?_ _ | with_reducible refine Kp.drew ?_ | with_reducible refine Kp.back hk3 ?_ | with_reducible refine Kp.back hk2 ?_ | with_reducible refine Kp.back hk1 ?_)))))).mono ?_; rintro e w' ⟨rfl, hk3⟩)
      (try go_wp2_with fail)
      refine hKw.out _ _ ?_ (fun hHeld6 => ?_)
      · (refine ⟨Kp.cellv (a := W0) ?_ b0, Kp.cellv (a := W0) ?_ b1, Kp.cellv (a := W0) ?_ b2, Kp.cellv (a := W0) ?_ b3, Kp.cellv (a := W0) ?_ b4⟩ <;> (repeat (first | with_reducible exact Kp.refl _ | with_reducible refine Kp.alloc ?_ _ | with_reducible refine Kp.drew ?_ | with_reducible refine Kp.back hk3 ?_ | with_reducible refine Kp.back hk2 ?_ | with_reducible refine Kp.back hk1 ?_)))
      clear hKw Kw hHeld5
      try simp only [Act.put, List.setIfInBounds_toArray, List.set_cons_zero, List.set_cons_succ]
      refine wpAnyH_take (i := 13) (oi := { dst := some 127, op := Op.pick (Operand.tmp 120) (Operand.tmp 126) (Operand.const (Value.bool false)), type := 4, pos := "sound.go:62", after := #[{ on := 6, ground := Ground.data }, { on := 12, ground := Ground.data }], guard := none }) (v := ?_) rfl (by kernel_rfl) (by kernel_rfl) (by kernel_rfl) (fun _ _ _ h => h) (Or.inl ⟨by rfl, ?_⟩) (by assumption) ?_
      rotate_left
      · (intro wz hSw; (try dsimp only at hSw); go_simp; first | done | with_reducible rfl)
      try simp only [Act.put, List.setIfInBounds_toArray, List.set_cons_zero, List.set_cons_succ]
      refine wpAnyH_take (i := 14) (oi := { dst := some 2, op := Op.assign (Operand.tmp 127), type := 4, pos := "sound.go:62", after := #[{ on := 13, ground := Ground.data }, { on := 12, ground := Ground.chain }, { on := 0, ground := Ground.phase }, { on := 1, ground := Ground.phase }, { on := 2, ground := Ground.phase }, { on := 3, ground := Ground.phase }, { on := 4, ground := Ground.phase }, { on := 5, ground := Ground.phase }, { on := 6, ground := Ground.phase }, { on := 7, ground := Ground.phase }, { on := 8, ground := Ground.phase }, { on := 9, ground := Ground.phase }, { on := 10, ground := Ground.phase }, { on := 11, ground := Ground.phase }, { on := 12, ground := Ground.phase }, { on := 13, ground := Ground.phase }], guard := none }) (v := ?_) rfl (by kernel_rfl) (by kernel_rfl) (by kernel_rfl) (fun _ _ _ h => h) (Or.inl ⟨by rfl, ?_⟩) (by assumption) ?_
      rotate_left
      · (intro wz hSw; (try dsimp only at hSw); go_simp; first | done | with_reducible rfl)
      try simp only [Act.put, List.setIfInBounds_toArray, List.set_cons_zero, List.set_cons_succ]
      refine wpAnyH_done (by kernel_rfl) ?_ _
      go_wp2_with fail
      go_ret
      refine ⟨rfl, hkw.trans ?_⟩
      (repeat (first | with_reducible exact Kp.refl _ | with_reducible refine Kp.alloc ?_ _ | with_reducible refine Kp.drew ?_ | with_reducible refine Kp.back hk3 ?_ | with_reducible refine Kp.back hk2 ?_ | with_reducible refine Kp.back hk1 ?_))
    | false =>
      rw [Bool.false_and]
      go_enter Try.func53, Try.ntmps53
      go_wp2_with fail
      have b := boxed (w := w) (h := ⟨43, tx, n, at_, la, ll, lc⟩) (show Kp _ (w.alloc (.cells #[.int .i64 43, .string tx, .int .u64 n, .int .i64 at_, .slice la ll lc] 25)) by (repeat (first | with_reducible exact Kp.refl _ | with_reducible refine Kp.alloc ?_ _ | with_reducible refine Kp.drew ?_ | with_reducible refine Kp.back hk3 ?_ | with_reducible refine Kp.back hk2 ?_ | with_reducible refine Kp.back hk1 ?_)))
      simp only at b
      obtain ⟨b0, b1, b2, b3, b4, bs⟩ := b
      have hkw : Kp w (w.alloc (.cells #[.int .i64 43, .string tx, .int .u64 n, .int .i64 at_, .slice la ll lc] 25)) := by (repeat (first | with_reducible exact Kp.refl _ | with_reducible refine Kp.alloc ?_ _ | with_reducible refine Kp.drew ?_ | with_reducible refine Kp.back hk3 ?_ | with_reducible refine Kp.back hk2 ?_ | with_reducible refine Kp.back hk1 ?_))
      obtain ⟨W0, hW0⟩ : ∃ W0, (w.alloc (.cells #[.int .i64 43, .string tx, .int .u64 n, .int .i64 at_, .slice la ll lc] 25)) = W0 := ⟨_, rfl⟩
      rw [hW0] at b0 b1 b2 b3 b4 bs hkw ⊢
      skip
      clear hW0
      replace HL := Lib.hid (HL.out.keep hkw)
      refine wp_region_held_drew (S := (fun w' => w'.cell? ⟨w.heap.size, 0, none⟩ = some (.int .i64 43) ∧ w'.cell? ⟨w.heap.size, 1, none⟩ = some (.string tx) ∧ w'.cell? ⟨w.heap.size, 2, none⟩ = some (.int .u64 n) ∧ w'.cell? ⟨w.heap.size, 3, none⟩ = some (.int .i64 at_) ∧ w'.cell? ⟨w.heap.size, 4, none⟩ = some (.slice la ll lc))) (by kernel_rfl) (by (refine ⟨Kp.cellv (a := W0) ?_ b0, Kp.cellv (a := W0) ?_ b1, Kp.cellv (a := W0) ?_ b2, Kp.cellv (a := W0) ?_ b3, Kp.cellv (a := W0) ?_ b4⟩ <;> (repeat (first | with_reducible exact Kp.refl _ | with_reducible refine Kp.alloc ?_ _ | with_reducible refine Kp.drew ?_ | with_reducible refine Kp.back hk3 ?_ | with_reducible refine Kp.back hk2 ?_ | with_reducible refine Kp.back hk1 ?_)))) (fun hHeld0 => ?_)
      refine wpAnyH_take (i := 0) (oi := { dst := some 114, op := Op.load 25 (Operand.tmp 1), type := 25, pos := "sound.go:62", after := #[], guard := none }) (v := ?_) rfl (by kernel_rfl) (by kernel_rfl) (by kernel_rfl) (fun _ _ _ h => h) (Or.inl ⟨by rfl, ?_⟩) (by assumption) ?_
      rotate_left
      · (intro wz hSw; (try dsimp only at hSw); go_simp; first | done | with_reducible rfl)
      try simp only [Act.put, List.setIfInBounds_toArray, List.set_cons_zero, List.set_cons_succ]
      refine wpAnyH_ready (rs := [1]) (by kernel_rfl) (by simp) ?_
      refine AllReadyH.cons (o := { dst := some 115, op := Op.call { callee := Callee.value (Operand.func 59), args := #[Operand.tmp 114], argTypes := #[25] }, type := 4, pos := "sound.go:62", after := #[{ on := 0, ground := Ground.data }], guard := none }) rfl (fun Kw hKw => ?_) AllReadyH.nil
      rw [if_pos (by rfl)]
      go_simp
      (refine (c_isBare ⟨43, tx, n, at_, la, ll, lc⟩ _).mono ?_; rintro e w' ⟨rfl, hk1⟩; rw [hq])
      (try go_wp2_with fail)
      refine hKw.out _ _ ?_ (fun hHeld1 => ?_)
      · (refine ⟨Kp.cellv (a := W0) ?_ b0, Kp.cellv (a := W0) ?_ b1, Kp.cellv (a := W0) ?_ b2, Kp.cellv (a := W0) ?_ b3, Kp.cellv (a := W0) ?_ b4⟩ <;> (repeat (first | with_reducible exact Kp.refl _ | with_reducible refine Kp.alloc ?_ _ | with_reducible refine Kp.drew ?_ | with_reducible refine Kp.back hk3 ?_ | with_reducible refine Kp.back hk2 ?_ | with_reducible refine Kp.back hk1 ?_)))
      clear hKw Kw hHeld0
      try simp only [Act.put, List.setIfInBounds_toArray, List.set_cons_zero, List.set_cons_succ]
      refine wpAnyH_take (i := 2) (oi := { dst := some 116, op := Op.move (Operand.tmp 115), type := 4, pos := "sound.go:62", after := #[{ on := 1, ground := Ground.data }, { on := 1, ground := Ground.chain }], guard := none }) (v := ?_) rfl (by kernel_rfl) (by kernel_rfl) (by kernel_rfl) (fun _ _ _ h => h) (Or.inl ⟨by rfl, ?_⟩) (by assumption) ?_
      rotate_left
      · (intro wz hSw; (try dsimp only at hSw); go_simp; first | done | with_reducible rfl)
      try simp only [Act.put, List.setIfInBounds_toArray, List.set_cons_zero, List.set_cons_succ]
      refine wpAnyH_take (i := 3) (oi := { dst := some 117, op := Op.load 25 (Operand.tmp 1), type := 25, pos := "sound.go:62", after := #[{ on := 2, ground := Ground.guard }], guard := some (2, false) }) (v := ?_) rfl (by kernel_rfl) (by kernel_rfl) (by kernel_rfl) (fun _ _ _ h => h) (Or.inl ⟨by rfl, ?_⟩) (by assumption) ?_
      rotate_left
      · (intro wz hSw; (try dsimp only at hSw); go_simp; first | done | with_reducible rfl)
      try simp only [Act.put, List.setIfInBounds_toArray, List.set_cons_zero, List.set_cons_succ]
      refine wpAnyH_ready (rs := [4]) (by kernel_rfl) (by simp) ?_
      refine AllReadyH.cons (o := { dst := some 118, op := Op.call { callee := Callee.value (Operand.func 57), args := #[Operand.tmp 117], argTypes := #[25] }, type := 4, pos := "sound.go:62", after := #[{ on := 3, ground := Ground.data }, { on := 2, ground := Ground.chain }, { on := 2, ground := Ground.guard }], guard := some (2, false) }) rfl (fun Kw hKw => ?_) AllReadyH.nil
      rw [if_pos (by rfl)]
      go_simp
      (refine (c_isNamed ⟨43, tx, n, at_, la, ll, lc⟩ _ hs).mono ?_; rintro e w' ⟨rfl, hk2⟩; rw [h1])
      (try go_wp2_with fail)
      refine hKw.out _ _ ?_ (fun hHeld2 => ?_)
      · (refine ⟨Kp.cellv (a := W0) ?_ b0, Kp.cellv (a := W0) ?_ b1, Kp.cellv (a := W0) ?_ b2, Kp.cellv (a := W0) ?_ b3, Kp.cellv (a := W0) ?_ b4⟩ <;> (repeat (first | with_reducible exact Kp.refl _ | with_reducible refine Kp.alloc ?_ _ | with_reducible refine Kp.drew ?_ | with_reducible refine Kp.back hk3 ?_ | with_reducible refine Kp.back hk2 ?_ | with_reducible refine Kp.back hk1 ?_)))
      clear hKw Kw hHeld1
      try simp only [Act.put, List.setIfInBounds_toArray, List.set_cons_zero, List.set_cons_succ]
      refine wpAnyH_take (i := 5) (oi := { dst := some 119, op := Op.pick (Operand.tmp 116) (Operand.const (Value.bool true)) (Operand.tmp 118), type := 4, pos := "sound.go:62", after := #[{ on := 2, ground := Ground.data }, { on := 4, ground := Ground.data }], guard := none }) (v := ?_) rfl (by kernel_rfl) (by kernel_rfl) (by kernel_rfl) (fun _ _ _ h => h) (Or.inl ⟨by rfl, ?_⟩) (by assumption) ?_
      rotate_left
      · (intro wz hSw; (try dsimp only at hSw); go_simp; first | done | with_reducible rfl)
      try simp only [Act.put, List.setIfInBounds_toArray, List.set_cons_zero, List.set_cons_succ]
      refine wpAnyH_take (i := 6) (oi := { dst := some 120, op := Op.move (Operand.tmp 119), type := 4, pos := "sound.go:62", after := #[{ on := 5, ground := Ground.data }, { on := 4, ground := Ground.chain }], guard := none }) (v := ?_) rfl (by kernel_rfl) (by kernel_rfl) (by kernel_rfl) (fun _ _ _ h => h) (Or.inl ⟨by rfl, ?_⟩) (by assumption) ?_
      rotate_left
      · (intro wz hSw; (try dsimp only at hSw); go_simp; first | done | with_reducible rfl)
      try simp only [Act.put, List.setIfInBounds_toArray, List.set_cons_zero, List.set_cons_succ]
      refine wpAnyH_take (i := 7) (oi := { dst := some 121, op := Op.fieldAddr 25 (Operand.tmp 1) 4, type := 0, pos := "sound.go:62", after := #[{ on := 6, ground := Ground.guard }], guard := some (6, true) }) (v := undef) rfl (by kernel_rfl) (by kernel_rfl) (by kernel_rfl) (fun _ _ _ h => h) (Or.inr ⟨by rfl, rfl⟩) (by assumption) ?_
      try simp only [Act.put, List.setIfInBounds_toArray, List.set_cons_zero, List.set_cons_succ]
      refine wpAnyH_take (i := 8) (oi := { dst := some 122, op := Op.load 23 (Operand.tmp 121), type := 23, pos := "sound.go:62", after := #[{ on := 7, ground := Ground.data }, { on := 6, ground := Ground.guard }], guard := some (6, true) }) (v := undef) rfl (by kernel_rfl) (by kernel_rfl) (by kernel_rfl) (fun _ _ _ h => h) (Or.inr ⟨by rfl, rfl⟩) (by assumption) ?_
      try simp only [Act.put, List.setIfInBounds_toArray, List.set_cons_zero, List.set_cons_succ]
      refine wpAnyH_take (i := 9) (oi := { dst := some 123, op := Op.buildSlice 36 1 #[(0, Operand.const (Value.int IntKind.i64 20))], type := 36, pos := "sound.go:62", after := #[{ on := 6, ground := Ground.guard }], guard := some (6, true) }) (v := undef) rfl (by kernel_rfl) (by kernel_rfl) (by kernel_rfl) (fun _ _ _ h => h) (Or.inr ⟨by rfl, rfl⟩) (by assumption) ?_
      try simp only [Act.put, List.setIfInBounds_toArray, List.set_cons_zero, List.set_cons_succ]
      refine wpAnyH_take (i := 10) (oi := { dst := some 124, op := Op.call { callee := Callee.value (Operand.func 31), args := #[Operand.tmp 123], argTypes := #[36] }, type := 49, pos := "sound.go:62", after := #[{ on := 9, ground := Ground.data }, { on := 6, ground := Ground.chain }, { on := 6, ground := Ground.guard }], guard := some (6, true) }) (v := undef) rfl (by kernel_rfl) (by kernel_rfl) (by kernel_rfl) (fun _ _ _ h => h) (Or.inr ⟨by rfl, rfl⟩) (by assumption) ?_
      try simp only [Act.put, List.setIfInBounds_toArray, List.set_cons_zero, List.set_cons_succ]
      refine wpAnyH_take (i := 11) (oi := { dst := some 125, op := Op.buildSlice 65 2 #[(0, Operand.func 33), (1, Operand.tmp 124)], type := 65, pos := "sound.go:62", after := #[{ on := 10, ground := Ground.data }, { on := 6, ground := Ground.guard }], guard := some (6, true) }) (v := undef) rfl (by kernel_rfl) (by kernel_rfl) (by kernel_rfl) (fun _ _ _ h => h) (Or.inr ⟨by rfl, rfl⟩) (by assumption) ?_
      try simp only [Act.put, List.setIfInBounds_toArray, List.set_cons_zero, List.set_cons_succ]
      refine wpAnyH_take (i := 12) (oi := { dst := some 126, op := Op.call { callee := Callee.value (Operand.func 58), args := #[Operand.tmp 122, Operand.tmp 125], argTypes := #[23, 65] }, type := 4, pos := "sound.go:62", after := #[{ on := 8, ground := Ground.data }, { on := 11, ground := Ground.data }, { on := 10, ground := Ground.chain }, { on := 6, ground := Ground.guard }], guard := some (6, true) }) (v := undef) rfl (by kernel_rfl) (by kernel_rfl) (by kernel_rfl) (fun _ _ _ h => h) (Or.inr ⟨by rfl, rfl⟩) (by assumption) ?_
      try simp only [Act.put, List.setIfInBounds_toArray, List.set_cons_zero, List.set_cons_succ]
      refine wpAnyH_take (i := 13) (oi := { dst := some 127, op := Op.pick (Operand.tmp 120) (Operand.tmp 126) (Operand.const (Value.bool false)), type := 4, pos := "sound.go:62", after := #[{ on := 6, ground := Ground.data }, { on := 12, ground := Ground.data }], guard := none }) (v := ?_) rfl (by kernel_rfl) (by kernel_rfl) (by kernel_rfl) (fun _ _ _ h => h) (Or.inl ⟨by rfl, ?_⟩) (by assumption) ?_
      rotate_left
      · (intro wz hSw; (try dsimp only at hSw); go_simp; first | done | with_reducible rfl)
      try simp only [Act.put, List.setIfInBounds_toArray, List.set_cons_zero, List.set_cons_succ]
      refine wpAnyH_take (i := 14) (oi := { dst := some 2, op := Op.assign (Operand.tmp 127), type := 4, pos := "sound.go:62", after := #[{ on := 13, ground := Ground.data }, { on := 12, ground := Ground.chain }, { on := 0, ground := Ground.phase }, { on := 1, ground := Ground.phase }, { on := 2, ground := Ground.phase }, { on := 3, ground := Ground.phase }, { on := 4, ground := Ground.phase }, { on := 5, ground := Ground.phase }, { on := 6, ground := Ground.phase }, { on := 7, ground := Ground.phase }, { on := 8, ground := Ground.phase }, { on := 9, ground := Ground.phase }, { on := 10, ground := Ground.phase }, { on := 11, ground := Ground.phase }, { on := 12, ground := Ground.phase }, { on := 13, ground := Ground.phase }], guard := none }) (v := ?_) rfl (by kernel_rfl) (by kernel_rfl) (by kernel_rfl) (fun _ _ _ h => h) (Or.inl ⟨by rfl, ?_⟩) (by assumption) ?_
      rotate_left
      · (intro wz hSw; (try dsimp only at hSw); go_simp; first | done | with_reducible rfl)
      try simp only [Act.put, List.setIfInBounds_toArray, List.set_cons_zero, List.set_cons_succ]
      refine wpAnyH_done (by kernel_rfl) ?_ _
      go_wp2_with fail
      go_ret
      refine ⟨rfl, hkw.trans ?_⟩
      (repeat (first | with_reducible exact Kp.refl _ | with_reducible refine Kp.alloc ?_ _ | with_reducible refine Kp.drew ?_ | with_reducible refine Kp.back hk3 ?_ | with_reducible refine Kp.back hk2 ?_ | with_reducible refine Kp.back hk1 ?_))
set_option maxHeartbeats 12800000 in
set_option maxRecDepth 100000 in
theorem form_25 (ks : List Int) (tx : ByteArray) (n at_ : Int) (la : Option Addr) (ll lc : Nat) (K : Nat → Hn) (w : World) (hL : ListAt w ks la ll lc K) (hcap : ll ≤ lc) (hs : tx.size ≤ 140737488351232) :
    Calls Try.prog 51 #[.agg #[.int .i64 25, .string tx, .int .u64 n, .int .i64 at_, .slice la ll lc]] w fun e w' => e = .returned (.bool (bareB tx n && (areB ks [exK, inK [20]] || areB ks [exK, inK [20], inK [20, 25]]))) ∧ Kp w w' := by
  have hmf : ∀ (fn : Fn) (first cap : Array Value) (w : World), (Instr.makeFunc fn first cap).run Try.prog w = .ok (.func fn first cap) w := fun _ _ _ _ => rfl
  have HL := Lib.hid hL
  clear hL
  have HB : Hid (SortAt (((w.alloc (.cells #[.int .i64 25, .string tx, .int .u64 n, .int .i64 at_, .slice la ll lc] 25)).alloc (.cells #[.int .i64 20] 3)).alloc (.cells #[.slice (some ⟨w.heap.size + 1, 0, none⟩) 1 1] 36)) (.func (.func 41) #[] #[.pointer (some ⟨w.heap.size + 1 + 1, 0, none⟩)]) (inK [20])) := Lib.hid (sort_of1 (q := w.heap.size + 1) (c := 1) (by simp [go_sem]) (by simp [go_sem]))
  cases hq : bareB tx n with
  | false =>
    rw [Bool.false_and]
    go_enter Try.func51, Try.ntmps51
    go_wp2_with (first | (go_at_call 31; (with_reducible refine (c_of _ _ _ _).mono ?_); rintro e w' ⟨rfl, rfl⟩))
    have b := boxed (w := w) (h := ⟨25, tx, n, at_, la, ll, lc⟩) (show Kp _ (((w.alloc (.cells #[.int .i64 25, .string tx, .int .u64 n, .int .i64 at_, .slice la ll lc] 25)).alloc (.cells #[.int .i64 20] 3)).alloc (.cells #[.slice (some ⟨w.heap.size + 1, 0, none⟩) 1 1] 36)) by (repeat (first | with_reducible exact Kp.refl _ | with_reducible refine Kp.alloc ?_ _ | with_reducible refine Kp.drew ?_ | with_reducible refine Kp.back hk3 ?_ | with_reducible refine Kp.back hk2 ?_ | with_reducible refine Kp.back hk1 ?_)))
    simp only at b
    obtain ⟨b0, b1, b2, b3, b4, bs⟩ := b
    have hkw : Kp w (((w.alloc (.cells #[.int .i64 25, .string tx, .int .u64 n, .int .i64 at_, .slice la ll lc] 25)).alloc (.cells #[.int .i64 20] 3)).alloc (.cells #[.slice (some ⟨w.heap.size + 1, 0, none⟩) 1 1] 36)) := by (repeat (first | with_reducible exact Kp.refl _ | with_reducible refine Kp.alloc ?_ _ | with_reducible refine Kp.drew ?_ | with_reducible refine Kp.back hk3 ?_ | with_reducible refine Kp.back hk2 ?_ | with_reducible refine Kp.back hk1 ?_))
    obtain ⟨W0, hW0⟩ : ∃ W0, (((w.alloc (.cells #[.int .i64 25, .string tx, .int .u64 n, .int .i64 at_, .slice la ll lc] 25)).alloc (.cells #[.int .i64 20] 3)).alloc (.cells #[.slice (some ⟨w.heap.size + 1, 0, none⟩) 1 1] 36)) = W0 := ⟨_, rfl⟩
    rw [hW0] at b0 b1 b2 b3 b4 bs hkw ⊢
    rw [hW0] at HB
    clear hW0
    replace HL := Lib.hid (HL.out.keep hkw)
    refine wp_region_held_drew (S := (fun w' => w'.cell? ⟨w.heap.size, 0, none⟩ = some (.int .i64 25) ∧ w'.cell? ⟨w.heap.size, 1, none⟩ = some (.string tx) ∧ w'.cell? ⟨w.heap.size, 2, none⟩ = some (.int .u64 n) ∧ w'.cell? ⟨w.heap.size, 3, none⟩ = some (.int .i64 at_) ∧ w'.cell? ⟨w.heap.size, 4, none⟩ = some (.slice la ll lc))) (by kernel_rfl) (by (refine ⟨Kp.cellv (a := W0) ?_ b0, Kp.cellv (a := W0) ?_ b1, Kp.cellv (a := W0) ?_ b2, Kp.cellv (a := W0) ?_ b3, Kp.cellv (a := W0) ?_ b4⟩ <;> (repeat (first | with_reducible exact Kp.refl _ | with_reducible refine Kp.alloc ?_ _ | with_reducible refine Kp.drew ?_ | with_reducible refine Kp.back hk3 ?_ | with_reducible refine Kp.back hk2 ?_ | with_reducible refine Kp.back hk1 ?_)))) (fun hHeld0 => ?_)
    refine wpAnyH_take (i := 0) (oi := { dst := some 63, op := Op.load 25 (Operand.tmp 1), type := 25, pos := "sound.go:101", after := #[], guard := none }) (v := ?_) rfl (by kernel_rfl) (by kernel_rfl) (by kernel_rfl) (fun _ _ _ h => h) (Or.inl ⟨by rfl, ?_⟩) (by assumption) ?_
    rotate_left
    · (intro wz hSw; (try dsimp only at hSw); go_simp; first | done | with_reducible rfl)
    try simp only [Act.put, List.setIfInBounds_toArray, List.set_cons_zero, List.set_cons_succ]
    refine wpAnyH_ready (rs := [1]) (by kernel_rfl) (by simp) ?_
    refine AllReadyH.cons (o := { dst := some 64, op := Op.call { callee := Callee.value (Operand.func 59), args := #[Operand.tmp 63], argTypes := #[25] }, type := 4, pos := "sound.go:101", after := #[{ on := 0, ground := Ground.data }], guard := none }) rfl (fun Kw hKw => ?_) AllReadyH.nil
    rw [if_pos (by rfl)]
    go_simp
    (refine (c_isBare ⟨25, tx, n, at_, la, ll, lc⟩ _).mono ?_; rintro e w' ⟨rfl, hk1⟩; rw [hq])
    (try go_wp2_with fail)
    refine hKw.out _ _ ?_ (fun hHeld1 => ?_)
    · (refine ⟨Kp.cellv (a := W0) ?_ b0, Kp.cellv (a := W0) ?_ b1, Kp.cellv (a := W0) ?_ b2, Kp.cellv (a := W0) ?_ b3, Kp.cellv (a := W0) ?_ b4⟩ <;> (repeat (first | with_reducible exact Kp.refl _ | with_reducible refine Kp.alloc ?_ _ | with_reducible refine Kp.drew ?_ | with_reducible refine Kp.back hk3 ?_ | with_reducible refine Kp.back hk2 ?_ | with_reducible refine Kp.back hk1 ?_)))
    clear hKw Kw hHeld0
    try simp only [Act.put, List.setIfInBounds_toArray, List.set_cons_zero, List.set_cons_succ]
    refine wpAnyH_take (i := 2) (oi := { dst := some 65, op := Op.move (Operand.tmp 64), type := 4, pos := "sound.go:101", after := #[{ on := 1, ground := Ground.data }, { on := 1, ground := Ground.chain }], guard := none }) (v := ?_) rfl (by kernel_rfl) (by kernel_rfl) (by kernel_rfl) (fun _ _ _ h => h) (Or.inl ⟨by rfl, ?_⟩) (by assumption) ?_
    rotate_left
    · (intro wz hSw; (try dsimp only at hSw); go_simp; first | done | with_reducible rfl)
    try simp only [Act.put, List.setIfInBounds_toArray, List.set_cons_zero, List.set_cons_succ]
    refine wpAnyH_take (i := 3) (oi := { dst := some 66, op := Op.fieldAddr 25 (Operand.tmp 1) 4, type := 0, pos := "sound.go:101", after := #[{ on := 2, ground := Ground.guard }], guard := some (2, true) }) (v := undef) rfl (by kernel_rfl) (by kernel_rfl) (by kernel_rfl) (fun _ _ _ h => h) (Or.inr ⟨by rfl, rfl⟩) (by assumption) ?_
    try simp only [Act.put, List.setIfInBounds_toArray, List.set_cons_zero, List.set_cons_succ]
    refine wpAnyH_take (i := 4) (oi := { dst := some 67, op := Op.load 23 (Operand.tmp 66), type := 23, pos := "sound.go:101", after := #[{ on := 3, ground := Ground.data }, { on := 2, ground := Ground.guard }], guard := some (2, true) }) (v := undef) rfl (by kernel_rfl) (by kernel_rfl) (by kernel_rfl) (fun _ _ _ h => h) (Or.inr ⟨by rfl, rfl⟩) (by assumption) ?_
    try simp only [Act.put, List.setIfInBounds_toArray, List.set_cons_zero, List.set_cons_succ]
    refine wpAnyH_take (i := 5) (oi := { dst := some 68, op := Op.move (Operand.tmp 3), type := 49, pos := "sound.go:101", after := #[{ on := 2, ground := Ground.guard }], guard := some (2, true) }) (v := undef) rfl (by kernel_rfl) (by kernel_rfl) (by kernel_rfl) (fun _ _ _ h => h) (Or.inr ⟨by rfl, rfl⟩) (by assumption) ?_
    try simp only [Act.put, List.setIfInBounds_toArray, List.set_cons_zero, List.set_cons_succ]
    refine wpAnyH_take (i := 6) (oi := { dst := some 69, op := Op.buildSlice 65 2 #[(0, Operand.func 33), (1, Operand.tmp 68)], type := 65, pos := "sound.go:101", after := #[{ on := 5, ground := Ground.data }, { on := 2, ground := Ground.guard }], guard := some (2, true) }) (v := undef) rfl (by kernel_rfl) (by kernel_rfl) (by kernel_rfl) (fun _ _ _ h => h) (Or.inr ⟨by rfl, rfl⟩) (by assumption) ?_
    try simp only [Act.put, List.setIfInBounds_toArray, List.set_cons_zero, List.set_cons_succ]
    refine wpAnyH_take (i := 7) (oi := { dst := some 70, op := Op.call { callee := Callee.value (Operand.func 58), args := #[Operand.tmp 67, Operand.tmp 69], argTypes := #[23, 65] }, type := 4, pos := "sound.go:101", after := #[{ on := 4, ground := Ground.data }, { on := 6, ground := Ground.data }, { on := 2, ground := Ground.chain }, { on := 2, ground := Ground.guard }], guard := some (2, true) }) (v := undef) rfl (by kernel_rfl) (by kernel_rfl) (by kernel_rfl) (fun _ _ _ h => h) (Or.inr ⟨by rfl, rfl⟩) (by assumption) ?_
    try simp only [Act.put, List.setIfInBounds_toArray, List.set_cons_zero, List.set_cons_succ]
    refine wpAnyH_take (i := 8) (oi := { dst := some 71, op := Op.move (Operand.tmp 70), type := 4, pos := "sound.go:101", after := #[{ on := 7, ground := Ground.data }, { on := 7, ground := Ground.chain }, { on := 2, ground := Ground.guard }], guard := some (2, true) }) (v := undef) rfl (by kernel_rfl) (by kernel_rfl) (by kernel_rfl) (fun _ _ _ h => h) (Or.inr ⟨by rfl, rfl⟩) (by assumption) ?_
    try simp only [Act.put, List.setIfInBounds_toArray, List.set_cons_zero, List.set_cons_succ]
    refine wpAnyH_take (i := 9) (oi := { dst := some 72, op := Op.fieldAddr 25 (Operand.tmp 1) 4, type := 0, pos := "sound.go:101", after := #[{ on := 8, ground := Ground.guard }], guard := some (8, false) }) (v := undef) rfl (by kernel_rfl) (by kernel_rfl) (by kernel_rfl) (fun _ _ _ h => h) (Or.inr ⟨by rfl, rfl⟩) (by assumption) ?_
    try simp only [Act.put, List.setIfInBounds_toArray, List.set_cons_zero, List.set_cons_succ]
    refine wpAnyH_take (i := 10) (oi := { dst := some 73, op := Op.load 23 (Operand.tmp 72), type := 23, pos := "sound.go:101", after := #[{ on := 9, ground := Ground.data }, { on := 8, ground := Ground.guard }], guard := some (8, false) }) (v := undef) rfl (by kernel_rfl) (by kernel_rfl) (by kernel_rfl) (fun _ _ _ h => h) (Or.inr ⟨by rfl, rfl⟩) (by assumption) ?_
    try simp only [Act.put, List.setIfInBounds_toArray, List.set_cons_zero, List.set_cons_succ]
    refine wpAnyH_take (i := 11) (oi := { dst := some 74, op := Op.move (Operand.tmp 3), type := 49, pos := "sound.go:101", after := #[{ on := 8, ground := Ground.guard }], guard := some (8, false) }) (v := undef) rfl (by kernel_rfl) (by kernel_rfl) (by kernel_rfl) (fun _ _ _ h => h) (Or.inr ⟨by rfl, rfl⟩) (by assumption) ?_
    try simp only [Act.put, List.setIfInBounds_toArray, List.set_cons_zero, List.set_cons_succ]
    refine wpAnyH_take (i := 12) (oi := { dst := some 75, op := Op.buildSlice 36 2 #[(0, Operand.const (Value.int IntKind.i64 20)), (1, Operand.const (Value.int IntKind.i64 25))], type := 36, pos := "sound.go:101", after := #[{ on := 8, ground := Ground.guard }], guard := some (8, false) }) (v := undef) rfl (by kernel_rfl) (by kernel_rfl) (by kernel_rfl) (fun _ _ _ h => h) (Or.inr ⟨by rfl, rfl⟩) (by assumption) ?_
    try simp only [Act.put, List.setIfInBounds_toArray, List.set_cons_zero, List.set_cons_succ]
    refine wpAnyH_take (i := 13) (oi := { dst := some 76, op := Op.call { callee := Callee.value (Operand.func 31), args := #[Operand.tmp 75], argTypes := #[36] }, type := 49, pos := "sound.go:101", after := #[{ on := 12, ground := Ground.data }, { on := 8, ground := Ground.chain }, { on := 8, ground := Ground.guard }], guard := some (8, false) }) (v := undef) rfl (by kernel_rfl) (by kernel_rfl) (by kernel_rfl) (fun _ _ _ h => h) (Or.inr ⟨by rfl, rfl⟩) (by assumption) ?_
    try simp only [Act.put, List.setIfInBounds_toArray, List.set_cons_zero, List.set_cons_succ]
    refine wpAnyH_take (i := 14) (oi := { dst := some 77, op := Op.buildSlice 65 3 #[(0, Operand.func 33), (1, Operand.tmp 74), (2, Operand.tmp 76)], type := 65, pos := "sound.go:101", after := #[{ on := 11, ground := Ground.data }, { on := 13, ground := Ground.data }, { on := 8, ground := Ground.guard }], guard := some (8, false) }) (v := undef) rfl (by kernel_rfl) (by kernel_rfl) (by kernel_rfl) (fun _ _ _ h => h) (Or.inr ⟨by rfl, rfl⟩) (by assumption) ?_
    try simp only [Act.put, List.setIfInBounds_toArray, List.set_cons_zero, List.set_cons_succ]
    refine wpAnyH_take (i := 15) (oi := { dst := some 78, op := Op.call { callee := Callee.value (Operand.func 58), args := #[Operand.tmp 73, Operand.tmp 77], argTypes := #[23, 65] }, type := 4, pos := "sound.go:101", after := #[{ on := 10, ground := Ground.data }, { on := 14, ground := Ground.data }, { on := 13, ground := Ground.chain }, { on := 8, ground := Ground.guard }], guard := some (8, false) }) (v := undef) rfl (by kernel_rfl) (by kernel_rfl) (by kernel_rfl) (fun _ _ _ h => h) (Or.inr ⟨by rfl, rfl⟩) (by assumption) ?_
    try simp only [Act.put, List.setIfInBounds_toArray, List.set_cons_zero, List.set_cons_succ]
    refine wpAnyH_take (i := 16) (oi := { dst := some 79, op := Op.pick (Operand.tmp 71) (Operand.const (Value.bool true)) (Operand.tmp 78), type := 4, pos := "sound.go:101", after := #[{ on := 8, ground := Ground.data }, { on := 15, ground := Ground.data }, { on := 2, ground := Ground.guard }], guard := some (2, true) }) (v := undef) rfl (by kernel_rfl) (by kernel_rfl) (by kernel_rfl) (fun _ _ _ h => h) (Or.inr ⟨by rfl, rfl⟩) (by assumption) ?_
    try simp only [Act.put, List.setIfInBounds_toArray, List.set_cons_zero, List.set_cons_succ]
    refine wpAnyH_take (i := 17) (oi := { dst := some 80, op := Op.pick (Operand.tmp 65) (Operand.tmp 79) (Operand.const (Value.bool false)), type := 4, pos := "sound.go:101", after := #[{ on := 2, ground := Ground.data }, { on := 16, ground := Ground.data }], guard := none }) (v := ?_) rfl (by kernel_rfl) (by kernel_rfl) (by kernel_rfl) (fun _ _ _ h => h) (Or.inl ⟨by rfl, ?_⟩) (by assumption) ?_
    rotate_left
    · (intro wz hSw; (try dsimp only at hSw); go_simp; first | done | with_reducible rfl)
    try simp only [Act.put, List.setIfInBounds_toArray, List.set_cons_zero, List.set_cons_succ]
    refine wpAnyH_take (i := 18) (oi := { dst := some 2, op := Op.assign (Operand.tmp 80), type := 4, pos := "sound.go:101", after := #[{ on := 17, ground := Ground.data }, { on := 15, ground := Ground.chain }, { on := 0, ground := Ground.phase }, { on := 1, ground := Ground.phase }, { on := 2, ground := Ground.phase }, { on := 3, ground := Ground.phase }, { on := 4, ground := Ground.phase }, { on := 5, ground := Ground.phase }, { on := 6, ground := Ground.phase }, { on := 7, ground := Ground.phase }, { on := 8, ground := Ground.phase }, { on := 9, ground := Ground.phase }, { on := 10, ground := Ground.phase }, { on := 11, ground := Ground.phase }, { on := 12, ground := Ground.phase }, { on := 13, ground := Ground.phase }, { on := 14, ground := Ground.phase }, { on := 15, ground := Ground.phase }, { on := 16, ground := Ground.phase }, { on := 17, ground := Ground.phase }], guard := none }) (v := ?_) rfl (by kernel_rfl) (by kernel_rfl) (by kernel_rfl) (fun _ _ _ h => h) (Or.inl ⟨by rfl, ?_⟩) (by assumption) ?_
    rotate_left
    · (intro wz hSw; (try dsimp only at hSw); go_simp; first | done | with_reducible rfl)
    try simp only [Act.put, List.setIfInBounds_toArray, List.set_cons_zero, List.set_cons_succ]
    refine wpAnyH_done (by kernel_rfl) ?_ _
    go_wp2_with fail
    go_ret
    refine ⟨rfl, hkw.trans ?_⟩
    (repeat (first | with_reducible exact Kp.refl _ | with_reducible refine Kp.alloc ?_ _ | with_reducible refine Kp.drew ?_ | with_reducible refine Kp.back hk3 ?_ | with_reducible refine Kp.back hk2 ?_ | with_reducible refine Kp.back hk1 ?_))
  | true =>
    rw [Bool.true_and]
    cases h1 : areB ks [exK, inK [20]] with
    | true =>
      rw [Bool.true_or]
      go_enter Try.func51, Try.ntmps51
      go_wp2_with (first | (go_at_call 31; (with_reducible refine (c_of _ _ _ _).mono ?_); rintro e w' ⟨rfl, rfl⟩))
      have b := boxed (w := w) (h := ⟨25, tx, n, at_, la, ll, lc⟩) (show Kp _ (((w.alloc (.cells #[.int .i64 25, .string tx, .int .u64 n, .int .i64 at_, .slice la ll lc] 25)).alloc (.cells #[.int .i64 20] 3)).alloc (.cells #[.slice (some ⟨w.heap.size + 1, 0, none⟩) 1 1] 36)) by (repeat (first | with_reducible exact Kp.refl _ | with_reducible refine Kp.alloc ?_ _ | with_reducible refine Kp.drew ?_ | with_reducible refine Kp.back hk3 ?_ | with_reducible refine Kp.back hk2 ?_ | with_reducible refine Kp.back hk1 ?_)))
      simp only at b
      obtain ⟨b0, b1, b2, b3, b4, bs⟩ := b
      have hkw : Kp w (((w.alloc (.cells #[.int .i64 25, .string tx, .int .u64 n, .int .i64 at_, .slice la ll lc] 25)).alloc (.cells #[.int .i64 20] 3)).alloc (.cells #[.slice (some ⟨w.heap.size + 1, 0, none⟩) 1 1] 36)) := by (repeat (first | with_reducible exact Kp.refl _ | with_reducible refine Kp.alloc ?_ _ | with_reducible refine Kp.drew ?_ | with_reducible refine Kp.back hk3 ?_ | with_reducible refine Kp.back hk2 ?_ | with_reducible refine Kp.back hk1 ?_))
      obtain ⟨W0, hW0⟩ : ∃ W0, (((w.alloc (.cells #[.int .i64 25, .string tx, .int .u64 n, .int .i64 at_, .slice la ll lc] 25)).alloc (.cells #[.int .i64 20] 3)).alloc (.cells #[.slice (some ⟨w.heap.size + 1, 0, none⟩) 1 1] 36)) = W0 := ⟨_, rfl⟩
      rw [hW0] at b0 b1 b2 b3 b4 bs hkw ⊢
      rw [hW0] at HB
      clear hW0
      replace HL := Lib.hid (HL.out.keep hkw)
      refine wp_region_held_drew (S := (fun w' => w'.cell? ⟨w.heap.size, 0, none⟩ = some (.int .i64 25) ∧ w'.cell? ⟨w.heap.size, 1, none⟩ = some (.string tx) ∧ w'.cell? ⟨w.heap.size, 2, none⟩ = some (.int .u64 n) ∧ w'.cell? ⟨w.heap.size, 3, none⟩ = some (.int .i64 at_) ∧ w'.cell? ⟨w.heap.size, 4, none⟩ = some (.slice la ll lc))) (by kernel_rfl) (by (refine ⟨Kp.cellv (a := W0) ?_ b0, Kp.cellv (a := W0) ?_ b1, Kp.cellv (a := W0) ?_ b2, Kp.cellv (a := W0) ?_ b3, Kp.cellv (a := W0) ?_ b4⟩ <;> (repeat (first | with_reducible exact Kp.refl _ | with_reducible refine Kp.alloc ?_ _ | with_reducible refine Kp.drew ?_ | with_reducible refine Kp.back hk3 ?_ | with_reducible refine Kp.back hk2 ?_ | with_reducible refine Kp.back hk1 ?_)))) (fun hHeld0 => ?_)
      refine wpAnyH_take (i := 0) (oi := { dst := some 63, op := Op.load 25 (Operand.tmp 1), type := 25, pos := "sound.go:101", after := #[], guard := none }) (v := ?_) rfl (by kernel_rfl) (by kernel_rfl) (by kernel_rfl) (fun _ _ _ h => h) (Or.inl ⟨by rfl, ?_⟩) (by assumption) ?_
      rotate_left
      · (intro wz hSw; (try dsimp only at hSw); go_simp; first | done | with_reducible rfl)
      try simp only [Act.put, List.setIfInBounds_toArray, List.set_cons_zero, List.set_cons_succ]
      refine wpAnyH_ready (rs := [1]) (by kernel_rfl) (by simp) ?_
      refine AllReadyH.cons (o := { dst := some 64, op := Op.call { callee := Callee.value (Operand.func 59), args := #[Operand.tmp 63], argTypes := #[25] }, type := 4, pos := "sound.go:101", after := #[{ on := 0, ground := Ground.data }], guard := none }) rfl (fun Kw hKw => ?_) AllReadyH.nil
      rw [if_pos (by rfl)]
      go_simp
      (refine (c_isBare ⟨25, tx, n, at_, la, ll, lc⟩ _).mono ?_; rintro e w' ⟨rfl, hk1⟩; rw [hq])
      (try go_wp2_with fail)
      refine hKw.out _ _ ?_ (fun hHeld1 => ?_)
      · (refine ⟨Kp.cellv (a := W0) ?_ b0, Kp.cellv (a := W0) ?_ b1, Kp.cellv (a := W0) ?_ b2, Kp.cellv (a := W0) ?_ b3, Kp.cellv (a := W0) ?_ b4⟩ <;> (repeat (first | with_reducible exact Kp.refl _ | with_reducible refine Kp.alloc ?_ _ | with_reducible refine Kp.drew ?_ | with_reducible refine Kp.back hk3 ?_ | with_reducible refine Kp.back hk2 ?_ | with_reducible refine Kp.back hk1 ?_)))
      clear hKw Kw hHeld0
      try simp only [Act.put, List.setIfInBounds_toArray, List.set_cons_zero, List.set_cons_succ]
      refine wpAnyH_take (i := 2) (oi := { dst := some 65, op := Op.move (Operand.tmp 64), type := 4, pos := "sound.go:101", after := #[{ on := 1, ground := Ground.data }, { on := 1, ground := Ground.chain }], guard := none }) (v := ?_) rfl (by kernel_rfl) (by kernel_rfl) (by kernel_rfl) (fun _ _ _ h => h) (Or.inl ⟨by rfl, ?_⟩) (by assumption) ?_
      rotate_left
      · (intro wz hSw; (try dsimp only at hSw); go_simp; first | done | with_reducible rfl)
      try simp only [Act.put, List.setIfInBounds_toArray, List.set_cons_zero, List.set_cons_succ]
      refine wpAnyH_take (i := 3) (oi := { dst := some 66, op := Op.fieldAddr 25 (Operand.tmp 1) 4, type := 0, pos := "sound.go:101", after := #[{ on := 2, ground := Ground.guard }], guard := some (2, true) }) (v := ?_) rfl (by kernel_rfl) (by kernel_rfl) (by kernel_rfl) (fun _ _ _ h => h) (Or.inl ⟨by rfl, ?_⟩) (by assumption) ?_
      rotate_left
      · (intro wz hSw; (try dsimp only at hSw); go_simp; first | done | with_reducible rfl)
      try simp only [Act.put, List.setIfInBounds_toArray, List.set_cons_zero, List.set_cons_succ]
      refine wpAnyH_take (i := 4) (oi := { dst := some 67, op := Op.load 23 (Operand.tmp 66), type := 23, pos := "sound.go:101", after := #[{ on := 3, ground := Ground.data }, { on := 2, ground := Ground.guard }], guard := some (2, true) }) (v := ?_) rfl (by kernel_rfl) (by kernel_rfl) (by kernel_rfl) (fun _ _ _ h => h) (Or.inl ⟨by rfl, ?_⟩) (by assumption) ?_
      rotate_left
      · (intro wz hSw; (try dsimp only at hSw); go_simp; first | done | with_reducible rfl)
      try simp only [Act.put, List.setIfInBounds_toArray, List.set_cons_zero, List.set_cons_succ]
      refine wpAnyH_take (i := 5) (oi := { dst := some 68, op := Op.move (Operand.tmp 3), type := 49, pos := "sound.go:101", after := #[{ on := 2, ground := Ground.guard }], guard := some (2, true) }) (v := ?_) rfl (by kernel_rfl) (by kernel_rfl) (by kernel_rfl) (fun _ _ _ h => h) (Or.inl ⟨by rfl, ?_⟩) (by assumption) ?_
      rotate_left
      · (intro wz hSw; (try dsimp only at hSw); go_simp; first | done | with_reducible rfl)
      try simp only [Act.put, List.setIfInBounds_toArray, List.set_cons_zero, List.set_cons_succ]
      refine wpAnyH_ready (rs := [6]) (by kernel_rfl) (by simp) ?_
      refine AllReadyH.cons (o := { dst := some 69, op := Op.buildSlice 65 2 #[(0, Operand.func 33), (1, Operand.tmp 68)], type := 65, pos := "sound.go:101", after := #[{ on := 5, ground := Ground.data }, { on := 2, ground := Ground.guard }], guard := some (2, true) }) rfl (fun Kw hKw => ?_) AllReadyH.nil
      rw [if_pos (by rfl)]
      go_simp
      refine hKw.out _ _ ?_ (fun hHeld2 => ?_)
      · (refine ⟨Kp.cellv (a := W0) ?_ b0, Kp.cellv (a := W0) ?_ b1, Kp.cellv (a := W0) ?_ b2, Kp.cellv (a := W0) ?_ b3, Kp.cellv (a := W0) ?_ b4⟩ <;> (repeat (first | with_reducible exact Kp.refl _ | with_reducible refine Kp.alloc ?_ _ | with_reducible refine Kp.drew ?_ | with_reducible refine Kp.back hk3 ?_ | with_reducible refine Kp.back hk2 ?_ | with_reducible refine Kp.back hk1 ?_)))
      clear hKw Kw hHeld1
      try simp only [Act.put, List.setIfInBounds_toArray, List.set_cons_zero, List.set_cons_succ]
      refine wpAnyH_ready (rs := [7]) (by kernel_rfl) (by simp) ?_
      refine AllReadyH.cons (o := { dst := some 70, op := Op.call { callee := Callee.value (Operand.func 58), args := #[Operand.tmp 67, Operand.tmp 69], argTypes := #[23, 65] }, type := 4, pos := "sound.go:101", after := #[{ on := 4, ground := Ground.data }, { on := 6, ground := Ground.data }, { on := 2, ground := Ground.chain }, { on := 2, ground := Ground.guard }], guard := some (2, true) }) rfl (fun Kw hKw => ?_) AllReadyH.nil
      rw [if_pos (by rfl)]
      go_simp
      (refine (c_are _ ks la ll lc K (HL.out.keep (by (repeat (first | with_reducible exact Kp.refl _ | with_reducible refine Kp.alloc ?_ _ | with_reducible refine Kp.drew ?_ | with_reducible refine Kp.back hk3 ?_ | with_reducible refine Kp.back hk2 ?_ | with_reducible refine Kp.back hk1 ?_)))) [exK, (inK [20])] _ _ _ _ (sorts2 (by simp) (sort_ex _) (HB.out.keep (by (repeat (first | with_reducible exact Kp.refl _ | with_reducible refine Kp.alloc ?_ _ | with_reducible refine Kp.drew ?_ | with_reducible refine Kp.back hk3 ?_ | with_reducible refine Kp.back hk2 ?_ | with_reducible refine Kp.back hk1 ?_)))))).mono ?_; rintro e w' ⟨rfl, hk2⟩; rw [h1])
      (try go_wp2_with fail)
      refine hKw.out _ _ ?_ (fun hHeld3 => ?_)
      · (refine ⟨Kp.cellv (a := W0) ?_ b0, Kp.cellv (a := W0) ?_ b1, Kp.cellv (a := W0) ?_ b2, Kp.cellv (a := W0) ?_ b3, Kp.cellv (a := W0) ?_ b4⟩ <;> (repeat (first | with_reducible exact Kp.refl _ | with_reducible refine Kp.alloc ?_ _ | with_reducible refine Kp.drew ?_ | with_reducible refine Kp.back hk3 ?_ | with_reducible refine Kp.back hk2 ?_ | with_reducible refine Kp.back hk1 ?_)))
      clear hKw Kw hHeld2
      try simp only [Act.put, List.setIfInBounds_toArray, List.set_cons_zero, List.set_cons_succ]
      refine wpAnyH_take (i := 8) (oi := { dst := some 71, op := Op.move (Operand.tmp 70), type := 4, pos := "sound.go:101", after := #[{ on := 7, ground := Ground.data }, { on := 7, ground := Ground.chain }, { on := 2, ground := Ground.guard }], guard := some (2, true) }) (v := ?_) rfl (by kernel_rfl) (by kernel_rfl) (by kernel_rfl) (fun _ _ _ h => h) (Or.inl ⟨by rfl, ?_⟩) (by assumption) ?_
      rotate_left
      · (intro wz hSw; (try dsimp only at hSw); go_simp; first | done | with_reducible rfl)
      try simp only [Act.put, List.setIfInBounds_toArray, List.set_cons_zero, List.set_cons_succ]
      refine wpAnyH_take (i := 9) (oi := { dst := some 72, op := Op.fieldAddr 25 (Operand.tmp 1) 4, type := 0, pos := "sound.go:101", after := #[{ on := 8, ground := Ground.guard }], guard := some (8, false) }) (v := undef) rfl (by kernel_rfl) (by kernel_rfl) (by kernel_rfl) (fun _ _ _ h => h) (Or.inr ⟨by rfl, rfl⟩) (by assumption) ?_
      try simp only [Act.put, List.setIfInBounds_toArray, List.set_cons_zero, List.set_cons_succ]
      refine wpAnyH_take (i := 10) (oi := { dst := some 73, op := Op.load 23 (Operand.tmp 72), type := 23, pos := "sound.go:101", after := #[{ on := 9, ground := Ground.data }, { on := 8, ground := Ground.guard }], guard := some (8, false) }) (v := undef) rfl (by kernel_rfl) (by kernel_rfl) (by kernel_rfl) (fun _ _ _ h => h) (Or.inr ⟨by rfl, rfl⟩) (by assumption) ?_
      try simp only [Act.put, List.setIfInBounds_toArray, List.set_cons_zero, List.set_cons_succ]
      refine wpAnyH_take (i := 11) (oi := { dst := some 74, op := Op.move (Operand.tmp 3), type := 49, pos := "sound.go:101", after := #[{ on := 8, ground := Ground.guard }], guard := some (8, false) }) (v := undef) rfl (by kernel_rfl) (by kernel_rfl) (by kernel_rfl) (fun _ _ _ h => h) (Or.inr ⟨by rfl, rfl⟩) (by assumption) ?_
      try simp only [Act.put, List.setIfInBounds_toArray, List.set_cons_zero, List.set_cons_succ]
      refine wpAnyH_take (i := 12) (oi := { dst := some 75, op := Op.buildSlice 36 2 #[(0, Operand.const (Value.int IntKind.i64 20)), (1, Operand.const (Value.int IntKind.i64 25))], type := 36, pos := "sound.go:101", after := #[{ on := 8, ground := Ground.guard }], guard := some (8, false) }) (v := undef) rfl (by kernel_rfl) (by kernel_rfl) (by kernel_rfl) (fun _ _ _ h => h) (Or.inr ⟨by rfl, rfl⟩) (by assumption) ?_
      try simp only [Act.put, List.setIfInBounds_toArray, List.set_cons_zero, List.set_cons_succ]
      refine wpAnyH_take (i := 13) (oi := { dst := some 76, op := Op.call { callee := Callee.value (Operand.func 31), args := #[Operand.tmp 75], argTypes := #[36] }, type := 49, pos := "sound.go:101", after := #[{ on := 12, ground := Ground.data }, { on := 8, ground := Ground.chain }, { on := 8, ground := Ground.guard }], guard := some (8, false) }) (v := undef) rfl (by kernel_rfl) (by kernel_rfl) (by kernel_rfl) (fun _ _ _ h => h) (Or.inr ⟨by rfl, rfl⟩) (by assumption) ?_
      try simp only [Act.put, List.setIfInBounds_toArray, List.set_cons_zero, List.set_cons_succ]
      refine wpAnyH_take (i := 14) (oi := { dst := some 77, op := Op.buildSlice 65 3 #[(0, Operand.func 33), (1, Operand.tmp 74), (2, Operand.tmp 76)], type := 65, pos := "sound.go:101", after := #[{ on := 11, ground := Ground.data }, { on := 13, ground := Ground.data }, { on := 8, ground := Ground.guard }], guard := some (8, false) }) (v := undef) rfl (by kernel_rfl) (by kernel_rfl) (by kernel_rfl) (fun _ _ _ h => h) (Or.inr ⟨by rfl, rfl⟩) (by assumption) ?_
      try simp only [Act.put, List.setIfInBounds_toArray, List.set_cons_zero, List.set_cons_succ]
      refine wpAnyH_take (i := 15) (oi := { dst := some 78, op := Op.call { callee := Callee.value (Operand.func 58), args := #[Operand.tmp 73, Operand.tmp 77], argTypes := #[23, 65] }, type := 4, pos := "sound.go:101", after := #[{ on := 10, ground := Ground.data }, { on := 14, ground := Ground.data }, { on := 13, ground := Ground.chain }, { on := 8, ground := Ground.guard }], guard := some (8, false) }) (v := undef) rfl (by kernel_rfl) (by kernel_rfl) (by kernel_rfl) (fun _ _ _ h => h) (Or.inr ⟨by rfl, rfl⟩) (by assumption) ?_
      try simp only [Act.put, List.setIfInBounds_toArray, List.set_cons_zero, List.set_cons_succ]
      refine wpAnyH_take (i := 16) (oi := { dst := some 79, op := Op.pick (Operand.tmp 71) (Operand.const (Value.bool true)) (Operand.tmp 78), type := 4, pos := "sound.go:101", after := #[{ on := 8, ground := Ground.data }, { on := 15, ground := Ground.data }, { on := 2, ground := Ground.guard }], guard := some (2, true) }) (v := ?_) rfl (by kernel_rfl) (by kernel_rfl) (by kernel_rfl) (fun _ _ _ h => h) (Or.inl ⟨by rfl, ?_⟩) (by assumption) ?_
      rotate_left
      · (intro wz hSw; (try dsimp only at hSw); go_simp; first | done | with_reducible rfl)
      try simp only [Act.put, List.setIfInBounds_toArray, List.set_cons_zero, List.set_cons_succ]
      refine wpAnyH_take (i := 17) (oi := { dst := some 80, op := Op.pick (Operand.tmp 65) (Operand.tmp 79) (Operand.const (Value.bool false)), type := 4, pos := "sound.go:101", after := #[{ on := 2, ground := Ground.data }, { on := 16, ground := Ground.data }], guard := none }) (v := ?_) rfl (by kernel_rfl) (by kernel_rfl) (by kernel_rfl) (fun _ _ _ h => h) (Or.inl ⟨by rfl, ?_⟩) (by assumption) ?_
      rotate_left
      · (intro wz hSw; (try dsimp only at hSw); go_simp; first | done | with_reducible rfl)
      try simp only [Act.put, List.setIfInBounds_toArray, List.set_cons_zero, List.set_cons_succ]
      refine wpAnyH_take (i := 18) (oi := { dst := some 2, op := Op.assign (Operand.tmp 80), type := 4, pos := "sound.go:101", after := #[{ on := 17, ground := Ground.data }, { on := 15, ground := Ground.chain }, { on := 0, ground := Ground.phase }, { on := 1, ground := Ground.phase }, { on := 2, ground := Ground.phase }, { on := 3, ground := Ground.phase }, { on := 4, ground := Ground.phase }, { on := 5, ground := Ground.phase }, { on := 6, ground := Ground.phase }, { on := 7, ground := Ground.phase }, { on := 8, ground := Ground.phase }, { on := 9, ground := Ground.phase }, { on := 10, ground := Ground.phase }, { on := 11, ground := Ground.phase }, { on := 12, ground := Ground.phase }, { on := 13, ground := Ground.phase }, { on := 14, ground := Ground.phase }, { on := 15, ground := Ground.phase }, { on := 16, ground := Ground.phase }, { on := 17, ground := Ground.phase }], guard := none }) (v := ?_) rfl (by kernel_rfl) (by kernel_rfl) (by kernel_rfl) (fun _ _ _ h => h) (Or.inl ⟨by rfl, ?_⟩) (by assumption) ?_
      rotate_left
      · (intro wz hSw; (try dsimp only at hSw); go_simp; first | done | with_reducible rfl)
      try simp only [Act.put, List.setIfInBounds_toArray, List.set_cons_zero, List.set_cons_succ]
      refine wpAnyH_done (by kernel_rfl) ?_ _
      go_wp2_with fail
      go_ret
      refine ⟨rfl, hkw.trans ?_⟩
      (repeat (first | with_reducible exact Kp.refl _ | with_reducible refine Kp.alloc ?_ _ | with_reducible refine Kp.drew ?_ | with_reducible refine Kp.back hk3 ?_ | with_reducible refine Kp.back hk2 ?_ | with_reducible refine Kp.back hk1 ?_))
    | false =>
      rw [Bool.false_or]
      go_enter Try.func51, Try.ntmps51
      go_wp2_with (first | (go_at_call 31; (with_reducible refine (c_of _ _ _ _).mono ?_); rintro e w' ⟨rfl, rfl⟩))
      have b := boxed (w := w) (h := ⟨25, tx, n, at_, la, ll, lc⟩) (show Kp _ (((w.alloc (.cells #[.int .i64 25, .string tx, .int .u64 n, .int .i64 at_, .slice la ll lc] 25)).alloc (.cells #[.int .i64 20] 3)).alloc (.cells #[.slice (some ⟨w.heap.size + 1, 0, none⟩) 1 1] 36)) by (repeat (first | with_reducible exact Kp.refl _ | with_reducible refine Kp.alloc ?_ _ | with_reducible refine Kp.drew ?_ | with_reducible refine Kp.back hk3 ?_ | with_reducible refine Kp.back hk2 ?_ | with_reducible refine Kp.back hk1 ?_)))
      simp only at b
      obtain ⟨b0, b1, b2, b3, b4, bs⟩ := b
      have hkw : Kp w (((w.alloc (.cells #[.int .i64 25, .string tx, .int .u64 n, .int .i64 at_, .slice la ll lc] 25)).alloc (.cells #[.int .i64 20] 3)).alloc (.cells #[.slice (some ⟨w.heap.size + 1, 0, none⟩) 1 1] 36)) := by (repeat (first | with_reducible exact Kp.refl _ | with_reducible refine Kp.alloc ?_ _ | with_reducible refine Kp.drew ?_ | with_reducible refine Kp.back hk3 ?_ | with_reducible refine Kp.back hk2 ?_ | with_reducible refine Kp.back hk1 ?_))
      obtain ⟨W0, hW0⟩ : ∃ W0, (((w.alloc (.cells #[.int .i64 25, .string tx, .int .u64 n, .int .i64 at_, .slice la ll lc] 25)).alloc (.cells #[.int .i64 20] 3)).alloc (.cells #[.slice (some ⟨w.heap.size + 1, 0, none⟩) 1 1] 36)) = W0 := ⟨_, rfl⟩
      rw [hW0] at b0 b1 b2 b3 b4 bs hkw ⊢
      rw [hW0] at HB
      clear hW0
      replace HL := Lib.hid (HL.out.keep hkw)
      refine wp_region_held_drew (S := (fun w' => w'.cell? ⟨w.heap.size, 0, none⟩ = some (.int .i64 25) ∧ w'.cell? ⟨w.heap.size, 1, none⟩ = some (.string tx) ∧ w'.cell? ⟨w.heap.size, 2, none⟩ = some (.int .u64 n) ∧ w'.cell? ⟨w.heap.size, 3, none⟩ = some (.int .i64 at_) ∧ w'.cell? ⟨w.heap.size, 4, none⟩ = some (.slice la ll lc))) (by kernel_rfl) (by (refine ⟨Kp.cellv (a := W0) ?_ b0, Kp.cellv (a := W0) ?_ b1, Kp.cellv (a := W0) ?_ b2, Kp.cellv (a := W0) ?_ b3, Kp.cellv (a := W0) ?_ b4⟩ <;> (repeat (first | with_reducible exact Kp.refl _ | with_reducible refine Kp.alloc ?_ _ | with_reducible refine Kp.drew ?_ | with_reducible refine Kp.back hk3 ?_ | with_reducible refine Kp.back hk2 ?_ | with_reducible refine Kp.back hk1 ?_)))) (fun hHeld0 => ?_)
      refine wpAnyH_take (i := 0) (oi := { dst := some 63, op := Op.load 25 (Operand.tmp 1), type := 25, pos := "sound.go:101", after := #[], guard := none }) (v := ?_) rfl (by kernel_rfl) (by kernel_rfl) (by kernel_rfl) (fun _ _ _ h => h) (Or.inl ⟨by rfl, ?_⟩) (by assumption) ?_
      rotate_left
      · (intro wz hSw; (try dsimp only at hSw); go_simp; first | done | with_reducible rfl)
      try simp only [Act.put, List.setIfInBounds_toArray, List.set_cons_zero, List.set_cons_succ]
      refine wpAnyH_ready (rs := [1]) (by kernel_rfl) (by simp) ?_
      refine AllReadyH.cons (o := { dst := some 64, op := Op.call { callee := Callee.value (Operand.func 59), args := #[Operand.tmp 63], argTypes := #[25] }, type := 4, pos := "sound.go:101", after := #[{ on := 0, ground := Ground.data }], guard := none }) rfl (fun Kw hKw => ?_) AllReadyH.nil
      rw [if_pos (by rfl)]
      go_simp
      (refine (c_isBare ⟨25, tx, n, at_, la, ll, lc⟩ _).mono ?_; rintro e w' ⟨rfl, hk1⟩; rw [hq])
      (try go_wp2_with fail)
      refine hKw.out _ _ ?_ (fun hHeld1 => ?_)
      · (refine ⟨Kp.cellv (a := W0) ?_ b0, Kp.cellv (a := W0) ?_ b1, Kp.cellv (a := W0) ?_ b2, Kp.cellv (a := W0) ?_ b3, Kp.cellv (a := W0) ?_ b4⟩ <;> (repeat (first | with_reducible exact Kp.refl _ | with_reducible refine Kp.alloc ?_ _ | with_reducible refine Kp.drew ?_ | with_reducible refine Kp.back hk3 ?_ | with_reducible refine Kp.back hk2 ?_ | with_reducible refine Kp.back hk1 ?_)))
      clear hKw Kw hHeld0
      try simp only [Act.put, List.setIfInBounds_toArray, List.set_cons_zero, List.set_cons_succ]
      refine wpAnyH_take (i := 2) (oi := { dst := some 65, op := Op.move (Operand.tmp 64), type := 4, pos := "sound.go:101", after := #[{ on := 1, ground := Ground.data }, { on := 1, ground := Ground.chain }], guard := none }) (v := ?_) rfl (by kernel_rfl) (by kernel_rfl) (by kernel_rfl) (fun _ _ _ h => h) (Or.inl ⟨by rfl, ?_⟩) (by assumption) ?_
      rotate_left
      · (intro wz hSw; (try dsimp only at hSw); go_simp; first | done | with_reducible rfl)
      try simp only [Act.put, List.setIfInBounds_toArray, List.set_cons_zero, List.set_cons_succ]
      refine wpAnyH_take (i := 3) (oi := { dst := some 66, op := Op.fieldAddr 25 (Operand.tmp 1) 4, type := 0, pos := "sound.go:101", after := #[{ on := 2, ground := Ground.guard }], guard := some (2, true) }) (v := ?_) rfl (by kernel_rfl) (by kernel_rfl) (by kernel_rfl) (fun _ _ _ h => h) (Or.inl ⟨by rfl, ?_⟩) (by assumption) ?_
      rotate_left
      · (intro wz hSw; (try dsimp only at hSw); go_simp; first | done | with_reducible rfl)
      try simp only [Act.put, List.setIfInBounds_toArray, List.set_cons_zero, List.set_cons_succ]
      refine wpAnyH_take (i := 4) (oi := { dst := some 67, op := Op.load 23 (Operand.tmp 66), type := 23, pos := "sound.go:101", after := #[{ on := 3, ground := Ground.data }, { on := 2, ground := Ground.guard }], guard := some (2, true) }) (v := ?_) rfl (by kernel_rfl) (by kernel_rfl) (by kernel_rfl) (fun _ _ _ h => h) (Or.inl ⟨by rfl, ?_⟩) (by assumption) ?_
      rotate_left
      · (intro wz hSw; (try dsimp only at hSw); go_simp; first | done | with_reducible rfl)
      try simp only [Act.put, List.setIfInBounds_toArray, List.set_cons_zero, List.set_cons_succ]
      refine wpAnyH_take (i := 5) (oi := { dst := some 68, op := Op.move (Operand.tmp 3), type := 49, pos := "sound.go:101", after := #[{ on := 2, ground := Ground.guard }], guard := some (2, true) }) (v := ?_) rfl (by kernel_rfl) (by kernel_rfl) (by kernel_rfl) (fun _ _ _ h => h) (Or.inl ⟨by rfl, ?_⟩) (by assumption) ?_
      rotate_left
      · (intro wz hSw; (try dsimp only at hSw); go_simp; first | done | with_reducible rfl)
      try simp only [Act.put, List.setIfInBounds_toArray, List.set_cons_zero, List.set_cons_succ]
      refine wpAnyH_ready (rs := [6]) (by kernel_rfl) (by simp) ?_
      refine AllReadyH.cons (o := { dst := some 69, op := Op.buildSlice 65 2 #[(0, Operand.func 33), (1, Operand.tmp 68)], type := 65, pos := "sound.go:101", after := #[{ on := 5, ground := Ground.data }, { on := 2, ground := Ground.guard }], guard := some (2, true) }) rfl (fun Kw hKw => ?_) AllReadyH.nil
      rw [if_pos (by rfl)]
      go_simp
      refine hKw.out _ _ ?_ (fun hHeld2 => ?_)
      · (refine ⟨Kp.cellv (a := W0) ?_ b0, Kp.cellv (a := W0) ?_ b1, Kp.cellv (a := W0) ?_ b2, Kp.cellv (a := W0) ?_ b3, Kp.cellv (a := W0) ?_ b4⟩ <;> (repeat (first | with_reducible exact Kp.refl _ | with_reducible refine Kp.alloc ?_ _ | with_reducible refine Kp.drew ?_ | with_reducible refine Kp.back hk3 ?_ | with_reducible refine Kp.back hk2 ?_ | with_reducible refine Kp.back hk1 ?_)))
      clear hKw Kw hHeld1
      try simp only [Act.put, List.setIfInBounds_toArray, List.set_cons_zero, List.set_cons_succ]
      refine wpAnyH_ready (rs := [7]) (by kernel_rfl) (by simp) ?_
      refine AllReadyH.cons (o := { dst := some 70, op := Op.call { callee := Callee.value (Operand.func 58), args := #[Operand.tmp 67, Operand.tmp 69], argTypes := #[23, 65] }, type := 4, pos := "sound.go:101", after := #[{ on := 4, ground := Ground.data }, { on := 6, ground := Ground.data }, { on := 2, ground := Ground.chain }, { on := 2, ground := Ground.guard }], guard := some (2, true) }) rfl (fun Kw hKw => ?_) AllReadyH.nil
      rw [if_pos (by rfl)]
      go_simp
      (refine (c_are _ ks la ll lc K (HL.out.keep (by (repeat (first | with_reducible exact Kp.refl _ | with_reducible refine Kp.alloc ?_ _ | with_reducible refine Kp.drew ?_ | with_reducible refine Kp.back hk3 ?_ | with_reducible refine Kp.back hk2 ?_ | with_reducible refine Kp.back hk1 ?_)))) [exK, (inK [20])] _ _ _ _ (sorts2 (by simp) (sort_ex _) (HB.out.keep (by (repeat (first | with_reducible exact Kp.refl _ | with_reducible refine Kp.alloc ?_ _ | with_reducible refine Kp.drew ?_ | with_reducible refine Kp.back hk3 ?_ | with_reducible refine Kp.back hk2 ?_ | with_reducible refine Kp.back hk1 ?_)))))).mono ?_; rintro e w' ⟨rfl, hk2⟩; rw [h1])
      (try go_wp2_with fail)
      refine hKw.out _ _ ?_ (fun hHeld3 => ?_)
      · (refine ⟨Kp.cellv (a := W0) ?_ b0, Kp.cellv (a := W0) ?_ b1, Kp.cellv (a := W0) ?_ b2, Kp.cellv (a := W0) ?_ b3, Kp.cellv (a := W0) ?_ b4⟩ <;> (repeat (first | with_reducible exact Kp.refl _ | with_reducible refine Kp.alloc ?_ _ | with_reducible refine Kp.drew ?_ | with_reducible refine Kp.back hk3 ?_ | with_reducible refine Kp.back hk2 ?_ | with_reducible refine Kp.back hk1 ?_)))
      clear hKw Kw hHeld2
      try simp only [Act.put, List.setIfInBounds_toArray, List.set_cons_zero, List.set_cons_succ]
      refine wpAnyH_take (i := 8) (oi := { dst := some 71, op := Op.move (Operand.tmp 70), type := 4, pos := "sound.go:101", after := #[{ on := 7, ground := Ground.data }, { on := 7, ground := Ground.chain }, { on := 2, ground := Ground.guard }], guard := some (2, true) }) (v := ?_) rfl (by kernel_rfl) (by kernel_rfl) (by kernel_rfl) (fun _ _ _ h => h) (Or.inl ⟨by rfl, ?_⟩) (by assumption) ?_
      rotate_left
      · (intro wz hSw; (try dsimp only at hSw); go_simp; first | done | with_reducible rfl)
      try simp only [Act.put, List.setIfInBounds_toArray, List.set_cons_zero, List.set_cons_succ]
      refine wpAnyH_take (i := 9) (oi := { dst := some 72, op := Op.fieldAddr 25 (Operand.tmp 1) 4, type := 0, pos := "sound.go:101", after := #[{ on := 8, ground := Ground.guard }], guard := some (8, false) }) (v := ?_) rfl (by kernel_rfl) (by kernel_rfl) (by kernel_rfl) (fun _ _ _ h => h) (Or.inl ⟨by rfl, ?_⟩) (by assumption) ?_
      rotate_left
      · (intro wz hSw; (try dsimp only at hSw); go_simp; first | done | with_reducible rfl)
      try simp only [Act.put, List.setIfInBounds_toArray, List.set_cons_zero, List.set_cons_succ]
      refine wpAnyH_take (i := 10) (oi := { dst := some 73, op := Op.load 23 (Operand.tmp 72), type := 23, pos := "sound.go:101", after := #[{ on := 9, ground := Ground.data }, { on := 8, ground := Ground.guard }], guard := some (8, false) }) (v := ?_) rfl (by kernel_rfl) (by kernel_rfl) (by kernel_rfl) (fun _ _ _ h => h) (Or.inl ⟨by rfl, ?_⟩) (by assumption) ?_
      rotate_left
      · (intro wz hSw; (try dsimp only at hSw); go_simp; first | done | with_reducible rfl)
      try simp only [Act.put, List.setIfInBounds_toArray, List.set_cons_zero, List.set_cons_succ]
      refine wpAnyH_take (i := 11) (oi := { dst := some 74, op := Op.move (Operand.tmp 3), type := 49, pos := "sound.go:101", after := #[{ on := 8, ground := Ground.guard }], guard := some (8, false) }) (v := ?_) rfl (by kernel_rfl) (by kernel_rfl) (by kernel_rfl) (fun _ _ _ h => h) (Or.inl ⟨by rfl, ?_⟩) (by assumption) ?_
      rotate_left
      · (intro wz hSw; (try dsimp only at hSw); go_simp; first | done | with_reducible rfl)
      try simp only [Act.put, List.setIfInBounds_toArray, List.set_cons_zero, List.set_cons_succ]
      refine wpAnyH_ready (rs := [12]) (by kernel_rfl) (by simp) ?_
      refine AllReadyH.cons (o := { dst := some 75, op := Op.buildSlice 36 2 #[(0, Operand.const (Value.int IntKind.i64 20)), (1, Operand.const (Value.int IntKind.i64 25))], type := 36, pos := "sound.go:101", after := #[{ on := 8, ground := Ground.guard }], guard := some (8, false) }) rfl (fun Kw hKw => ?_) AllReadyH.nil
      rw [if_pos (by rfl)]
      go_simp
      refine hKw.out _ _ ?_ (fun hHeld4 => ?_)
      · (refine ⟨Kp.cellv (a := W0) ?_ b0, Kp.cellv (a := W0) ?_ b1, Kp.cellv (a := W0) ?_ b2, Kp.cellv (a := W0) ?_ b3, Kp.cellv (a := W0) ?_ b4⟩ <;> (repeat (first | with_reducible exact Kp.refl _ | with_reducible refine Kp.alloc ?_ _ | with_reducible refine Kp.drew ?_ | with_reducible refine Kp.back hk3 ?_ | with_reducible refine Kp.back hk2 ?_ | with_reducible refine Kp.back hk1 ?_)))
      clear hKw Kw hHeld3
      try simp only [Act.put, List.setIfInBounds_toArray, List.set_cons_zero, List.set_cons_succ]
      refine wpAnyH_ready (rs := [13]) (by kernel_rfl) (by simp) ?_
      refine AllReadyH.cons (o := { dst := some 76, op := Op.call { callee := Callee.value (Operand.func 31), args := #[Operand.tmp 75], argTypes := #[36] }, type := 49, pos := "sound.go:101", after := #[{ on := 12, ground := Ground.data }, { on := 8, ground := Ground.chain }, { on := 8, ground := Ground.guard }], guard := some (8, false) }) rfl (fun Kw hKw => ?_) AllReadyH.nil
      rw [if_pos (by rfl)]
      go_simp
      (refine (c_of2S _ _ _ 20 25 (by simp [go_sem]) (by simp [go_sem])).mono ?_; rintro e w' ⟨rfl, rfl, hso⟩; (try simp only [World.size_alloc] at hso))
      (try go_wp2_with fail)
      refine hKw.out _ _ ?_ (fun hHeld5 => ?_)
      · (refine ⟨Kp.cellv (a := W0) ?_ b0, Kp.cellv (a := W0) ?_ b1, Kp.cellv (a := W0) ?_ b2, Kp.cellv (a := W0) ?_ b3, Kp.cellv (a := W0) ?_ b4⟩ <;> (repeat (first | with_reducible exact Kp.refl _ | with_reducible refine Kp.alloc ?_ _ | with_reducible refine Kp.drew ?_ | with_reducible refine Kp.back hk3 ?_ | with_reducible refine Kp.back hk2 ?_ | with_reducible refine Kp.back hk1 ?_)))
      clear hKw Kw hHeld4
      try simp only [Act.put, List.setIfInBounds_toArray, List.set_cons_zero, List.set_cons_succ]
      refine wpAnyH_ready (rs := [14]) (by kernel_rfl) (by simp) ?_
      refine AllReadyH.cons (o := { dst := some 77, op := Op.buildSlice 65 3 #[(0, Operand.func 33), (1, Operand.tmp 74), (2, Operand.tmp 76)], type := 65, pos := "sound.go:101", after := #[{ on := 11, ground := Ground.data }, { on := 13, ground := Ground.data }, { on := 8, ground := Ground.guard }], guard := some (8, false) }) rfl (fun Kw hKw => ?_) AllReadyH.nil
      rw [if_pos (by rfl)]
      go_simp
      refine hKw.out _ _ ?_ (fun hHeld6 => ?_)
      · (refine ⟨Kp.cellv (a := W0) ?_ b0, Kp.cellv (a := W0) ?_ b1, Kp.cellv (a := W0) ?_ b2, Kp.cellv (a := W0) ?_ b3, Kp.cellv (a := W0) ?_ b4⟩ <;> (repeat (first | with_reducible exact Kp.refl _ | with_reducible refine Kp.alloc ?_ _ | with_reducible refine Kp.drew ?_ | with_reducible refine Kp.back hk3 ?_ | with_reducible refine Kp.back hk2 ?_ | with_reducible refine Kp.back hk1 ?_)))
      clear hKw Kw hHeld5
      try simp only [Act.put, List.setIfInBounds_toArray, List.set_cons_zero, List.set_cons_succ]
      refine wpAnyH_ready (rs := [15]) (by kernel_rfl) (by simp) ?_
      refine AllReadyH.cons (o := { dst := some 78, op := Op.call { callee := Callee.value (Operand.func 58), args := #[Operand.tmp 73, Operand.tmp 77], argTypes := #[23, 65] }, type := 4, pos := "sound.go:101", after := #[{ on := 10, ground := Ground.data }, { on := 14, ground := Ground.data }, { on := 13, ground := Ground.chain }, { on := 8, ground := Ground.guard }], guard := some (8, false) }) rfl (fun Kw hKw => ?_) AllReadyH.nil
      rw [if_pos (by rfl)]
      go_simp
      (refine (c_are _ ks la ll lc K (HL.out.keep (by (repeat (first | with_reducible exact Kp.refl _ | with_reducible refine Kp.alloc ?_ _ | with_reducible refine Kp.drew ?_ | with_reducible refine Kp.back hk3 ?_ | with_reducible refine Kp.back hk2 ?_ | with_reducible refine Kp.back hk1 ?_)))) [exK, (inK [20]), (inK [20, 25])] _ _ _ _ (sorts3 (by simp) (sort_ex _) (HB.out.keep (by (repeat (first | with_reducible exact Kp.refl _ | with_reducible refine Kp.alloc ?_ _ | with_reducible refine Kp.drew ?_ | with_reducible refine Kp.back hk3 ?_ | with_reducible refine Kp.back hk2 ?_ | with_reducible refine Kp.back hk1 ?_)))) (SortAt.keep (p := inK [20, 25]) hso (by (repeat (first | with_reducible exact Kp.refl _ | with_reducible refine Kp.alloc ?_ _ | with_reducible refine Kp.drew ?_ | with_reducible refine Kp.back hk3 ?_ | with_reducible refine Kp.back hk2 ?_ | with_reducible refine Kp.back hk1 ?_)))))).mono ?_; rintro e w' ⟨rfl, hk3⟩)
      (try go_wp2_with fail)
      refine hKw.out _ _ ?_ (fun hHeld7 => ?_)
      · (refine ⟨Kp.cellv (a := W0) ?_ b0, Kp.cellv (a := W0) ?_ b1, Kp.cellv (a := W0) ?_ b2, Kp.cellv (a := W0) ?_ b3, Kp.cellv (a := W0) ?_ b4⟩ <;> (repeat (first | with_reducible exact Kp.refl _ | with_reducible refine Kp.alloc ?_ _ | with_reducible refine Kp.drew ?_ | with_reducible refine Kp.back hk3 ?_ | with_reducible refine Kp.back hk2 ?_ | with_reducible refine Kp.back hk1 ?_)))
      clear hKw Kw hHeld6
      try simp only [Act.put, List.setIfInBounds_toArray, List.set_cons_zero, List.set_cons_succ]
      refine wpAnyH_take (i := 16) (oi := { dst := some 79, op := Op.pick (Operand.tmp 71) (Operand.const (Value.bool true)) (Operand.tmp 78), type := 4, pos := "sound.go:101", after := #[{ on := 8, ground := Ground.data }, { on := 15, ground := Ground.data }, { on := 2, ground := Ground.guard }], guard := some (2, true) }) (v := ?_) rfl (by kernel_rfl) (by kernel_rfl) (by kernel_rfl) (fun _ _ _ h => h) (Or.inl ⟨by rfl, ?_⟩) (by assumption) ?_
      rotate_left
      · (intro wz hSw; (try dsimp only at hSw); go_simp; first | done | with_reducible rfl)
      try simp only [Act.put, List.setIfInBounds_toArray, List.set_cons_zero, List.set_cons_succ]
      refine wpAnyH_take (i := 17) (oi := { dst := some 80, op := Op.pick (Operand.tmp 65) (Operand.tmp 79) (Operand.const (Value.bool false)), type := 4, pos := "sound.go:101", after := #[{ on := 2, ground := Ground.data }, { on := 16, ground := Ground.data }], guard := none }) (v := ?_) rfl (by kernel_rfl) (by kernel_rfl) (by kernel_rfl) (fun _ _ _ h => h) (Or.inl ⟨by rfl, ?_⟩) (by assumption) ?_
      rotate_left
      · (intro wz hSw; (try dsimp only at hSw); go_simp; first | done | with_reducible rfl)
      try simp only [Act.put, List.setIfInBounds_toArray, List.set_cons_zero, List.set_cons_succ]
      refine wpAnyH_take (i := 18) (oi := { dst := some 2, op := Op.assign (Operand.tmp 80), type := 4, pos := "sound.go:101", after := #[{ on := 17, ground := Ground.data }, { on := 15, ground := Ground.chain }, { on := 0, ground := Ground.phase }, { on := 1, ground := Ground.phase }, { on := 2, ground := Ground.phase }, { on := 3, ground := Ground.phase }, { on := 4, ground := Ground.phase }, { on := 5, ground := Ground.phase }, { on := 6, ground := Ground.phase }, { on := 7, ground := Ground.phase }, { on := 8, ground := Ground.phase }, { on := 9, ground := Ground.phase }, { on := 10, ground := Ground.phase }, { on := 11, ground := Ground.phase }, { on := 12, ground := Ground.phase }, { on := 13, ground := Ground.phase }, { on := 14, ground := Ground.phase }, { on := 15, ground := Ground.phase }, { on := 16, ground := Ground.phase }, { on := 17, ground := Ground.phase }], guard := none }) (v := ?_) rfl (by kernel_rfl) (by kernel_rfl) (by kernel_rfl) (fun _ _ _ h => h) (Or.inl ⟨by rfl, ?_⟩) (by assumption) ?_
      rotate_left
      · (intro wz hSw; (try dsimp only at hSw); go_simp; first | done | with_reducible rfl)
      try simp only [Act.put, List.setIfInBounds_toArray, List.set_cons_zero, List.set_cons_succ]
      refine wpAnyH_done (by kernel_rfl) ?_ _
      go_wp2_with fail
      go_ret
      refine ⟨rfl, hkw.trans ?_⟩
      (repeat (first | with_reducible exact Kp.refl _ | with_reducible refine Kp.alloc ?_ _ | with_reducible refine Kp.drew ?_ | with_reducible refine Kp.back hk3 ?_ | with_reducible refine Kp.back hk2 ?_ | with_reducible refine Kp.back hk1 ?_))
set_option maxHeartbeats 12800000 in
set_option maxRecDepth 100000 in
theorem form_42 (ks : List Int) (tx : ByteArray) (n at_ : Int) (la : Option Addr) (ll lc : Nat) (K : Nat → Hn) (w : World) (hL : ListAt w ks la ll lc K) (hcap : ll ≤ lc) (hs : tx.size ≤ 140737488351232) :
    Calls Try.prog 51 #[.agg #[.int .i64 42, .string tx, .int .u64 n, .int .i64 at_, .slice la ll lc]] w fun e w' => e = .returned (.bool (bareB tx n && allB ks (inK [43, 44, 45]) && decide (countD ks ≤ 1))) ∧ Kp w w' := by
  have hmf : ∀ (fn : Fn) (first cap : Array Value) (w : World), (Instr.makeFunc fn first cap).run Try.prog w = .ok (.func fn first cap) w := fun _ _ _ _ => rfl
  have HL := Lib.hid hL
  clear hL
  have HB : Hid (SortAt (((w.alloc (.cells #[.int .i64 42, .string tx, .int .u64 n, .int .i64 at_, .slice la ll lc] 25)).alloc (.cells #[.int .i64 20] 3)).alloc (.cells #[.slice (some ⟨w.heap.size + 1, 0, none⟩) 1 1] 36)) (.func (.func 41) #[] #[.pointer (some ⟨w.heap.size + 1 + 1, 0, none⟩)]) (inK [20])) := Lib.hid (sort_of1 (q := w.heap.size + 1) (c := 1) (by simp [go_sem]) (by simp [go_sem]))
  cases hq : bareB tx n with
  | false =>
    rw [Bool.false_and, Bool.false_and]
    go_enter Try.func51, Try.ntmps51
    go_wp2_with (first | (go_at_call 31; (with_reducible refine (c_of _ _ _ _).mono ?_); rintro e w' ⟨rfl, rfl⟩))
    have b := boxed (w := w) (h := ⟨42, tx, n, at_, la, ll, lc⟩) (show Kp _ (((w.alloc (.cells #[.int .i64 42, .string tx, .int .u64 n, .int .i64 at_, .slice la ll lc] 25)).alloc (.cells #[.int .i64 20] 3)).alloc (.cells #[.slice (some ⟨w.heap.size + 1, 0, none⟩) 1 1] 36)) by (repeat (first | with_reducible exact Kp.refl _ | with_reducible refine Kp.alloc ?_ _ | with_reducible refine Kp.drew ?_ | with_reducible refine Kp.back hk3 ?_ | with_reducible refine Kp.back hk2 ?_ | with_reducible refine Kp.back hk1 ?_)))
    simp only at b
    obtain ⟨b0, b1, b2, b3, b4, bs⟩ := b
    have hkw : Kp w (((w.alloc (.cells #[.int .i64 42, .string tx, .int .u64 n, .int .i64 at_, .slice la ll lc] 25)).alloc (.cells #[.int .i64 20] 3)).alloc (.cells #[.slice (some ⟨w.heap.size + 1, 0, none⟩) 1 1] 36)) := by (repeat (first | with_reducible exact Kp.refl _ | with_reducible refine Kp.alloc ?_ _ | with_reducible refine Kp.drew ?_ | with_reducible refine Kp.back hk3 ?_ | with_reducible refine Kp.back hk2 ?_ | with_reducible refine Kp.back hk1 ?_))
    obtain ⟨W0, hW0⟩ : ∃ W0, (((w.alloc (.cells #[.int .i64 42, .string tx, .int .u64 n, .int .i64 at_, .slice la ll lc] 25)).alloc (.cells #[.int .i64 20] 3)).alloc (.cells #[.slice (some ⟨w.heap.size + 1, 0, none⟩) 1 1] 36)) = W0 := ⟨_, rfl⟩
    rw [hW0] at b0 b1 b2 b3 b4 bs hkw ⊢
    rw [hW0] at HB
    clear hW0
    replace HL := Lib.hid (HL.out.keep hkw)
    refine wp_region_held_drew (S := (fun w' => w'.cell? ⟨w.heap.size, 0, none⟩ = some (.int .i64 42) ∧ w'.cell? ⟨w.heap.size, 1, none⟩ = some (.string tx) ∧ w'.cell? ⟨w.heap.size, 2, none⟩ = some (.int .u64 n) ∧ w'.cell? ⟨w.heap.size, 3, none⟩ = some (.int .i64 at_) ∧ w'.cell? ⟨w.heap.size, 4, none⟩ = some (.slice la ll lc))) (by kernel_rfl) (by (refine ⟨Kp.cellv (a := W0) ?_ b0, Kp.cellv (a := W0) ?_ b1, Kp.cellv (a := W0) ?_ b2, Kp.cellv (a := W0) ?_ b3, Kp.cellv (a := W0) ?_ b4⟩ <;> (repeat (first | with_reducible exact Kp.refl _ | with_reducible refine Kp.alloc ?_ _ | with_reducible refine Kp.drew ?_ | with_reducible refine Kp.back hk3 ?_ | with_reducible refine Kp.back hk2 ?_ | with_reducible refine Kp.back hk1 ?_)))) (fun hHeld0 => ?_)
    refine wpAnyH_take (i := 0) (oi := { dst := some 140, op := Op.load 25 (Operand.tmp 1), type := 25, pos := "sound.go:113", after := #[], guard := none }) (v := ?_) rfl (by kernel_rfl) (by kernel_rfl) (by kernel_rfl) (fun _ _ _ h => h) (Or.inl ⟨by rfl, ?_⟩) (by assumption) ?_
    rotate_left
    · (intro wz hSw; (try dsimp only at hSw); go_simp; first | done | with_reducible rfl)
    try simp only [Act.put, List.setIfInBounds_toArray, List.set_cons_zero, List.set_cons_succ]
    refine wpAnyH_ready (rs := [1]) (by kernel_rfl) (by simp) ?_
    refine AllReadyH.cons (o := { dst := some 141, op := Op.call { callee := Callee.value (Operand.func 59), args := #[Operand.tmp 140], argTypes := #[25] }, type := 4, pos := "sound.go:113", after := #[{ on := 0, ground := Ground.data }], guard := none }) rfl (fun Kw hKw => ?_) AllReadyH.nil
    rw [if_pos (by rfl)]
    go_simp
    (refine (c_isBare ⟨42, tx, n, at_, la, ll, lc⟩ _).mono ?_; rintro e w' ⟨rfl, hk1⟩; rw [hq])
    (try go_wp2_with fail)
    refine hKw.out _ _ ?_ (fun hHeld1 => ?_)
    · (refine ⟨Kp.cellv (a := W0) ?_ b0, Kp.cellv (a := W0) ?_ b1, Kp.cellv (a := W0) ?_ b2, Kp.cellv (a := W0) ?_ b3, Kp.cellv (a := W0) ?_ b4⟩ <;> (repeat (first | with_reducible exact Kp.refl _ | with_reducible refine Kp.alloc ?_ _ | with_reducible refine Kp.drew ?_ | with_reducible refine Kp.back hk3 ?_ | with_reducible refine Kp.back hk2 ?_ | with_reducible refine Kp.back hk1 ?_)))
    clear hKw Kw hHeld0
    try simp only [Act.put, List.setIfInBounds_toArray, List.set_cons_zero, List.set_cons_succ]
    refine wpAnyH_take (i := 2) (oi := { dst := some 142, op := Op.move (Operand.tmp 141), type := 4, pos := "sound.go:113", after := #[{ on := 1, ground := Ground.data }, { on := 1, ground := Ground.chain }], guard := none }) (v := ?_) rfl (by kernel_rfl) (by kernel_rfl) (by kernel_rfl) (fun _ _ _ h => h) (Or.inl ⟨by rfl, ?_⟩) (by assumption) ?_
    rotate_left
    · (intro wz hSw; (try dsimp only at hSw); go_simp; first | done | with_reducible rfl)
    try simp only [Act.put, List.setIfInBounds_toArray, List.set_cons_zero, List.set_cons_succ]
    refine wpAnyH_take (i := 3) (oi := { dst := some 143, op := Op.fieldAddr 25 (Operand.tmp 1) 4, type := 0, pos := "sound.go:113", after := #[{ on := 2, ground := Ground.guard }], guard := some (2, true) }) (v := undef) rfl (by kernel_rfl) (by kernel_rfl) (by kernel_rfl) (fun _ _ _ h => h) (Or.inr ⟨by rfl, rfl⟩) (by assumption) ?_
    try simp only [Act.put, List.setIfInBounds_toArray, List.set_cons_zero, List.set_cons_succ]
    refine wpAnyH_take (i := 4) (oi := { dst := some 144, op := Op.load 23 (Operand.tmp 143), type := 23, pos := "sound.go:113", after := #[{ on := 3, ground := Ground.data }, { on := 2, ground := Ground.guard }], guard := some (2, true) }) (v := undef) rfl (by kernel_rfl) (by kernel_rfl) (by kernel_rfl) (fun _ _ _ h => h) (Or.inr ⟨by rfl, rfl⟩) (by assumption) ?_
    try simp only [Act.put, List.setIfInBounds_toArray, List.set_cons_zero, List.set_cons_succ]
    refine wpAnyH_take (i := 5) (oi := { dst := some 145, op := Op.buildSlice 36 3 #[(0, Operand.const (Value.int IntKind.i64 43)), (1, Operand.const (Value.int IntKind.i64 44)), (2, Operand.const (Value.int IntKind.i64 45))], type := 36, pos := "sound.go:113", after := #[{ on := 2, ground := Ground.guard }], guard := some (2, true) }) (v := undef) rfl (by kernel_rfl) (by kernel_rfl) (by kernel_rfl) (fun _ _ _ h => h) (Or.inr ⟨by rfl, rfl⟩) (by assumption) ?_
    try simp only [Act.put, List.setIfInBounds_toArray, List.set_cons_zero, List.set_cons_succ]
    refine wpAnyH_take (i := 6) (oi := { dst := some 146, op := Op.call { callee := Callee.value (Operand.func 31), args := #[Operand.tmp 145], argTypes := #[36] }, type := 49, pos := "sound.go:113", after := #[{ on := 5, ground := Ground.data }, { on := 2, ground := Ground.chain }, { on := 2, ground := Ground.guard }], guard := some (2, true) }) (v := undef) rfl (by kernel_rfl) (by kernel_rfl) (by kernel_rfl) (fun _ _ _ h => h) (Or.inr ⟨by rfl, rfl⟩) (by assumption) ?_
    try simp only [Act.put, List.setIfInBounds_toArray, List.set_cons_zero, List.set_cons_succ]
    refine wpAnyH_take (i := 7) (oi := { dst := some 147, op := Op.call { callee := Callee.value (Operand.func 61), args := #[Operand.tmp 144, Operand.tmp 146], argTypes := #[23, 49] }, type := 4, pos := "sound.go:113", after := #[{ on := 4, ground := Ground.data }, { on := 6, ground := Ground.data }, { on := 6, ground := Ground.chain }, { on := 2, ground := Ground.guard }], guard := some (2, true) }) (v := undef) rfl (by kernel_rfl) (by kernel_rfl) (by kernel_rfl) (fun _ _ _ h => h) (Or.inr ⟨by rfl, rfl⟩) (by assumption) ?_
    try simp only [Act.put, List.setIfInBounds_toArray, List.set_cons_zero, List.set_cons_succ]
    refine wpAnyH_take (i := 8) (oi := { dst := some 148, op := Op.pick (Operand.tmp 142) (Operand.tmp 147) (Operand.const (Value.bool false)), type := 4, pos := "sound.go:113", after := #[{ on := 2, ground := Ground.data }, { on := 7, ground := Ground.data }], guard := none }) (v := ?_) rfl (by kernel_rfl) (by kernel_rfl) (by kernel_rfl) (fun _ _ _ h => h) (Or.inl ⟨by rfl, ?_⟩) (by assumption) ?_
    rotate_left
    · (intro wz hSw; (try dsimp only at hSw); go_simp; first | done | with_reducible rfl)
    try simp only [Act.put, List.setIfInBounds_toArray, List.set_cons_zero, List.set_cons_succ]
    refine wpAnyH_take (i := 9) (oi := { dst := some 149, op := Op.move (Operand.tmp 148), type := 4, pos := "sound.go:113", after := #[{ on := 8, ground := Ground.data }, { on := 7, ground := Ground.chain }], guard := none }) (v := ?_) rfl (by kernel_rfl) (by kernel_rfl) (by kernel_rfl) (fun _ _ _ h => h) (Or.inl ⟨by rfl, ?_⟩) (by assumption) ?_
    rotate_left
    · (intro wz hSw; (try dsimp only at hSw); go_simp; first | done | with_reducible rfl)
    try simp only [Act.put, List.setIfInBounds_toArray, List.set_cons_zero, List.set_cons_succ]
    refine wpAnyH_take (i := 10) (oi := { dst := some 150, op := Op.fieldAddr 25 (Operand.tmp 1) 4, type := 0, pos := "sound.go:113", after := #[{ on := 9, ground := Ground.guard }], guard := some (9, true) }) (v := undef) rfl (by kernel_rfl) (by kernel_rfl) (by kernel_rfl) (fun _ _ _ h => h) (Or.inr ⟨by rfl, rfl⟩) (by assumption) ?_
    try simp only [Act.put, List.setIfInBounds_toArray, List.set_cons_zero, List.set_cons_succ]
    refine wpAnyH_take (i := 11) (oi := { dst := some 151, op := Op.load 23 (Operand.tmp 150), type := 23, pos := "sound.go:113", after := #[{ on := 10, ground := Ground.data }, { on := 9, ground := Ground.guard }], guard := some (9, true) }) (v := undef) rfl (by kernel_rfl) (by kernel_rfl) (by kernel_rfl) (fun _ _ _ h => h) (Or.inr ⟨by rfl, rfl⟩) (by assumption) ?_
    try simp only [Act.put, List.setIfInBounds_toArray, List.set_cons_zero, List.set_cons_succ]
    refine wpAnyH_take (i := 12) (oi := { dst := some 152, op := Op.call { callee := Callee.value (Operand.func 62), args := #[Operand.tmp 151], argTypes := #[23] }, type := 3, pos := "sound.go:113", after := #[{ on := 11, ground := Ground.data }, { on := 9, ground := Ground.chain }, { on := 9, ground := Ground.guard }], guard := some (9, true) }) (v := undef) rfl (by kernel_rfl) (by kernel_rfl) (by kernel_rfl) (fun _ _ _ h => h) (Or.inr ⟨by rfl, rfl⟩) (by assumption) ?_
    try simp only [Act.put, List.setIfInBounds_toArray, List.set_cons_zero, List.set_cons_succ]
    refine wpAnyH_take (i := 13) (oi := { dst := some 153, op := Op.binOp BinOp.leq 3 (Operand.tmp 152) (Operand.const (Value.int IntKind.i64 1)) 3, type := 4, pos := "sound.go:113", after := #[{ on := 12, ground := Ground.data }, { on := 9, ground := Ground.guard }], guard := some (9, true) }) (v := undef) rfl (by kernel_rfl) (by kernel_rfl) (by kernel_rfl) (fun _ _ _ h => h) (Or.inr ⟨by rfl, rfl⟩) (by assumption) ?_
    try simp only [Act.put, List.setIfInBounds_toArray, List.set_cons_zero, List.set_cons_succ]
    refine wpAnyH_take (i := 14) (oi := { dst := some 154, op := Op.pick (Operand.tmp 149) (Operand.tmp 153) (Operand.const (Value.bool false)), type := 4, pos := "sound.go:113", after := #[{ on := 9, ground := Ground.data }, { on := 13, ground := Ground.data }], guard := none }) (v := ?_) rfl (by kernel_rfl) (by kernel_rfl) (by kernel_rfl) (fun _ _ _ h => h) (Or.inl ⟨by rfl, ?_⟩) (by assumption) ?_
    rotate_left
    · (intro wz hSw; (try dsimp only at hSw); go_simp; first | done | with_reducible rfl)
    try simp only [Act.put, List.setIfInBounds_toArray, List.set_cons_zero, List.set_cons_succ]
    refine wpAnyH_take (i := 15) (oi := { dst := some 2, op := Op.assign (Operand.tmp 154), type := 4, pos := "sound.go:113", after := #[{ on := 14, ground := Ground.data }, { on := 12, ground := Ground.chain }, { on := 0, ground := Ground.phase }, { on := 1, ground := Ground.phase }, { on := 2, ground := Ground.phase }, { on := 3, ground := Ground.phase }, { on := 4, ground := Ground.phase }, { on := 5, ground := Ground.phase }, { on := 6, ground := Ground.phase }, { on := 7, ground := Ground.phase }, { on := 8, ground := Ground.phase }, { on := 9, ground := Ground.phase }, { on := 10, ground := Ground.phase }, { on := 11, ground := Ground.phase }, { on := 12, ground := Ground.phase }, { on := 13, ground := Ground.phase }, { on := 14, ground := Ground.phase }], guard := none }) (v := ?_) rfl (by kernel_rfl) (by kernel_rfl) (by kernel_rfl) (fun _ _ _ h => h) (Or.inl ⟨by rfl, ?_⟩) (by assumption) ?_
    rotate_left
    · (intro wz hSw; (try dsimp only at hSw); go_simp; first | done | with_reducible rfl)
    try simp only [Act.put, List.setIfInBounds_toArray, List.set_cons_zero, List.set_cons_succ]
    refine wpAnyH_done (by kernel_rfl) ?_ _
    go_wp2_with fail
    go_ret
    refine ⟨rfl, hkw.trans ?_⟩
    (repeat (first | with_reducible exact Kp.refl _ | with_reducible refine Kp.alloc ?_ _ | with_reducible refine Kp.drew ?_ | with_reducible refine Kp.back hk3 ?_ | with_reducible refine Kp.back hk2 ?_ | with_reducible refine Kp.back hk1 ?_))
  | true =>
    rw [Bool.true_and]
    cases h1 : allB ks (inK [43, 44, 45]) with
    | false =>
      rw [Bool.false_and]
      go_enter Try.func51, Try.ntmps51
      go_wp2_with (first | (go_at_call 31; (with_reducible refine (c_of _ _ _ _).mono ?_); rintro e w' ⟨rfl, rfl⟩))
      have b := boxed (w := w) (h := ⟨42, tx, n, at_, la, ll, lc⟩) (show Kp _ (((w.alloc (.cells #[.int .i64 42, .string tx, .int .u64 n, .int .i64 at_, .slice la ll lc] 25)).alloc (.cells #[.int .i64 20] 3)).alloc (.cells #[.slice (some ⟨w.heap.size + 1, 0, none⟩) 1 1] 36)) by (repeat (first | with_reducible exact Kp.refl _ | with_reducible refine Kp.alloc ?_ _ | with_reducible refine Kp.drew ?_ | with_reducible refine Kp.back hk3 ?_ | with_reducible refine Kp.back hk2 ?_ | with_reducible refine Kp.back hk1 ?_)))
      simp only at b
      obtain ⟨b0, b1, b2, b3, b4, bs⟩ := b
      have hkw : Kp w (((w.alloc (.cells #[.int .i64 42, .string tx, .int .u64 n, .int .i64 at_, .slice la ll lc] 25)).alloc (.cells #[.int .i64 20] 3)).alloc (.cells #[.slice (some ⟨w.heap.size + 1, 0, none⟩) 1 1] 36)) := by (repeat (first | with_reducible exact Kp.refl _ | with_reducible refine Kp.alloc ?_ _ | with_reducible refine Kp.drew ?_ | with_reducible refine Kp.back hk3 ?_ | with_reducible refine Kp.back hk2 ?_ | with_reducible refine Kp.back hk1 ?_))
      obtain ⟨W0, hW0⟩ : ∃ W0, (((w.alloc (.cells #[.int .i64 42, .string tx, .int .u64 n, .int .i64 at_, .slice la ll lc] 25)).alloc (.cells #[.int .i64 20] 3)).alloc (.cells #[.slice (some ⟨w.heap.size + 1, 0, none⟩) 1 1] 36)) = W0 := ⟨_, rfl⟩
      rw [hW0] at b0 b1 b2 b3 b4 bs hkw ⊢
      rw [hW0] at HB
      clear hW0
      replace HL := Lib.hid (HL.out.keep hkw)
      refine wp_region_held_drew (S := (fun w' => w'.cell? ⟨w.heap.size, 0, none⟩ = some (.int .i64 42) ∧ w'.cell? ⟨w.heap.size, 1, none⟩ = some (.string tx) ∧ w'.cell? ⟨w.heap.size, 2, none⟩ = some (.int .u64 n) ∧ w'.cell? ⟨w.heap.size, 3, none⟩ = some (.int .i64 at_) ∧ w'.cell? ⟨w.heap.size, 4, none⟩ = some (.slice la ll lc))) (by kernel_rfl) (by (refine ⟨Kp.cellv (a := W0) ?_ b0, Kp.cellv (a := W0) ?_ b1, Kp.cellv (a := W0) ?_ b2, Kp.cellv (a := W0) ?_ b3, Kp.cellv (a := W0) ?_ b4⟩ <;> (repeat (first | with_reducible exact Kp.refl _ | with_reducible refine Kp.alloc ?_ _ | with_reducible refine Kp.drew ?_ | with_reducible refine Kp.back hk3 ?_ | with_reducible refine Kp.back hk2 ?_ | with_reducible refine Kp.back hk1 ?_)))) (fun hHeld0 => ?_)
      refine wpAnyH_take (i := 0) (oi := { dst := some 140, op := Op.load 25 (Operand.tmp 1), type := 25, pos := "sound.go:113", after := #[], guard := none }) (v := ?_) rfl (by kernel_rfl) (by kernel_rfl) (by kernel_rfl) (fun _ _ _ h => h) (Or.inl ⟨by rfl, ?_⟩) (by assumption) ?_
      rotate_left
      · (intro wz hSw; (try dsimp only at hSw); go_simp; first | done | with_reducible rfl)
      try simp only [Act.put, List.setIfInBounds_toArray, List.set_cons_zero, List.set_cons_succ]
      refine wpAnyH_ready (rs := [1]) (by kernel_rfl) (by simp) ?_
      refine AllReadyH.cons (o := { dst := some 141, op := Op.call { callee := Callee.value (Operand.func 59), args := #[Operand.tmp 140], argTypes := #[25] }, type := 4, pos := "sound.go:113", after := #[{ on := 0, ground := Ground.data }], guard := none }) rfl (fun Kw hKw => ?_) AllReadyH.nil
      rw [if_pos (by rfl)]
      go_simp
      (refine (c_isBare ⟨42, tx, n, at_, la, ll, lc⟩ _).mono ?_; rintro e w' ⟨rfl, hk1⟩; rw [hq])
      (try go_wp2_with fail)
      refine hKw.out _ _ ?_ (fun hHeld1 => ?_)
      · (refine ⟨Kp.cellv (a := W0) ?_ b0, Kp.cellv (a := W0) ?_ b1, Kp.cellv (a := W0) ?_ b2, Kp.cellv (a := W0) ?_ b3, Kp.cellv (a := W0) ?_ b4⟩ <;> (repeat (first | with_reducible exact Kp.refl _ | with_reducible refine Kp.alloc ?_ _ | with_reducible refine Kp.drew ?_ | with_reducible refine Kp.back hk3 ?_ | with_reducible refine Kp.back hk2 ?_ | with_reducible refine Kp.back hk1 ?_)))
      clear hKw Kw hHeld0
      try simp only [Act.put, List.setIfInBounds_toArray, List.set_cons_zero, List.set_cons_succ]
      refine wpAnyH_take (i := 2) (oi := { dst := some 142, op := Op.move (Operand.tmp 141), type := 4, pos := "sound.go:113", after := #[{ on := 1, ground := Ground.data }, { on := 1, ground := Ground.chain }], guard := none }) (v := ?_) rfl (by kernel_rfl) (by kernel_rfl) (by kernel_rfl) (fun _ _ _ h => h) (Or.inl ⟨by rfl, ?_⟩) (by assumption) ?_
      rotate_left
      · (intro wz hSw; (try dsimp only at hSw); go_simp; first | done | with_reducible rfl)
      try simp only [Act.put, List.setIfInBounds_toArray, List.set_cons_zero, List.set_cons_succ]
      refine wpAnyH_take (i := 3) (oi := { dst := some 143, op := Op.fieldAddr 25 (Operand.tmp 1) 4, type := 0, pos := "sound.go:113", after := #[{ on := 2, ground := Ground.guard }], guard := some (2, true) }) (v := ?_) rfl (by kernel_rfl) (by kernel_rfl) (by kernel_rfl) (fun _ _ _ h => h) (Or.inl ⟨by rfl, ?_⟩) (by assumption) ?_
      rotate_left
      · (intro wz hSw; (try dsimp only at hSw); go_simp; first | done | with_reducible rfl)
      try simp only [Act.put, List.setIfInBounds_toArray, List.set_cons_zero, List.set_cons_succ]
      refine wpAnyH_take (i := 4) (oi := { dst := some 144, op := Op.load 23 (Operand.tmp 143), type := 23, pos := "sound.go:113", after := #[{ on := 3, ground := Ground.data }, { on := 2, ground := Ground.guard }], guard := some (2, true) }) (v := ?_) rfl (by kernel_rfl) (by kernel_rfl) (by kernel_rfl) (fun _ _ _ h => h) (Or.inl ⟨by rfl, ?_⟩) (by assumption) ?_
      rotate_left
      · (intro wz hSw; (try dsimp only at hSw); go_simp; first | done | with_reducible rfl)
      try simp only [Act.put, List.setIfInBounds_toArray, List.set_cons_zero, List.set_cons_succ]
      refine wpAnyH_ready (rs := [5]) (by kernel_rfl) (by simp) ?_
      refine AllReadyH.cons (o := { dst := some 145, op := Op.buildSlice 36 3 #[(0, Operand.const (Value.int IntKind.i64 43)), (1, Operand.const (Value.int IntKind.i64 44)), (2, Operand.const (Value.int IntKind.i64 45))], type := 36, pos := "sound.go:113", after := #[{ on := 2, ground := Ground.guard }], guard := some (2, true) }) rfl (fun Kw hKw => ?_) AllReadyH.nil
      rw [if_pos (by rfl)]
      go_simp
      refine hKw.out _ _ ?_ (fun hHeld2 => ?_)
      · (refine ⟨Kp.cellv (a := W0) ?_ b0, Kp.cellv (a := W0) ?_ b1, Kp.cellv (a := W0) ?_ b2, Kp.cellv (a := W0) ?_ b3, Kp.cellv (a := W0) ?_ b4⟩ <;> (repeat (first | with_reducible exact Kp.refl _ | with_reducible refine Kp.alloc ?_ _ | with_reducible refine Kp.drew ?_ | with_reducible refine Kp.back hk3 ?_ | with_reducible refine Kp.back hk2 ?_ | with_reducible refine Kp.back hk1 ?_)))
      clear hKw Kw hHeld1
      try simp only [Act.put, List.setIfInBounds_toArray, List.set_cons_zero, List.set_cons_succ]
      refine wpAnyH_ready (rs := [6]) (by kernel_rfl) (by simp) ?_
      refine AllReadyH.cons (o := { dst := some 146, op := Op.call { callee := Callee.value (Operand.func 31), args := #[Operand.tmp 145], argTypes := #[36] }, type := 49, pos := "sound.go:113", after := #[{ on := 5, ground := Ground.data }, { on := 2, ground := Ground.chain }, { on := 2, ground := Ground.guard }], guard := some (2, true) }) rfl (fun Kw hKw => ?_) AllReadyH.nil
      rw [if_pos (by rfl)]
      go_simp
      (refine (c_of3S _ _ _ 43 44 45 (by simp [go_sem]) (by simp [go_sem]) (by simp [go_sem])).mono ?_; rintro e w' ⟨rfl, rfl, hso⟩; (try simp only [World.size_alloc] at hso))
      (try go_wp2_with fail)
      refine hKw.out _ _ ?_ (fun hHeld3 => ?_)
      · (refine ⟨Kp.cellv (a := W0) ?_ b0, Kp.cellv (a := W0) ?_ b1, Kp.cellv (a := W0) ?_ b2, Kp.cellv (a := W0) ?_ b3, Kp.cellv (a := W0) ?_ b4⟩ <;> (repeat (first | with_reducible exact Kp.refl _ | with_reducible refine Kp.alloc ?_ _ | with_reducible refine Kp.drew ?_ | with_reducible refine Kp.back hk3 ?_ | with_reducible refine Kp.back hk2 ?_ | with_reducible refine Kp.back hk1 ?_)))
      clear hKw Kw hHeld2
      try simp only [Act.put, List.setIfInBounds_toArray, List.set_cons_zero, List.set_cons_succ]
      refine wpAnyH_ready (rs := [7]) (by kernel_rfl) (by simp) ?_
      refine AllReadyH.cons (o := { dst := some 147, op := Op.call { callee := Callee.value (Operand.func 61), args := #[Operand.tmp 144, Operand.tmp 146], argTypes := #[23, 49] }, type := 4, pos := "sound.go:113", after := #[{ on := 4, ground := Ground.data }, { on := 6, ground := Ground.data }, { on := 6, ground := Ground.chain }, { on := 2, ground := Ground.guard }], guard := some (2, true) }) rfl (fun Kw hKw => ?_) AllReadyH.nil
      rw [if_pos (by rfl)]
      go_simp
      (refine (c_areAll _ ks la ll lc K (HL.out.keep (by (repeat (first | with_reducible exact Kp.refl _ | with_reducible refine Kp.alloc ?_ _ | with_reducible refine Kp.drew ?_ | with_reducible refine Kp.back hk3 ?_ | with_reducible refine Kp.back hk2 ?_ | with_reducible refine Kp.back hk1 ?_)))) _ (inK [43, 44, 45]) (SortAt.keep (p := inK [43, 44, 45]) hso (by (repeat (first | with_reducible exact Kp.refl _ | with_reducible refine Kp.alloc ?_ _ | with_reducible refine Kp.drew ?_ | with_reducible refine Kp.back hk3 ?_ | with_reducible refine Kp.back hk2 ?_ | with_reducible refine Kp.back hk1 ?_))))).mono ?_; rintro e w' ⟨rfl, hk2⟩; rw [h1])
      (try go_wp2_with fail)
      refine hKw.out _ _ ?_ (fun hHeld4 => ?_)
      · (refine ⟨Kp.cellv (a := W0) ?_ b0, Kp.cellv (a := W0) ?_ b1, Kp.cellv (a := W0) ?_ b2, Kp.cellv (a := W0) ?_ b3, Kp.cellv (a := W0) ?_ b4⟩ <;> (repeat (first | with_reducible exact Kp.refl _ | with_reducible refine Kp.alloc ?_ _ | with_reducible refine Kp.drew ?_ | with_reducible refine Kp.back hk3 ?_ | with_reducible refine Kp.back hk2 ?_ | with_reducible refine Kp.back hk1 ?_)))
      clear hKw Kw hHeld3
      try simp only [Act.put, List.setIfInBounds_toArray, List.set_cons_zero, List.set_cons_succ]
      refine wpAnyH_take (i := 8) (oi := { dst := some 148, op := Op.pick (Operand.tmp 142) (Operand.tmp 147) (Operand.const (Value.bool false)), type := 4, pos := "sound.go:113", after := #[{ on := 2, ground := Ground.data }, { on := 7, ground := Ground.data }], guard := none }) (v := ?_) rfl (by kernel_rfl) (by kernel_rfl) (by kernel_rfl) (fun _ _ _ h => h) (Or.inl ⟨by rfl, ?_⟩) (by assumption) ?_
      rotate_left
      · (intro wz hSw; (try dsimp only at hSw); go_simp; first | done | with_reducible rfl)
      try simp only [Act.put, List.setIfInBounds_toArray, List.set_cons_zero, List.set_cons_succ]
      refine wpAnyH_take (i := 9) (oi := { dst := some 149, op := Op.move (Operand.tmp 148), type := 4, pos := "sound.go:113", after := #[{ on := 8, ground := Ground.data }, { on := 7, ground := Ground.chain }], guard := none }) (v := ?_) rfl (by kernel_rfl) (by kernel_rfl) (by kernel_rfl) (fun _ _ _ h => h) (Or.inl ⟨by rfl, ?_⟩) (by assumption) ?_
      rotate_left
      · (intro wz hSw; (try dsimp only at hSw); go_simp; first | done | with_reducible rfl)
      try simp only [Act.put, List.setIfInBounds_toArray, List.set_cons_zero, List.set_cons_succ]
      refine wpAnyH_take (i := 10) (oi := { dst := some 150, op := Op.fieldAddr 25 (Operand.tmp 1) 4, type := 0, pos := "sound.go:113", after := #[{ on := 9, ground := Ground.guard }], guard := some (9, true) }) (v := undef) rfl (by kernel_rfl) (by kernel_rfl) (by kernel_rfl) (fun _ _ _ h => h) (Or.inr ⟨by rfl, rfl⟩) (by assumption) ?_
      try simp only [Act.put, List.setIfInBounds_toArray, List.set_cons_zero, List.set_cons_succ]
      refine wpAnyH_take (i := 11) (oi := { dst := some 151, op := Op.load 23 (Operand.tmp 150), type := 23, pos := "sound.go:113", after := #[{ on := 10, ground := Ground.data }, { on := 9, ground := Ground.guard }], guard := some (9, true) }) (v := undef) rfl (by kernel_rfl) (by kernel_rfl) (by kernel_rfl) (fun _ _ _ h => h) (Or.inr ⟨by rfl, rfl⟩) (by assumption) ?_
      try simp only [Act.put, List.setIfInBounds_toArray, List.set_cons_zero, List.set_cons_succ]
      refine wpAnyH_take (i := 12) (oi := { dst := some 152, op := Op.call { callee := Callee.value (Operand.func 62), args := #[Operand.tmp 151], argTypes := #[23] }, type := 3, pos := "sound.go:113", after := #[{ on := 11, ground := Ground.data }, { on := 9, ground := Ground.chain }, { on := 9, ground := Ground.guard }], guard := some (9, true) }) (v := undef) rfl (by kernel_rfl) (by kernel_rfl) (by kernel_rfl) (fun _ _ _ h => h) (Or.inr ⟨by rfl, rfl⟩) (by assumption) ?_
      try simp only [Act.put, List.setIfInBounds_toArray, List.set_cons_zero, List.set_cons_succ]
      refine wpAnyH_take (i := 13) (oi := { dst := some 153, op := Op.binOp BinOp.leq 3 (Operand.tmp 152) (Operand.const (Value.int IntKind.i64 1)) 3, type := 4, pos := "sound.go:113", after := #[{ on := 12, ground := Ground.data }, { on := 9, ground := Ground.guard }], guard := some (9, true) }) (v := undef) rfl (by kernel_rfl) (by kernel_rfl) (by kernel_rfl) (fun _ _ _ h => h) (Or.inr ⟨by rfl, rfl⟩) (by assumption) ?_
      try simp only [Act.put, List.setIfInBounds_toArray, List.set_cons_zero, List.set_cons_succ]
      refine wpAnyH_take (i := 14) (oi := { dst := some 154, op := Op.pick (Operand.tmp 149) (Operand.tmp 153) (Operand.const (Value.bool false)), type := 4, pos := "sound.go:113", after := #[{ on := 9, ground := Ground.data }, { on := 13, ground := Ground.data }], guard := none }) (v := ?_) rfl (by kernel_rfl) (by kernel_rfl) (by kernel_rfl) (fun _ _ _ h => h) (Or.inl ⟨by rfl, ?_⟩) (by assumption) ?_
      rotate_left
      · (intro wz hSw; (try dsimp only at hSw); go_simp; first | done | with_reducible rfl)
      try simp only [Act.put, List.setIfInBounds_toArray, List.set_cons_zero, List.set_cons_succ]
      refine wpAnyH_take (i := 15) (oi := { dst := some 2, op := Op.assign (Operand.tmp 154), type := 4, pos := "sound.go:113", after := #[{ on := 14, ground := Ground.data }, { on := 12, ground := Ground.chain }, { on := 0, ground := Ground.phase }, { on := 1, ground := Ground.phase }, { on := 2, ground := Ground.phase }, { on := 3, ground := Ground.phase }, { on := 4, ground := Ground.phase }, { on := 5, ground := Ground.phase }, { on := 6, ground := Ground.phase }, { on := 7, ground := Ground.phase }, { on := 8, ground := Ground.phase }, { on := 9, ground := Ground.phase }, { on := 10, ground := Ground.phase }, { on := 11, ground := Ground.phase }, { on := 12, ground := Ground.phase }, { on := 13, ground := Ground.phase }, { on := 14, ground := Ground.phase }], guard := none }) (v := ?_) rfl (by kernel_rfl) (by kernel_rfl) (by kernel_rfl) (fun _ _ _ h => h) (Or.inl ⟨by rfl, ?_⟩) (by assumption) ?_
      rotate_left
      · (intro wz hSw; (try dsimp only at hSw); go_simp; first | done | with_reducible rfl)
      try simp only [Act.put, List.setIfInBounds_toArray, List.set_cons_zero, List.set_cons_succ]
      refine wpAnyH_done (by kernel_rfl) ?_ _
      go_wp2_with fail
      go_ret
      refine ⟨rfl, hkw.trans ?_⟩
      (repeat (first | with_reducible exact Kp.refl _ | with_reducible refine Kp.alloc ?_ _ | with_reducible refine Kp.drew ?_ | with_reducible refine Kp.back hk3 ?_ | with_reducible refine Kp.back hk2 ?_ | with_reducible refine Kp.back hk1 ?_))
    | true =>
      rw [Bool.true_and]
      by_cases hd : countD ks ≤ 1
      · rw [decide_eq_true hd]
        have d0 : decide ((countD ks : Int) ≤ 1) = true := decide_eq_true (by omega)
        go_enter Try.func51, Try.ntmps51
        go_wp2_with (first | (go_at_call 31; (with_reducible refine (c_of _ _ _ _).mono ?_); rintro e w' ⟨rfl, rfl⟩))
        have b := boxed (w := w) (h := ⟨42, tx, n, at_, la, ll, lc⟩) (show Kp _ (((w.alloc (.cells #[.int .i64 42, .string tx, .int .u64 n, .int .i64 at_, .slice la ll lc] 25)).alloc (.cells #[.int .i64 20] 3)).alloc (.cells #[.slice (some ⟨w.heap.size + 1, 0, none⟩) 1 1] 36)) by (repeat (first | with_reducible exact Kp.refl _ | with_reducible refine Kp.alloc ?_ _ | with_reducible refine Kp.drew ?_ | with_reducible refine Kp.back hk3 ?_ | with_reducible refine Kp.back hk2 ?_ | with_reducible refine Kp.back hk1 ?_)))
        simp only at b
        obtain ⟨b0, b1, b2, b3, b4, bs⟩ := b
        have hkw : Kp w (((w.alloc (.cells #[.int .i64 42, .string tx, .int .u64 n, .int .i64 at_, .slice la ll lc] 25)).alloc (.cells #[.int .i64 20] 3)).alloc (.cells #[.slice (some ⟨w.heap.size + 1, 0, none⟩) 1 1] 36)) := by (repeat (first | with_reducible exact Kp.refl _ | with_reducible refine Kp.alloc ?_ _ | with_reducible refine Kp.drew ?_ | with_reducible refine Kp.back hk3 ?_ | with_reducible refine Kp.back hk2 ?_ | with_reducible refine Kp.back hk1 ?_))
        obtain ⟨W0, hW0⟩ : ∃ W0, (((w.alloc (.cells #[.int .i64 42, .string tx, .int .u64 n, .int .i64 at_, .slice la ll lc] 25)).alloc (.cells #[.int .i64 20] 3)).alloc (.cells #[.slice (some ⟨w.heap.size + 1, 0, none⟩) 1 1] 36)) = W0 := ⟨_, rfl⟩
        rw [hW0] at b0 b1 b2 b3 b4 bs hkw ⊢
        rw [hW0] at HB
        clear hW0
        replace HL := Lib.hid (HL.out.keep hkw)
        refine wp_region_held_drew (S := (fun w' => w'.cell? ⟨w.heap.size, 0, none⟩ = some (.int .i64 42) ∧ w'.cell? ⟨w.heap.size, 1, none⟩ = some (.string tx) ∧ w'.cell? ⟨w.heap.size, 2, none⟩ = some (.int .u64 n) ∧ w'.cell? ⟨w.heap.size, 3, none⟩ = some (.int .i64 at_) ∧ w'.cell? ⟨w.heap.size, 4, none⟩ = some (.slice la ll lc))) (by kernel_rfl) (by (refine ⟨Kp.cellv (a := W0) ?_ b0, Kp.cellv (a := W0) ?_ b1, Kp.cellv (a := W0) ?_ b2, Kp.cellv (a := W0) ?_ b3, Kp.cellv (a := W0) ?_ b4⟩ <;> (repeat (first | with_reducible exact Kp.refl _ | with_reducible refine Kp.alloc ?_ _ | with_reducible refine Kp.drew ?_ | with_reducible refine Kp.back hk3 ?_ | with_reducible refine Kp.back hk2 ?_ | with_reducible refine Kp.back hk1 ?_)))) (fun hHeld0 => ?_)
        refine wpAnyH_take (i := 0) (oi := { dst := some 140, op := Op.load 25 (Operand.tmp 1), type := 25, pos := "sound.go:113", after := #[], guard := none }) (v := ?_) rfl (by kernel_rfl) (by kernel_rfl) (by kernel_rfl) (fun _ _ _ h => h) (Or.inl ⟨by rfl, ?_⟩) (by assumption) ?_
        rotate_left
        · (intro wz hSw; (try dsimp only at hSw); go_simp; first | done | with_reducible rfl)
        try simp only [Act.put, List.setIfInBounds_toArray, List.set_cons_zero, List.set_cons_succ]
        refine wpAnyH_ready (rs := [1]) (by kernel_rfl) (by simp) ?_
        refine AllReadyH.cons (o := { dst := some 141, op := Op.call { callee := Callee.value (Operand.func 59), args := #[Operand.tmp 140], argTypes := #[25] }, type := 4, pos := "sound.go:113", after := #[{ on := 0, ground := Ground.data }], guard := none }) rfl (fun Kw hKw => ?_) AllReadyH.nil
        rw [if_pos (by rfl)]
        go_simp
        (refine (c_isBare ⟨42, tx, n, at_, la, ll, lc⟩ _).mono ?_; rintro e w' ⟨rfl, hk1⟩; rw [hq])
        (try go_wp2_with fail)
        refine hKw.out _ _ ?_ (fun hHeld1 => ?_)
        · (refine ⟨Kp.cellv (a := W0) ?_ b0, Kp.cellv (a := W0) ?_ b1, Kp.cellv (a := W0) ?_ b2, Kp.cellv (a := W0) ?_ b3, Kp.cellv (a := W0) ?_ b4⟩ <;> (repeat (first | with_reducible exact Kp.refl _ | with_reducible refine Kp.alloc ?_ _ | with_reducible refine Kp.drew ?_ | with_reducible refine Kp.back hk3 ?_ | with_reducible refine Kp.back hk2 ?_ | with_reducible refine Kp.back hk1 ?_)))
        clear hKw Kw hHeld0
        try simp only [Act.put, List.setIfInBounds_toArray, List.set_cons_zero, List.set_cons_succ]
        refine wpAnyH_take (i := 2) (oi := { dst := some 142, op := Op.move (Operand.tmp 141), type := 4, pos := "sound.go:113", after := #[{ on := 1, ground := Ground.data }, { on := 1, ground := Ground.chain }], guard := none }) (v := ?_) rfl (by kernel_rfl) (by kernel_rfl) (by kernel_rfl) (fun _ _ _ h => h) (Or.inl ⟨by rfl, ?_⟩) (by assumption) ?_
        rotate_left
        · (intro wz hSw; (try dsimp only at hSw); go_simp; first | done | with_reducible rfl)
        try simp only [Act.put, List.setIfInBounds_toArray, List.set_cons_zero, List.set_cons_succ]
        refine wpAnyH_take (i := 3) (oi := { dst := some 143, op := Op.fieldAddr 25 (Operand.tmp 1) 4, type := 0, pos := "sound.go:113", after := #[{ on := 2, ground := Ground.guard }], guard := some (2, true) }) (v := ?_) rfl (by kernel_rfl) (by kernel_rfl) (by kernel_rfl) (fun _ _ _ h => h) (Or.inl ⟨by rfl, ?_⟩) (by assumption) ?_
        rotate_left
        · (intro wz hSw; (try dsimp only at hSw); go_simp; first | done | with_reducible rfl)
        try simp only [Act.put, List.setIfInBounds_toArray, List.set_cons_zero, List.set_cons_succ]
        refine wpAnyH_take (i := 4) (oi := { dst := some 144, op := Op.load 23 (Operand.tmp 143), type := 23, pos := "sound.go:113", after := #[{ on := 3, ground := Ground.data }, { on := 2, ground := Ground.guard }], guard := some (2, true) }) (v := ?_) rfl (by kernel_rfl) (by kernel_rfl) (by kernel_rfl) (fun _ _ _ h => h) (Or.inl ⟨by rfl, ?_⟩) (by assumption) ?_
        rotate_left
        · (intro wz hSw; (try dsimp only at hSw); go_simp; first | done | with_reducible rfl)
        try simp only [Act.put, List.setIfInBounds_toArray, List.set_cons_zero, List.set_cons_succ]
        refine wpAnyH_ready (rs := [5]) (by kernel_rfl) (by simp) ?_
        refine AllReadyH.cons (o := { dst := some 145, op := Op.buildSlice 36 3 #[(0, Operand.const (Value.int IntKind.i64 43)), (1, Operand.const (Value.int IntKind.i64 44)), (2, Operand.const (Value.int IntKind.i64 45))], type := 36, pos := "sound.go:113", after := #[{ on := 2, ground := Ground.guard }], guard := some (2, true) }) rfl (fun Kw hKw => ?_) AllReadyH.nil
        rw [if_pos (by rfl)]
        go_simp
        refine hKw.out _ _ ?_ (fun hHeld2 => ?_)
        · (refine ⟨Kp.cellv (a := W0) ?_ b0, Kp.cellv (a := W0) ?_ b1, Kp.cellv (a := W0) ?_ b2, Kp.cellv (a := W0) ?_ b3, Kp.cellv (a := W0) ?_ b4⟩ <;> (repeat (first | with_reducible exact Kp.refl _ | with_reducible refine Kp.alloc ?_ _ | with_reducible refine Kp.drew ?_ | with_reducible refine Kp.back hk3 ?_ | with_reducible refine Kp.back hk2 ?_ | with_reducible refine Kp.back hk1 ?_)))
        clear hKw Kw hHeld1
        try simp only [Act.put, List.setIfInBounds_toArray, List.set_cons_zero, List.set_cons_succ]
        refine wpAnyH_ready (rs := [6]) (by kernel_rfl) (by simp) ?_
        refine AllReadyH.cons (o := { dst := some 146, op := Op.call { callee := Callee.value (Operand.func 31), args := #[Operand.tmp 145], argTypes := #[36] }, type := 49, pos := "sound.go:113", after := #[{ on := 5, ground := Ground.data }, { on := 2, ground := Ground.chain }, { on := 2, ground := Ground.guard }], guard := some (2, true) }) rfl (fun Kw hKw => ?_) AllReadyH.nil
        rw [if_pos (by rfl)]
        go_simp
        (refine (c_of3S _ _ _ 43 44 45 (by simp [go_sem]) (by simp [go_sem]) (by simp [go_sem])).mono ?_; rintro e w' ⟨rfl, rfl, hso⟩; (try simp only [World.size_alloc] at hso))
        (try go_wp2_with fail)
        refine hKw.out _ _ ?_ (fun hHeld3 => ?_)
        · (refine ⟨Kp.cellv (a := W0) ?_ b0, Kp.cellv (a := W0) ?_ b1, Kp.cellv (a := W0) ?_ b2, Kp.cellv (a := W0) ?_ b3, Kp.cellv (a := W0) ?_ b4⟩ <;> (repeat (first | with_reducible exact Kp.refl _ | with_reducible refine Kp.alloc ?_ _ | with_reducible refine Kp.drew ?_ | with_reducible refine Kp.back hk3 ?_ | with_reducible refine Kp.back hk2 ?_ | with_reducible refine Kp.back hk1 ?_)))
        clear hKw Kw hHeld2
        try simp only [Act.put, List.setIfInBounds_toArray, List.set_cons_zero, List.set_cons_succ]
        refine wpAnyH_ready (rs := [7]) (by kernel_rfl) (by simp) ?_
        refine AllReadyH.cons (o := { dst := some 147, op := Op.call { callee := Callee.value (Operand.func 61), args := #[Operand.tmp 144, Operand.tmp 146], argTypes := #[23, 49] }, type := 4, pos := "sound.go:113", after := #[{ on := 4, ground := Ground.data }, { on := 6, ground := Ground.data }, { on := 6, ground := Ground.chain }, { on := 2, ground := Ground.guard }], guard := some (2, true) }) rfl (fun Kw hKw => ?_) AllReadyH.nil
        rw [if_pos (by rfl)]
        go_simp
        (refine (c_areAll _ ks la ll lc K (HL.out.keep (by (repeat (first | with_reducible exact Kp.refl _ | with_reducible refine Kp.alloc ?_ _ | with_reducible refine Kp.drew ?_ | with_reducible refine Kp.back hk3 ?_ | with_reducible refine Kp.back hk2 ?_ | with_reducible refine Kp.back hk1 ?_)))) _ (inK [43, 44, 45]) (SortAt.keep (p := inK [43, 44, 45]) hso (by (repeat (first | with_reducible exact Kp.refl _ | with_reducible refine Kp.alloc ?_ _ | with_reducible refine Kp.drew ?_ | with_reducible refine Kp.back hk3 ?_ | with_reducible refine Kp.back hk2 ?_ | with_reducible refine Kp.back hk1 ?_))))).mono ?_; rintro e w' ⟨rfl, hk2⟩; rw [h1])
        (try go_wp2_with fail)
        refine hKw.out _ _ ?_ (fun hHeld4 => ?_)
        · (refine ⟨Kp.cellv (a := W0) ?_ b0, Kp.cellv (a := W0) ?_ b1, Kp.cellv (a := W0) ?_ b2, Kp.cellv (a := W0) ?_ b3, Kp.cellv (a := W0) ?_ b4⟩ <;> (repeat (first | with_reducible exact Kp.refl _ | with_reducible refine Kp.alloc ?_ _ | with_reducible refine Kp.drew ?_ | with_reducible refine Kp.back hk3 ?_ | with_reducible refine Kp.back hk2 ?_ | with_reducible refine Kp.back hk1 ?_)))
        clear hKw Kw hHeld3
        try simp only [Act.put, List.setIfInBounds_toArray, List.set_cons_zero, List.set_cons_succ]
        refine wpAnyH_take (i := 8) (oi := { dst := some 148, op := Op.pick (Operand.tmp 142) (Operand.tmp 147) (Operand.const (Value.bool false)), type := 4, pos := "sound.go:113", after := #[{ on := 2, ground := Ground.data }, { on := 7, ground := Ground.data }], guard := none }) (v := ?_) rfl (by kernel_rfl) (by kernel_rfl) (by kernel_rfl) (fun _ _ _ h => h) (Or.inl ⟨by rfl, ?_⟩) (by assumption) ?_
        rotate_left
        · (intro wz hSw; (try dsimp only at hSw); go_simp; first | done | with_reducible rfl)
        try simp only [Act.put, List.setIfInBounds_toArray, List.set_cons_zero, List.set_cons_succ]
        refine wpAnyH_take (i := 9) (oi := { dst := some 149, op := Op.move (Operand.tmp 148), type := 4, pos := "sound.go:113", after := #[{ on := 8, ground := Ground.data }, { on := 7, ground := Ground.chain }], guard := none }) (v := ?_) rfl (by kernel_rfl) (by kernel_rfl) (by kernel_rfl) (fun _ _ _ h => h) (Or.inl ⟨by rfl, ?_⟩) (by assumption) ?_
        rotate_left
        · (intro wz hSw; (try dsimp only at hSw); go_simp; first | done | with_reducible rfl)
        try simp only [Act.put, List.setIfInBounds_toArray, List.set_cons_zero, List.set_cons_succ]
        refine wpAnyH_take (i := 10) (oi := { dst := some 150, op := Op.fieldAddr 25 (Operand.tmp 1) 4, type := 0, pos := "sound.go:113", after := #[{ on := 9, ground := Ground.guard }], guard := some (9, true) }) (v := ?_) rfl (by kernel_rfl) (by kernel_rfl) (by kernel_rfl) (fun _ _ _ h => h) (Or.inl ⟨by rfl, ?_⟩) (by assumption) ?_
        rotate_left
        · (intro wz hSw; (try dsimp only at hSw); go_simp; first | done | with_reducible rfl)
        try simp only [Act.put, List.setIfInBounds_toArray, List.set_cons_zero, List.set_cons_succ]
        refine wpAnyH_take (i := 11) (oi := { dst := some 151, op := Op.load 23 (Operand.tmp 150), type := 23, pos := "sound.go:113", after := #[{ on := 10, ground := Ground.data }, { on := 9, ground := Ground.guard }], guard := some (9, true) }) (v := ?_) rfl (by kernel_rfl) (by kernel_rfl) (by kernel_rfl) (fun _ _ _ h => h) (Or.inl ⟨by rfl, ?_⟩) (by assumption) ?_
        rotate_left
        · (intro wz hSw; (try dsimp only at hSw); go_simp; first | done | with_reducible rfl)
        try simp only [Act.put, List.setIfInBounds_toArray, List.set_cons_zero, List.set_cons_succ]
        refine wpAnyH_ready (rs := [12]) (by kernel_rfl) (by simp) ?_
        refine AllReadyH.cons (o := { dst := some 152, op := Op.call { callee := Callee.value (Operand.func 62), args := #[Operand.tmp 151], argTypes := #[23] }, type := 3, pos := "sound.go:113", after := #[{ on := 11, ground := Ground.data }, { on := 9, ground := Ground.chain }, { on := 9, ground := Ground.guard }], guard := some (9, true) }) rfl (fun Kw hKw => ?_) AllReadyH.nil
        rw [if_pos (by rfl)]
        go_simp
        (refine (c_defaults _ ks la ll lc K (HL.out.keep (by (repeat (first | with_reducible exact Kp.refl _ | with_reducible refine Kp.alloc ?_ _ | with_reducible refine Kp.drew ?_ | with_reducible refine Kp.back hk3 ?_ | with_reducible refine Kp.back hk2 ?_ | with_reducible refine Kp.back hk1 ?_))))).mono ?_; rintro e w' ⟨rfl, hk3⟩)
        (try go_wp2_with fail)
        refine hKw.out _ _ ?_ (fun hHeld5 => ?_)
        · (refine ⟨Kp.cellv (a := W0) ?_ b0, Kp.cellv (a := W0) ?_ b1, Kp.cellv (a := W0) ?_ b2, Kp.cellv (a := W0) ?_ b3, Kp.cellv (a := W0) ?_ b4⟩ <;> (repeat (first | with_reducible exact Kp.refl _ | with_reducible refine Kp.alloc ?_ _ | with_reducible refine Kp.drew ?_ | with_reducible refine Kp.back hk3 ?_ | with_reducible refine Kp.back hk2 ?_ | with_reducible refine Kp.back hk1 ?_)))
        clear hKw Kw hHeld4
        try simp only [Act.put, List.setIfInBounds_toArray, List.set_cons_zero, List.set_cons_succ]
        refine wpAnyH_take (i := 13) (oi := { dst := some 153, op := Op.binOp BinOp.leq 3 (Operand.tmp 152) (Operand.const (Value.int IntKind.i64 1)) 3, type := 4, pos := "sound.go:113", after := #[{ on := 12, ground := Ground.data }, { on := 9, ground := Ground.guard }], guard := some (9, true) }) (v := ?_) rfl (by kernel_rfl) (by kernel_rfl) (by kernel_rfl) (fun _ _ _ h => h) (Or.inl ⟨by rfl, ?_⟩) (by assumption) ?_
        rotate_left
        · (intro wz hSw; (try dsimp only at hSw); go_simp; first | done | with_reducible rfl)
        try simp only [Act.put, List.setIfInBounds_toArray, List.set_cons_zero, List.set_cons_succ]
        refine wpAnyH_take (i := 14) (oi := { dst := some 154, op := Op.pick (Operand.tmp 149) (Operand.tmp 153) (Operand.const (Value.bool false)), type := 4, pos := "sound.go:113", after := #[{ on := 9, ground := Ground.data }, { on := 13, ground := Ground.data }], guard := none }) (v := ?_) rfl (by kernel_rfl) (by kernel_rfl) (by kernel_rfl) (fun _ _ _ h => h) (Or.inl ⟨by rfl, ?_⟩) (by assumption) ?_
        rotate_left
        · (intro wz hSw; (try dsimp only at hSw); go_simp; first | done | with_reducible rfl)
        try simp only [Act.put, List.setIfInBounds_toArray, List.set_cons_zero, List.set_cons_succ]
        refine wpAnyH_take (i := 15) (oi := { dst := some 2, op := Op.assign (Operand.tmp 154), type := 4, pos := "sound.go:113", after := #[{ on := 14, ground := Ground.data }, { on := 12, ground := Ground.chain }, { on := 0, ground := Ground.phase }, { on := 1, ground := Ground.phase }, { on := 2, ground := Ground.phase }, { on := 3, ground := Ground.phase }, { on := 4, ground := Ground.phase }, { on := 5, ground := Ground.phase }, { on := 6, ground := Ground.phase }, { on := 7, ground := Ground.phase }, { on := 8, ground := Ground.phase }, { on := 9, ground := Ground.phase }, { on := 10, ground := Ground.phase }, { on := 11, ground := Ground.phase }, { on := 12, ground := Ground.phase }, { on := 13, ground := Ground.phase }, { on := 14, ground := Ground.phase }], guard := none }) (v := ?_) rfl (by kernel_rfl) (by kernel_rfl) (by kernel_rfl) (fun _ _ _ h => h) (Or.inl ⟨by rfl, ?_⟩) (by assumption) ?_
        rotate_left
        · (intro wz hSw; (try dsimp only at hSw); go_simp; first | done | with_reducible rfl)
        try simp only [Act.put, List.setIfInBounds_toArray, List.set_cons_zero, List.set_cons_succ]
        refine wpAnyH_done (by kernel_rfl) ?_ _
        go_wp2_with fail
        go_ret
        refine ⟨rfl, hkw.trans ?_⟩
        (repeat (first | with_reducible exact Kp.refl _ | with_reducible refine Kp.alloc ?_ _ | with_reducible refine Kp.drew ?_ | with_reducible refine Kp.back hk3 ?_ | with_reducible refine Kp.back hk2 ?_ | with_reducible refine Kp.back hk1 ?_))
      · rw [decide_eq_false hd]
        have d0 : decide ((countD ks : Int) ≤ 1) = false := decide_eq_false (by omega)
        go_enter Try.func51, Try.ntmps51
        go_wp2_with (first | (go_at_call 31; (with_reducible refine (c_of _ _ _ _).mono ?_); rintro e w' ⟨rfl, rfl⟩))
        have b := boxed (w := w) (h := ⟨42, tx, n, at_, la, ll, lc⟩) (show Kp _ (((w.alloc (.cells #[.int .i64 42, .string tx, .int .u64 n, .int .i64 at_, .slice la ll lc] 25)).alloc (.cells #[.int .i64 20] 3)).alloc (.cells #[.slice (some ⟨w.heap.size + 1, 0, none⟩) 1 1] 36)) by (repeat (first | with_reducible exact Kp.refl _ | with_reducible refine Kp.alloc ?_ _ | with_reducible refine Kp.drew ?_ | with_reducible refine Kp.back hk3 ?_ | with_reducible refine Kp.back hk2 ?_ | with_reducible refine Kp.back hk1 ?_)))
        simp only at b
        obtain ⟨b0, b1, b2, b3, b4, bs⟩ := b
        have hkw : Kp w (((w.alloc (.cells #[.int .i64 42, .string tx, .int .u64 n, .int .i64 at_, .slice la ll lc] 25)).alloc (.cells #[.int .i64 20] 3)).alloc (.cells #[.slice (some ⟨w.heap.size + 1, 0, none⟩) 1 1] 36)) := by (repeat (first | with_reducible exact Kp.refl _ | with_reducible refine Kp.alloc ?_ _ | with_reducible refine Kp.drew ?_ | with_reducible refine Kp.back hk3 ?_ | with_reducible refine Kp.back hk2 ?_ | with_reducible refine Kp.back hk1 ?_))
        obtain ⟨W0, hW0⟩ : ∃ W0, (((w.alloc (.cells #[.int .i64 42, .string tx, .int .u64 n, .int .i64 at_, .slice la ll lc] 25)).alloc (.cells #[.int .i64 20] 3)).alloc (.cells #[.slice (some ⟨w.heap.size + 1, 0, none⟩) 1 1] 36)) = W0 := ⟨_, rfl⟩
        rw [hW0] at b0 b1 b2 b3 b4 bs hkw ⊢
        rw [hW0] at HB
        clear hW0
        replace HL := Lib.hid (HL.out.keep hkw)
        refine wp_region_held_drew (S := (fun w' => w'.cell? ⟨w.heap.size, 0, none⟩ = some (.int .i64 42) ∧ w'.cell? ⟨w.heap.size, 1, none⟩ = some (.string tx) ∧ w'.cell? ⟨w.heap.size, 2, none⟩ = some (.int .u64 n) ∧ w'.cell? ⟨w.heap.size, 3, none⟩ = some (.int .i64 at_) ∧ w'.cell? ⟨w.heap.size, 4, none⟩ = some (.slice la ll lc))) (by kernel_rfl) (by (refine ⟨Kp.cellv (a := W0) ?_ b0, Kp.cellv (a := W0) ?_ b1, Kp.cellv (a := W0) ?_ b2, Kp.cellv (a := W0) ?_ b3, Kp.cellv (a := W0) ?_ b4⟩ <;> (repeat (first | with_reducible exact Kp.refl _ | with_reducible refine Kp.alloc ?_ _ | with_reducible refine Kp.drew ?_ | with_reducible refine Kp.back hk3 ?_ | with_reducible refine Kp.back hk2 ?_ | with_reducible refine Kp.back hk1 ?_)))) (fun hHeld0 => ?_)
        refine wpAnyH_take (i := 0) (oi := { dst := some 140, op := Op.load 25 (Operand.tmp 1), type := 25, pos := "sound.go:113", after := #[], guard := none }) (v := ?_) rfl (by kernel_rfl) (by kernel_rfl) (by kernel_rfl) (fun _ _ _ h => h) (Or.inl ⟨by rfl, ?_⟩) (by assumption) ?_
        rotate_left
        · (intro wz hSw; (try dsimp only at hSw); go_simp; first | done | with_reducible rfl)
        try simp only [Act.put, List.setIfInBounds_toArray, List.set_cons_zero, List.set_cons_succ]
        refine wpAnyH_ready (rs := [1]) (by kernel_rfl) (by simp) ?_
        refine AllReadyH.cons (o := { dst := some 141, op := Op.call { callee := Callee.value (Operand.func 59), args := #[Operand.tmp 140], argTypes := #[25] }, type := 4, pos := "sound.go:113", after := #[{ on := 0, ground := Ground.data }], guard := none }) rfl (fun Kw hKw => ?_) AllReadyH.nil
        rw [if_pos (by rfl)]
        go_simp
        (refine (c_isBare ⟨42, tx, n, at_, la, ll, lc⟩ _).mono ?_; rintro e w' ⟨rfl, hk1⟩; rw [hq])
        (try go_wp2_with fail)
        refine hKw.out _ _ ?_ (fun hHeld1 => ?_)
        · (refine ⟨Kp.cellv (a := W0) ?_ b0, Kp.cellv (a := W0) ?_ b1, Kp.cellv (a := W0) ?_ b2, Kp.cellv (a := W0) ?_ b3, Kp.cellv (a := W0) ?_ b4⟩ <;> (repeat (first | with_reducible exact Kp.refl _ | with_reducible refine Kp.alloc ?_ _ | with_reducible refine Kp.drew ?_ | with_reducible refine Kp.back hk3 ?_ | with_reducible refine Kp.back hk2 ?_ | with_reducible refine Kp.back hk1 ?_)))
        clear hKw Kw hHeld0
        try simp only [Act.put, List.setIfInBounds_toArray, List.set_cons_zero, List.set_cons_succ]
        refine wpAnyH_take (i := 2) (oi := { dst := some 142, op := Op.move (Operand.tmp 141), type := 4, pos := "sound.go:113", after := #[{ on := 1, ground := Ground.data }, { on := 1, ground := Ground.chain }], guard := none }) (v := ?_) rfl (by kernel_rfl) (by kernel_rfl) (by kernel_rfl) (fun _ _ _ h => h) (Or.inl ⟨by rfl, ?_⟩) (by assumption) ?_
        rotate_left
        · (intro wz hSw; (try dsimp only at hSw); go_simp; first | done | with_reducible rfl)
        try simp only [Act.put, List.setIfInBounds_toArray, List.set_cons_zero, List.set_cons_succ]
        refine wpAnyH_take (i := 3) (oi := { dst := some 143, op := Op.fieldAddr 25 (Operand.tmp 1) 4, type := 0, pos := "sound.go:113", after := #[{ on := 2, ground := Ground.guard }], guard := some (2, true) }) (v := ?_) rfl (by kernel_rfl) (by kernel_rfl) (by kernel_rfl) (fun _ _ _ h => h) (Or.inl ⟨by rfl, ?_⟩) (by assumption) ?_
        rotate_left
        · (intro wz hSw; (try dsimp only at hSw); go_simp; first | done | with_reducible rfl)
        try simp only [Act.put, List.setIfInBounds_toArray, List.set_cons_zero, List.set_cons_succ]
        refine wpAnyH_take (i := 4) (oi := { dst := some 144, op := Op.load 23 (Operand.tmp 143), type := 23, pos := "sound.go:113", after := #[{ on := 3, ground := Ground.data }, { on := 2, ground := Ground.guard }], guard := some (2, true) }) (v := ?_) rfl (by kernel_rfl) (by kernel_rfl) (by kernel_rfl) (fun _ _ _ h => h) (Or.inl ⟨by rfl, ?_⟩) (by assumption) ?_
        rotate_left
        · (intro wz hSw; (try dsimp only at hSw); go_simp; first | done | with_reducible rfl)
        try simp only [Act.put, List.setIfInBounds_toArray, List.set_cons_zero, List.set_cons_succ]
        refine wpAnyH_ready (rs := [5]) (by kernel_rfl) (by simp) ?_
        refine AllReadyH.cons (o := { dst := some 145, op := Op.buildSlice 36 3 #[(0, Operand.const (Value.int IntKind.i64 43)), (1, Operand.const (Value.int IntKind.i64 44)), (2, Operand.const (Value.int IntKind.i64 45))], type := 36, pos := "sound.go:113", after := #[{ on := 2, ground := Ground.guard }], guard := some (2, true) }) rfl (fun Kw hKw => ?_) AllReadyH.nil
        rw [if_pos (by rfl)]
        go_simp
        refine hKw.out _ _ ?_ (fun hHeld2 => ?_)
        · (refine ⟨Kp.cellv (a := W0) ?_ b0, Kp.cellv (a := W0) ?_ b1, Kp.cellv (a := W0) ?_ b2, Kp.cellv (a := W0) ?_ b3, Kp.cellv (a := W0) ?_ b4⟩ <;> (repeat (first | with_reducible exact Kp.refl _ | with_reducible refine Kp.alloc ?_ _ | with_reducible refine Kp.drew ?_ | with_reducible refine Kp.back hk3 ?_ | with_reducible refine Kp.back hk2 ?_ | with_reducible refine Kp.back hk1 ?_)))
        clear hKw Kw hHeld1
        try simp only [Act.put, List.setIfInBounds_toArray, List.set_cons_zero, List.set_cons_succ]
        refine wpAnyH_ready (rs := [6]) (by kernel_rfl) (by simp) ?_
        refine AllReadyH.cons (o := { dst := some 146, op := Op.call { callee := Callee.value (Operand.func 31), args := #[Operand.tmp 145], argTypes := #[36] }, type := 49, pos := "sound.go:113", after := #[{ on := 5, ground := Ground.data }, { on := 2, ground := Ground.chain }, { on := 2, ground := Ground.guard }], guard := some (2, true) }) rfl (fun Kw hKw => ?_) AllReadyH.nil
        rw [if_pos (by rfl)]
        go_simp
        (refine (c_of3S _ _ _ 43 44 45 (by simp [go_sem]) (by simp [go_sem]) (by simp [go_sem])).mono ?_; rintro e w' ⟨rfl, rfl, hso⟩; (try simp only [World.size_alloc] at hso))
        (try go_wp2_with fail)
        refine hKw.out _ _ ?_ (fun hHeld3 => ?_)
        · (refine ⟨Kp.cellv (a := W0) ?_ b0, Kp.cellv (a := W0) ?_ b1, Kp.cellv (a := W0) ?_ b2, Kp.cellv (a := W0) ?_ b3, Kp.cellv (a := W0) ?_ b4⟩ <;> (repeat (first | with_reducible exact Kp.refl _ | with_reducible refine Kp.alloc ?_ _ | with_reducible refine Kp.drew ?_ | with_reducible refine Kp.back hk3 ?_ | with_reducible refine Kp.back hk2 ?_ | with_reducible refine Kp.back hk1 ?_)))
        clear hKw Kw hHeld2
        try simp only [Act.put, List.setIfInBounds_toArray, List.set_cons_zero, List.set_cons_succ]
        refine wpAnyH_ready (rs := [7]) (by kernel_rfl) (by simp) ?_
        refine AllReadyH.cons (o := { dst := some 147, op := Op.call { callee := Callee.value (Operand.func 61), args := #[Operand.tmp 144, Operand.tmp 146], argTypes := #[23, 49] }, type := 4, pos := "sound.go:113", after := #[{ on := 4, ground := Ground.data }, { on := 6, ground := Ground.data }, { on := 6, ground := Ground.chain }, { on := 2, ground := Ground.guard }], guard := some (2, true) }) rfl (fun Kw hKw => ?_) AllReadyH.nil
        rw [if_pos (by rfl)]
        go_simp
        (refine (c_areAll _ ks la ll lc K (HL.out.keep (by (repeat (first | with_reducible exact Kp.refl _ | with_reducible refine Kp.alloc ?_ _ | with_reducible refine Kp.drew ?_ | with_reducible refine Kp.back hk3 ?_ | with_reducible refine Kp.back hk2 ?_ | with_reducible refine Kp.back hk1 ?_)))) _ (inK [43, 44, 45]) (SortAt.keep (p := inK [43, 44, 45]) hso (by (repeat (first | with_reducible exact Kp.refl _ | with_reducible refine Kp.alloc ?_ _ | with_reducible refine Kp.drew ?_ | with_reducible refine Kp.back hk3 ?_ | with_reducible refine Kp.back hk2 ?_ | with_reducible refine Kp.back hk1 ?_))))).mono ?_; rintro e w' ⟨rfl, hk2⟩; rw [h1])
        (try go_wp2_with fail)
        refine hKw.out _ _ ?_ (fun hHeld4 => ?_)
        · (refine ⟨Kp.cellv (a := W0) ?_ b0, Kp.cellv (a := W0) ?_ b1, Kp.cellv (a := W0) ?_ b2, Kp.cellv (a := W0) ?_ b3, Kp.cellv (a := W0) ?_ b4⟩ <;> (repeat (first | with_reducible exact Kp.refl _ | with_reducible refine Kp.alloc ?_ _ | with_reducible refine Kp.drew ?_ | with_reducible refine Kp.back hk3 ?_ | with_reducible refine Kp.back hk2 ?_ | with_reducible refine Kp.back hk1 ?_)))
        clear hKw Kw hHeld3
        try simp only [Act.put, List.setIfInBounds_toArray, List.set_cons_zero, List.set_cons_succ]
        refine wpAnyH_take (i := 8) (oi := { dst := some 148, op := Op.pick (Operand.tmp 142) (Operand.tmp 147) (Operand.const (Value.bool false)), type := 4, pos := "sound.go:113", after := #[{ on := 2, ground := Ground.data }, { on := 7, ground := Ground.data }], guard := none }) (v := ?_) rfl (by kernel_rfl) (by kernel_rfl) (by kernel_rfl) (fun _ _ _ h => h) (Or.inl ⟨by rfl, ?_⟩) (by assumption) ?_
        rotate_left
        · (intro wz hSw; (try dsimp only at hSw); go_simp; first | done | with_reducible rfl)
        try simp only [Act.put, List.setIfInBounds_toArray, List.set_cons_zero, List.set_cons_succ]
        refine wpAnyH_take (i := 9) (oi := { dst := some 149, op := Op.move (Operand.tmp 148), type := 4, pos := "sound.go:113", after := #[{ on := 8, ground := Ground.data }, { on := 7, ground := Ground.chain }], guard := none }) (v := ?_) rfl (by kernel_rfl) (by kernel_rfl) (by kernel_rfl) (fun _ _ _ h => h) (Or.inl ⟨by rfl, ?_⟩) (by assumption) ?_
        rotate_left
        · (intro wz hSw; (try dsimp only at hSw); go_simp; first | done | with_reducible rfl)
        try simp only [Act.put, List.setIfInBounds_toArray, List.set_cons_zero, List.set_cons_succ]
        refine wpAnyH_take (i := 10) (oi := { dst := some 150, op := Op.fieldAddr 25 (Operand.tmp 1) 4, type := 0, pos := "sound.go:113", after := #[{ on := 9, ground := Ground.guard }], guard := some (9, true) }) (v := ?_) rfl (by kernel_rfl) (by kernel_rfl) (by kernel_rfl) (fun _ _ _ h => h) (Or.inl ⟨by rfl, ?_⟩) (by assumption) ?_
        rotate_left
        · (intro wz hSw; (try dsimp only at hSw); go_simp; first | done | with_reducible rfl)
        try simp only [Act.put, List.setIfInBounds_toArray, List.set_cons_zero, List.set_cons_succ]
        refine wpAnyH_take (i := 11) (oi := { dst := some 151, op := Op.load 23 (Operand.tmp 150), type := 23, pos := "sound.go:113", after := #[{ on := 10, ground := Ground.data }, { on := 9, ground := Ground.guard }], guard := some (9, true) }) (v := ?_) rfl (by kernel_rfl) (by kernel_rfl) (by kernel_rfl) (fun _ _ _ h => h) (Or.inl ⟨by rfl, ?_⟩) (by assumption) ?_
        rotate_left
        · (intro wz hSw; (try dsimp only at hSw); go_simp; first | done | with_reducible rfl)
        try simp only [Act.put, List.setIfInBounds_toArray, List.set_cons_zero, List.set_cons_succ]
        refine wpAnyH_ready (rs := [12]) (by kernel_rfl) (by simp) ?_
        refine AllReadyH.cons (o := { dst := some 152, op := Op.call { callee := Callee.value (Operand.func 62), args := #[Operand.tmp 151], argTypes := #[23] }, type := 3, pos := "sound.go:113", after := #[{ on := 11, ground := Ground.data }, { on := 9, ground := Ground.chain }, { on := 9, ground := Ground.guard }], guard := some (9, true) }) rfl (fun Kw hKw => ?_) AllReadyH.nil
        rw [if_pos (by rfl)]
        go_simp
        (refine (c_defaults _ ks la ll lc K (HL.out.keep (by (repeat (first | with_reducible exact Kp.refl _ | with_reducible refine Kp.alloc ?_ _ | with_reducible refine Kp.drew ?_ | with_reducible refine Kp.back hk3 ?_ | with_reducible refine Kp.back hk2 ?_ | with_reducible refine Kp.back hk1 ?_))))).mono ?_; rintro e w' ⟨rfl, hk3⟩)
        (try go_wp2_with fail)
        refine hKw.out _ _ ?_ (fun hHeld5 => ?_)
        · (refine ⟨Kp.cellv (a := W0) ?_ b0, Kp.cellv (a := W0) ?_ b1, Kp.cellv (a := W0) ?_ b2, Kp.cellv (a := W0) ?_ b3, Kp.cellv (a := W0) ?_ b4⟩ <;> (repeat (first | with_reducible exact Kp.refl _ | with_reducible refine Kp.alloc ?_ _ | with_reducible refine Kp.drew ?_ | with_reducible refine Kp.back hk3 ?_ | with_reducible refine Kp.back hk2 ?_ | with_reducible refine Kp.back hk1 ?_)))
        clear hKw Kw hHeld4
        try simp only [Act.put, List.setIfInBounds_toArray, List.set_cons_zero, List.set_cons_succ]
        refine wpAnyH_take (i := 13) (oi := { dst := some 153, op := Op.binOp BinOp.leq 3 (Operand.tmp 152) (Operand.const (Value.int IntKind.i64 1)) 3, type := 4, pos := "sound.go:113", after := #[{ on := 12, ground := Ground.data }, { on := 9, ground := Ground.guard }], guard := some (9, true) }) (v := ?_) rfl (by kernel_rfl) (by kernel_rfl) (by kernel_rfl) (fun _ _ _ h => h) (Or.inl ⟨by rfl, ?_⟩) (by assumption) ?_
        rotate_left
        · (intro wz hSw; (try dsimp only at hSw); go_simp; first | done | with_reducible rfl)
        try simp only [Act.put, List.setIfInBounds_toArray, List.set_cons_zero, List.set_cons_succ]
        refine wpAnyH_take (i := 14) (oi := { dst := some 154, op := Op.pick (Operand.tmp 149) (Operand.tmp 153) (Operand.const (Value.bool false)), type := 4, pos := "sound.go:113", after := #[{ on := 9, ground := Ground.data }, { on := 13, ground := Ground.data }], guard := none }) (v := ?_) rfl (by kernel_rfl) (by kernel_rfl) (by kernel_rfl) (fun _ _ _ h => h) (Or.inl ⟨by rfl, ?_⟩) (by assumption) ?_
        rotate_left
        · (intro wz hSw; (try dsimp only at hSw); go_simp; first | done | with_reducible rfl)
        try simp only [Act.put, List.setIfInBounds_toArray, List.set_cons_zero, List.set_cons_succ]
        refine wpAnyH_take (i := 15) (oi := { dst := some 2, op := Op.assign (Operand.tmp 154), type := 4, pos := "sound.go:113", after := #[{ on := 14, ground := Ground.data }, { on := 12, ground := Ground.chain }, { on := 0, ground := Ground.phase }, { on := 1, ground := Ground.phase }, { on := 2, ground := Ground.phase }, { on := 3, ground := Ground.phase }, { on := 4, ground := Ground.phase }, { on := 5, ground := Ground.phase }, { on := 6, ground := Ground.phase }, { on := 7, ground := Ground.phase }, { on := 8, ground := Ground.phase }, { on := 9, ground := Ground.phase }, { on := 10, ground := Ground.phase }, { on := 11, ground := Ground.phase }, { on := 12, ground := Ground.phase }, { on := 13, ground := Ground.phase }, { on := 14, ground := Ground.phase }], guard := none }) (v := ?_) rfl (by kernel_rfl) (by kernel_rfl) (by kernel_rfl) (fun _ _ _ h => h) (Or.inl ⟨by rfl, ?_⟩) (by assumption) ?_
        rotate_left
        · (intro wz hSw; (try dsimp only at hSw); go_simp; first | done | with_reducible rfl)
        try simp only [Act.put, List.setIfInBounds_toArray, List.set_cons_zero, List.set_cons_succ]
        refine wpAnyH_done (by kernel_rfl) ?_ _
        go_wp2_with fail
        go_ret
        refine ⟨rfl, hkw.trans ?_⟩
        (repeat (first | with_reducible exact Kp.refl _ | with_reducible refine Kp.alloc ?_ _ | with_reducible refine Kp.drew ?_ | with_reducible refine Kp.back hk3 ?_ | with_reducible refine Kp.back hk2 ?_ | with_reducible refine Kp.back hk1 ?_))
end Go.Proofs.Ytgamenimbkafjaa
