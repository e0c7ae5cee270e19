/- What the small functions of package word and of the reference answer, at every kind and word, in the translation of WordTells. Condition: a word is between 0 and 2 to the 64. -/
import Derived.Test.YtlpcnkjnjkijbaaDoorChecked
import Derived.Test.YtlpcnkjnjkijbaaDoorPlain
import Derived.Handy
import Derived.Lib.Hide
import Derived.WalkLawsBesides
import Derived.Outline
namespace Go.Proofs.YtlpcnkjnjkijbaaDoor
open Go.RowKit Plain
set_option linter.unusedVariables false


/-- Of what was there nothing has turned; new blocks may lie behind it. -/
structure Kp (w w' : World) : Prop where
  below : Below w.heap.size w w'
  frozen : ∀ a, w'.frozen? a = w.frozen? a
theorem Kp.refl (w : World) : Kp w w := ⟨Below.refl _ _, fun _ => rfl⟩
theorem Kp.trans {a b c : World} (h : Kp a b) (k : Kp b c) : Kp a c := ⟨h.below.trans (k.below.mono h.below.size), fun x => (k.frozen x).trans (h.frozen x)⟩
theorem Kp.alloc {a w : World} (h : Kp a w) (c : Array Value) (t : TypeId) : Kp a (w.alloc (.cells c t)) := ⟨h.below.alloc h.below.size _, fun x => (frozen?_alloc_cells w c t x).trans (h.frozen x)⟩
theorem Kp.setCell {a w : World} (h : Kp a w) {p : Addr} (hp : a.heap.size ≤ p.block) (v : Value) : Kp a (w.setCell p v) := ⟨h.below.setCell hp v, fun x => (World.frozen?_setCell _ _ _ _).trans (h.frozen x)⟩
theorem Kp.drew {a w : World} (h : Kp a w) : Kp a w.drew := ⟨h.below.drew, h.frozen⟩
theorem Kp.drewN {a w : World} (h : Kp a w) (n : Nat) : Kp a (w.drewN n) := ⟨⟨h.below.os, h.below.tape, h.below.output, h.below.size, h.below.block⟩, h.frozen⟩
theorem Kp.grown {a w : World} (h : Kp a w) : Grown a w := ⟨h.below.frame _, h.frozen, h.below.size⟩
theorem Kp.cell {a w : World} (h : Kp a w) {b o : Nat} (hb : b < a.heap.size) : w.cell? ⟨b, o, none⟩ = a.cell? ⟨b, o, none⟩ := h.below.cell (p := ⟨b, o, none⟩) hb
theorem ret_int {k : IntKind} {a b : Int} (h : a = b) : Ending.returned (.int k a) = .returned (.int k b) := by rw [h]

theorem c_isKind (k : Int) (w : World) : Calls Tryd.prog 20 #[.int .i64 k] w fun e w' => e = .returned (.bool (wh k)) ∧ w = w' := by
  go_enter Tryd.func20, Tryd.ntmps20
  by_cases h1 : 2 ≤ k
  · have e : wh k = decide (k ≤ 7) := by simp [wh, h1]
    rw [e]; clear e
    go_wp2
    go_ret
    exact ⟨rfl, rfl⟩
  · have e : wh k = false := by simp [wh, h1]
    rw [e]; clear e
    go_wp2
    go_ret
    exact ⟨rfl, rfl⟩
theorem c_Whole (k : Int) (w : World) : Calls Tryd.prog 15 #[.int .i64 k] w fun e w' => e = .returned (.bool (wh k)) ∧ w = w' := by
  go_enter Tryd.func15, Tryd.ntmps15
  by_cases h1 : 2 ≤ k
  · have e : wh k = decide (k ≤ 7) := by simp [wh, h1]
    rw [e]; clear e
    go_wp2
    go_ret
    exact ⟨rfl, rfl⟩
  · have e : wh k = false := by simp [wh, h1]
    rw [e]; clear e
    go_wp2
    go_ret
    exact ⟨rfl, rfl⟩
theorem c_hasSign (k : Int) (w : World) : Calls Tryd.prog 12 #[.int .i64 k] w fun e w' => e = .returned (.bool (sg k)) ∧ w = w' := by
  go_enter Tryd.func12, Tryd.ntmps12
  by_cases h1 : k = 2
  · subst h1; go_wp2; go_ret; exact ⟨rfl, rfl⟩
  · by_cases h2 : k = 4
    · subst h2; go_wp2; go_ret; exact ⟨rfl, rfl⟩
    · go_wp2; go_ret; exact ⟨rfl, rfl⟩
theorem c_rSigned (k : Int) (w : World) : Calls Tryd.prog 19 #[.int .i64 k] w fun e w' => e = .returned (.bool (sg k)) ∧ w = w' := by
  cases h : wh k with
  | false =>
    have h1 := wh_no h
    rw [sg_no h]
    clear h
    rcases h1 with h1 | h1
    · go_enter Tryd.func19, Tryd.ntmps19
      go_wp2; go_ret; exact ⟨rfl, rfl⟩
    · go_enter Tryd.func19, Tryd.ntmps19
      go_wp2; go_ret; exact ⟨rfl, rfl⟩
  | true =>
    rcases wh_iff h with rfl | rfl | rfl | rfl | rfl | rfl
    all_goals
      clear h
      go_enter Tryd.func19, Tryd.ntmps19
      go_wp2; go_ret; exact ⟨rfl, rfl⟩
theorem bt_no {k : Int} (h : wh k = false) : bt k = 0 := by simp [bt, h]
theorem c_rBits (k : Int) (w : World) : Calls Tryd.prog 29 #[.int .i64 k] w fun e w' => e = .returned (.int .i64 (bt k)) ∧ w = w' := by
  cases h : wh k with
  | false =>
    rw [bt_no h]
    go_enter Tryd.func29, Tryd.ntmps29
    go_wp2_with (go_at_call 15; refine (c_Whole _ _).mono ?_; rintro e w' ⟨rfl, rfl⟩)
    go_ret; exact ⟨rfl, rfl⟩
  | true =>
    rcases wh_iff h with rfl | rfl | rfl | rfl | rfl | rfl
    all_goals
      clear h
      go_enter Tryd.func29, Tryd.ntmps29
      go_wp2; go_ret; exact ⟨rfl, rfl⟩
theorem c_wrap (k n : Int) (w : World) (h : wh k = true) (hn : 0 ≤ n ∧ n < 18446744073709551616) :
    Calls Tryd.prog 21 #[.int .i64 k, .int .u64 n] w fun e w' => e = .returned (.int .u64 (wr k n)) ∧ w = w' := by
  have H := Lib.hid hn
  clear hn
  rcases wh_iff h with rfl | rfl | rfl | rfl | rfl | rfl
  all_goals
    clear h
    go_enter Tryd.func21, Tryd.ntmps21
    go_wp2; go_ret
  · exact ⟨ret_int (conv8 n), rfl⟩
  · exact ⟨ret_int ((wr3 n).symm), rfl⟩
  · exact ⟨ret_int (show IntKind.u64.wrap (wrap32 n) = wr 4 n from (IntWalk.i32_left n) ▸ conv32 n), rfl⟩
  · exact ⟨ret_int ((wr5 n).symm), rfl⟩
  · exact ⟨ret_int (conv64 H.out), rfl⟩
  · exact ⟨ret_int (convu64 H.out), rfl⟩
end Go.Proofs.YtlpcnkjnjkijbaaDoor
