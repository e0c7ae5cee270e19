/- What the small functions of package word and of the reference answer, at every kind and word, in the translation of stage 7. Condition: a word is between 0 and 2 to the 64. -/
import Derived.Test.YtihchlkoohficaaChecked
import Derived.Test.YtihchlkoohficaaPlain
import Derived.Handy
import Derived.Lib.Hide
import Derived.WalkLawsBesides
import Derived.Outline
namespace Go.Proofs.Ytihchlkoohficaa
open Go.RowKit Plain
set_option linter.unusedVariables false


/-- Of what was there nothing has turned; new blocks may lie behind it. -/
structure Kp (w w' : World) : Prop where
  below : Below w.heap.size w w'
  frozen : ∀ a, w'.frozen? a = w.frozen? a
theorem Kp.refl (w : World) : Kp w w := ⟨Below.refl _ _, fun _ => rfl⟩
theorem Kp.trans {a b c : World} (h : Kp a b) (k : Kp b c) : Kp a c := ⟨h.below.trans (k.below.mono h.below.size), fun x => (k.frozen x).trans (h.frozen x)⟩
theorem Kp.alloc {a w : World} (h : Kp a w) (c : Array Value) (t : TypeId) : Kp a (w.alloc (.cells c t)) := ⟨h.below.alloc h.below.size _, fun x => (frozen?_alloc_cells w c t x).trans (h.frozen x)⟩
theorem Kp.setCell {a w : World} (h : Kp a w) {p : Addr} (hp : a.heap.size ≤ p.block) (v : Value) : Kp a (w.setCell p v) := ⟨h.below.setCell hp v, fun x => (World.frozen?_setCell _ _ _ _).trans (h.frozen x)⟩
theorem Kp.drew {a w : World} (h : Kp a w) : Kp a w.drew := ⟨h.below.drew, h.frozen⟩
theorem Kp.drewN {a w : World} (h : Kp a w) (n : Nat) : Kp a (w.drewN n) := ⟨⟨h.below.os, h.below.tape, h.below.output, h.below.size, h.below.block⟩, h.frozen⟩
theorem Kp.grown {a w : World} (h : Kp a w) : Grown a w := ⟨h.below.frame _, h.frozen, h.below.size⟩
theorem Kp.cell {a w : World} (h : Kp a w) {b o : Nat} (hb : b < a.heap.size) : w.cell? ⟨b, o, none⟩ = a.cell? ⟨b, o, none⟩ := h.below.cell (p := ⟨b, o, none⟩) hb
theorem ret_int {k : IntKind} {a b : Int} (h : a = b) : Ending.returned (.int k a) = .returned (.int k b) := by rw [h]

theorem kback {a b c : World} (k : Kp b c) (h : Kp a b) : Kp a c := h.trans k
theorem keepc {w w' : World} (hk : Kp w w') {b o : Nat} {v : Value} (hc : w.cell? ⟨b, o, none⟩ = some v) : w'.cell? ⟨b, o, none⟩ = some v := by
  have hb : b < w.heap.size := by
    apply Classical.byContradiction
    intro hn
    have : w.heap[b]? = none := by simp; omega
    simp [World.cell?, this] at hc
  rw [hk.cell hb, hc]
theorem keeps {w w' : World} {o : Obj} (hk : Kp (w.alloc o) w') : w.heap.size < w'.heap.size := by
  have := hk.below.size
  simp at this; omega
theorem lit_of {op : ByteArray} {l : List UInt8} (h : (op.toList == l) = true) : op = ⟨l.toArray⟩ := by
  have h1 : op.toList = l := by simpa using h
  rw [ByteArray.toList_eq] at h1
  cases op with
  | mk d => simp at h1; rw [← h1]
theorem c_isKind (k : Int) (w : World) : Calls Try.prog 47 #[.int .i64 k] w fun e w' => e = .returned (.bool (wh k)) ∧ w = w' := by
  go_enter Try.func47, Try.ntmps47
  by_cases h1 : 2 ≤ k
  · have e : wh k = decide (k ≤ 7) := by simp [wh, h1]
    rw [e]; clear e
    go_wp2
    go_ret
    exact ⟨rfl, rfl⟩
  · have e : wh k = false := by simp [wh, h1]
    rw [e]; clear e
    go_wp2
    go_ret
    exact ⟨rfl, rfl⟩
theorem c_Whole (k : Int) (w : World) : Calls Try.prog 38 #[.int .i64 k] w fun e w' => e = .returned (.bool (wh k)) ∧ w = w' := by
  go_enter Try.func38, Try.ntmps38
  by_cases h1 : 2 ≤ k
  · have e : wh k = decide (k ≤ 7) := by simp [wh, h1]
    rw [e]; clear e
    go_wp2
    go_ret
    exact ⟨rfl, rfl⟩
  · have e : wh k = false := by simp [wh, h1]
    rw [e]; clear e
    go_wp2
    go_ret
    exact ⟨rfl, rfl⟩
theorem c_hasSign (k : Int) (w : World) : Calls Try.prog 48 #[.int .i64 k] w fun e w' => e = .returned (.bool (sg k)) ∧ w = w' := by
  go_enter Try.func48, Try.ntmps48
  by_cases h1 : k = 2
  · subst h1; go_wp2; go_ret; exact ⟨rfl, rfl⟩
  · by_cases h2 : k = 4
    · subst h2; go_wp2; go_ret; exact ⟨rfl, rfl⟩
    · go_wp2; go_ret; exact ⟨rfl, rfl⟩
theorem c_rSigned (k : Int) (w : World) : Calls Try.prog 51 #[.int .i64 k] w fun e w' => e = .returned (.bool (sg k)) ∧ w = w' := by
  cases h : wh k with
  | false =>
    have h1 := wh_no h
    rw [sg_no h]
    clear h
    rcases h1 with h1 | h1
    · go_enter Try.func51, Try.ntmps51
      go_wp2; go_ret; exact ⟨rfl, rfl⟩
    · go_enter Try.func51, Try.ntmps51
      go_wp2; go_ret; exact ⟨rfl, rfl⟩
  | true =>
    rcases wh_iff h with rfl | rfl | rfl | rfl | rfl | rfl
    all_goals
      clear h
      go_enter Try.func51, Try.ntmps51
      go_wp2; go_ret; exact ⟨rfl, rfl⟩
theorem bt_no {k : Int} (h : wh k = false) : bt k = 0 := by simp [bt, h]
theorem c_rBits (k : Int) (w : World) : Calls Try.prog 50 #[.int .i64 k] w fun e w' => e = .returned (.int .i64 (bt k)) ∧ w = w' := by
  cases h : wh k with
  | false =>
    rw [bt_no h]
    go_enter Try.func50, Try.ntmps50
    go_wp2_with (go_at_call 38; refine (c_Whole _ _).mono ?_; rintro e w' ⟨rfl, rfl⟩)
    go_ret; exact ⟨rfl, rfl⟩
  | true =>
    rcases wh_iff h with rfl | rfl | rfl | rfl | rfl | rfl
    all_goals
      clear h
      go_enter Try.func50, Try.ntmps50
      go_wp2; go_ret; exact ⟨rfl, rfl⟩
theorem c_wrap (k n : Int) (w : World) (h : wh k = true) (hn : 0 ≤ n ∧ n < 18446744073709551616) :
    Calls Try.prog 52 #[.int .i64 k, .int .u64 n] w fun e w' => e = .returned (.int .u64 (wr k n)) ∧ w = w' := by
  have H := Lib.hid hn
  clear hn
  rcases wh_iff h with rfl | rfl | rfl | rfl | rfl | rfl
  all_goals
    clear h
    go_enter Try.func52, Try.ntmps52
    go_wp2; go_ret
  · exact ⟨ret_int (conv8 n), rfl⟩
  · exact ⟨ret_int ((wr3 n).symm), rfl⟩
  · exact ⟨ret_int (show IntKind.u64.wrap (wrap32 n) = wr 4 n from (IntWalk.i32_left n) ▸ conv32 n), rfl⟩
  · exact ⟨ret_int ((wr5 n).symm), rfl⟩
  · exact ⟨ret_int (conv64 H.out), rfl⟩
  · exact ⟨ret_int (convu64 H.out), rfl⟩
theorem c_Signed (k : Int) (w : World) : Calls Try.prog 35 #[.int .i64 k] w fun e w' => e = .returned (.tuple #[.bool (sg k), .int .i64 (e0 k)]) ∧ w = w' := by
  cases h : wh k with
  | false =>
    have e : e0 k = 2 := by simp [e0, h]
    rw [sg_no h, e]
    clear e
    go_enter Try.func35, Try.ntmps35
    go_wp2_with (go_at_call 47; refine (c_isKind _ _).mono ?_; rintro e w' ⟨rfl, rfl⟩)
    go_ret2; exact ⟨rfl, rfl⟩
  | true =>
    have e : e0 k = 0 := by simp [e0, h]
    rw [e]
    clear e
    go_enter Try.func35, Try.ntmps35
    go_wp2_with (first | (go_at_call 47; refine (c_isKind _ _).mono ?_; rintro e w' ⟨rfl, rfl⟩) | (go_at_call 48; refine (c_hasSign _ _).mono ?_; rintro e w' ⟨rfl, rfl⟩))
    go_ret2; exact ⟨rfl, rfl⟩
end Go.Proofs.Ytihchlkoohficaa
