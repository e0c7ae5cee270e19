/- The types in a type, in a new slice: parts of package types, Inner of the reference. Condition: not more than a thousand million of them. -/
import Derived.Test.YtfjflfokmihcpaaChecked
import Derived.Test.YtfjflfokmihcpaaT0
import Derived.Handy
import Derived.Lib.Hide
import Derived.WalkLawsBesides
import Derived.Outline
namespace Go.Proofs.Ytfjflfokmihcpaa
open Go.RowKit
set_option linter.unusedVariables false
set_option linter.unusedSimpArgs false

theorem infoT : (Try.prog.info? 42).map (fun i => (i.zero, i.size, i.bytes)) = some (some (.agg #[.int .i64 0, .string ⟨#[]⟩, .int .i64 0, .slice none 0 0, .slice none 0 0, .slice none 0 0]), 6, 104) := by kernel_rfl
theorem infoF : (Try.prog.info? 52).map (fun i => (i.zero, i.size, i.bytes)) = some (some (.agg #[.string ⟨#[]⟩, .int .i64 0, .string ⟨#[]⟩, .int .i64 0, .slice none 0 0, .slice none 0 0, .slice none 0 0]), 7, 120) := by kernel_rfl

/-- A slice that holds the types in T, in their order. -/
def Kids (T : Ty) (K : Nat → Hd) (w : World) (e : Ending) (w' : World) : Prop :=
  ∃ ad c, e = .returned (.slice ad T.kids.length c) ∧ tab w' (From (w.heap.size + 1)) 42 ad T.kids.length c 6 (fun i => (K i).cells) ∧ Kp w w'
theorem kids_of {T : Ty} {h : Hd} {K : Nat → Hd} {w w2 : World} {o : Obj} {v : Value} (hs : Top w A0 T h K) (hk2 : Kp (w.alloc o) w2)
    (ho2 : w2.ownsRow (w.heap.size + 1) 42 6 v (h.fl + h.ll + h.rl) (flat (fun i => (K i).cells) h.fl ++ flat (fun i => (K (h.fl + i)).cells) h.ll ++ flat (fun i => (K (h.fl + h.ll + i)).cells) h.rl)) : Kids T K w (.returned v) w2 := by
  rw [← flat_add (C := fun i => (K i).cells), flat_congr (C := fun i => (K (h.fl + h.ll + i)).cells) (C' := fun i => (fun j => (K j).cells) (h.fl + h.ll + i)) (fun i _ => rfl), ← flat_add, hs.es] at ho2
  obtain ⟨ad, c, rfl, hle, ht, _⟩ := tab_of_owns ho2 (fun _ => rfl)
  exact ⟨ad, c, rfl, ht, ((Kp.refl w).alloc _).trans hk2⟩
theorem c_parts (T : Ty) (h : Hd) (K : Nat → Hd) (w : World) (t : Top w A0 T h K) (hb : T.kids.length ≤ 1000000000) :
    Calls Try.prog 45 #[h.val] w (Kids T K w) := by
  obtain ⟨i0, hi, hz0, hz1, hz2⟩ := info_parts infoT
  have hb' : h.fl + h.ll + h.rl ≤ 1000000000 := by rw [t.es]; exact hb
  have hs := Lib.hid t
  clear t hb
  go_enter Try.func45, Try.ntmps45
  go_wp2_with (at_make; refine wpList_make_own _ rfl _ _ 23 rfl (w.heap.size + 1) 42 i0 _ 6 Try.underlying23 hi hz0 hz1 _ _ _ (h.fl + h.ll + h.rl) rfl rfl (by omega) (by rw [hz2]; omega) (by unfold maxLen; omega) (by simp) ?_; intro w1 hown hgrow; have hk1 := (Kp.refl _).grown hgrow (fun _ h => by cases h); obtain ⟨_, _, _, q3, q4, q5, qs⟩ := boxed hk1)
  go_loopw [3, 21] (fun v i wr => ∃ k : Nat, k ≤ h.fl ∧ i = .int .i64 k ∧ wr.ownsRow (w.heap.size + 1) 42 6 v k (flat (fun i => (K i).cells) k) ∧ Kp (w.alloc (.cells #[.int .i64 h.k, .string h.nm, .int .i64 h.con, .slice h.fa h.fl h.fc, .slice h.la h.ll h.lc, .slice h.ra h.rl h.rc] 42)) wr) (fun _ i _ => h.fl - (intOf i).toNat)
  case atStart => exact ⟨0, Nat.zero_le _, rfl, by simpa [flat] using hown, hk1⟩
  case round =>
    obtain ⟨k, hk, rfl, ho, hkr⟩ := hrel
    obtain ⟨_, _, _, p3, p4, p5, ps⟩ := boxed hkr
    clear hown hgrow hk1 q3 q4 q5 qs
    by_cases hlt : k < h.fl
    · obtain ⟨b, o, ha, hr⟩ := hs.out.tf.at (by omega)
      have HA := Lib.hid ha
      have HR := Lib.hid (hr k hlt)
      clear ha hr
      go_wp2_with (first | ((with_reducible show wpList _ _ _ (⟨some 23, _, _, _, _, _⟩ :: _) _ _); refine wpList_index_tab (d := 23) _ _ _ rfl 52 Try.underlying40 7 rfl _ _ _ _ o (by rfl) HA.out k (by rfl) hlt ?_) | ((with_reducible show wpList _ _ _ (⟨some 24, _, _, _, _, _⟩ :: _) _ _); refine wpList_load_fd (d := 24) _ _ rfl _ Try.underlying52 w _ _ b (o + k * 7) (by rfl) rfl (by first | rfl | omega) _ (K k) HR.out (((Kp.refl w).alloc _).trans hkr) rfl ?_) | ((with_reducible show wpList _ _ _ (⟨some 29, _, _, _, _, _⟩ :: _) _ _); refine wpList_append_one (d := 29) _ _ 23 rfl (w.heap.size + 1) 42 i0 _ 6 104 Try.underlying23 hi hz0 hz1 hz2 rfl (by decide) _ k _ (by rfl) _ (ho.alloc _) (K k).cells _ _ _ (by rfl) (by first | rfl | simp) (by rfl) (by rfl) (by intro u hu; simp at hu; rcases hu with rfl | rfl | rfl | rfl | rfl | rfl | rfl <;> rfl) (by unfold maxLen; omega) (by omega) (by first | omega | (simp; omega)) ?_; intro v1 w1 ho1 hg1))
      go_roundw
      case rel => exact ⟨k + 1, by omega, by go_num, ho1, ((hkr.alloc _).alloc _).own ho hg1⟩
      case measure => simp [intOf]; omega
    · obtain rfl : k = h.fl := by omega
      have hT := hs.out
      have hk0 := ((Kp.refl w).alloc _).trans hkr
      go_wp2_with (first | ((with_reducible show wpList _ _ _ (⟨some 34, _, _, _, _, _⟩ :: _) _ _); refine wpList_append_tab (d := 34) _ _ 23 rfl (w.heap.size + 1) 42 i0 _ 6 104 Try.underlying23 hi hz0 hz1 hz2 rfl (by decide) _ h.fl _ (by rfl) ho w _ _ _ _ _ (by rfl) hT.tl hk0 (fun _ => rfl) (fun _ => Hd.one _) (by unfold maxLen; omega) (by omega) (by omega) ?_; intro v1 w1 ho1 hg1; have hk1 := hkr.own ho hg1; obtain ⟨_, _, _, _, _, r5, rs⟩ := boxed hk1) | ((with_reducible show wpList _ _ _ (⟨some 38, _, _, _, _, _⟩ :: _) _ _); refine wpList_append_tab (d := 38) _ _ 23 rfl (w.heap.size + 1) 42 i0 _ 6 104 Try.underlying23 hi hz0 hz1 hz2 rfl (by decide) _ (h.fl + h.ll) _ (by rfl) ho1 w _ _ _ _ _ (by rfl) hT.tr (((Kp.refl w).alloc _).trans hk1) (fun _ => rfl) (fun _ => Hd.one _) (by unfold maxLen; omega) (by omega) (by omega) ?_; intro v2 w2 ho2 hg2; have hk2 := hk1.own ho1 hg2))
      go_ret
      exact kids_of hT hk2 ho2
theorem c_Inner (T : Ty) (h : Hd) (K : Nat → Hd) (w : World) (t : Top w A0 T h K) (hb : T.kids.length ≤ 1000000000) :
    Calls Try.prog 34 #[h.val] w (Kids T K w) := by
  obtain ⟨i0, hi, hz0, hz1, hz2⟩ := info_parts infoT
  have hb' : h.fl + h.ll + h.rl ≤ 1000000000 := by rw [t.es]; exact hb
  have hs := Lib.hid t
  clear t hb
  go_enter Try.func34, Try.ntmps34
  go_wp2_with fail
  go_loopw [3, 4] (fun v i wr => ∃ k : Nat, k ≤ h.fl ∧ i = .int .i64 k ∧ wr.ownsRow (w.heap.size + 1) 42 6 v k (flat (fun i => (K i).cells) k) ∧ Kp (w.alloc (.cells #[.int .i64 h.k, .string h.nm, .int .i64 h.con, .slice h.fa h.fl h.fc, .slice h.la h.ll h.lc, .slice h.ra h.rl h.rc] 42)) wr) (fun _ i _ => h.fl - (intOf i).toNat)
  case atStart => exact ⟨0, Nat.zero_le _, rfl, by simpa [flat] using World.ownsRow_nil _ _ _ _, Kp.refl _⟩
  case round =>
    obtain ⟨k, hk, rfl, ho, hkr⟩ := hrel
    obtain ⟨_, _, _, p3, p4, p5, ps⟩ := boxed hkr
    by_cases hlt : k < h.fl
    · obtain ⟨b, o, ha, hr⟩ := hs.out.tf.at (by omega)
      have HA := Lib.hid ha
      have HR := Lib.hid (hr k hlt)
      clear ha hr
      go_wp2_with (first | ((with_reducible show wpList _ _ _ (⟨some 16, _, _, _, _, _⟩ :: _) _ _); refine wpList_index_tab (d := 16) _ _ _ rfl 52 Try.underlying40 7 rfl _ _ _ _ o (by rfl) HA.out k (by rfl) hlt ?_) | ((with_reducible show wpList _ _ _ (⟨some 18, _, _, _, _, _⟩ :: _) _ _); refine wpList_load_ty (d := 18) _ _ rfl _ Try.underlying42 w _ _ b (o + k * 7 + 1) (by rfl) rfl (by first | rfl | omega) (K k) (rangeAt_tail HR.out) (((Kp.refl w).alloc _).trans hkr) rfl ?_) | ((with_reducible show wpList _ _ _ (⟨some 20, _, _, _, _, _⟩ :: _) _ _); refine wpList_append_one (d := 20) _ _ 23 rfl (w.heap.size + 1) 42 i0 _ 6 104 Try.underlying23 hi hz0 hz1 hz2 rfl (by decide) _ k _ (by rfl) _ ho (K k).cells _ _ _ (by rfl) (by first | rfl | simp) (by rfl) (by rfl) (by intro u hu; simp at hu; rcases hu with rfl | rfl | rfl | rfl | rfl | rfl | rfl <;> rfl) (by unfold maxLen; omega) (by omega) (by first | omega | (simp; omega)) ?_; intro v1 w1 ho1 hg1))
      go_roundw
      case rel => exact ⟨k + 1, by omega, by go_num, ho1, (hkr.alloc _).own ho hg1⟩
      case measure => simp [intOf]; omega
    · obtain rfl : k = h.fl := by omega
      have hT := hs.out
      have hk0 := ((Kp.refl w).alloc _).trans hkr
      go_wp2_with (first | ((with_reducible show wpList _ _ _ (⟨some 24, _, _, _, _, _⟩ :: _) _ _); refine wpList_append_tab (d := 24) _ _ 23 rfl (w.heap.size + 1) 42 i0 _ 6 104 Try.underlying23 hi hz0 hz1 hz2 rfl (by decide) _ h.fl _ (by rfl) ho w _ _ _ _ _ (by rfl) hT.tl hk0 (fun _ => rfl) (fun _ => Hd.one _) (by unfold maxLen; omega) (by omega) (by omega) ?_; intro v1 w1 ho1 hg1; have hk1 := hkr.own ho hg1; obtain ⟨_, _, _, _, _, r5, rs⟩ := boxed hk1) | ((with_reducible show wpList _ _ _ (⟨some 28, _, _, _, _, _⟩ :: _) _ _); refine wpList_append_tab (d := 28) _ _ 23 rfl (w.heap.size + 1) 42 i0 _ 6 104 Try.underlying23 hi hz0 hz1 hz2 rfl (by decide) _ (h.fl + h.ll) _ (by rfl) ho1 w _ _ _ _ _ (by rfl) hT.tr (((Kp.refl w).alloc _).trans hk1) (fun _ => rfl) (fun _ => Hd.one _) (by unfold maxLen; omega) (by omega) (by omega) ?_; intro v2 w2 ho2 hg2; have hk2 := hk1.own ho1 hg2))
      go_ret
      exact kids_of hT hk2 ho2
end Go.Proofs.Ytfjflfokmihcpaa
