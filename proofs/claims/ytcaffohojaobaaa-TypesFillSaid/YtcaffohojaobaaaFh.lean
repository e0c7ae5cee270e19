/- texts and owns of the law, Twice of the reference. Condition: the names and the types lie in memory. -/
import Derived.Test.YtcaffohojaobaaaFg3
import Derived.Test.YtcaffohojaobaaaW
import Derived.Laws.AppendOwnNone
import Derived.Outline
namespace Go.Proofs.Ytcaffohojaobaaa
open Go.RowKit
set_option linter.unusedVariables false
set_option linter.unusedSimpArgs false
set_option maxHeartbeats 1600000 in
theorem c_texts (L : List ByteArray) (ad : Option Addr) (c : Nat) (S : Sel) (w : World) (ht : tab w S 9 ad L.length c 1 (fun i => [.string (L.getD i ByteArray.empty)])) (hb : L.length * 16 ≤ 140737488351232) :
    Calls Try.prog 30 #[.slice ad L.length c] w fun e w' => ∃ ad' c', e = .returned (.slice ad' L.length c') ∧ tab w' (From w.heap.size) 9 ad' L.length c' 1 (fun i => [.string (L.getD i ByteArray.empty)]) ∧ Kp w w' := by
  obtain ⟨i2, hs, hx0, hx1, hx2⟩ := info_parts infoS
  have HT := Lib.hid ht
  clear ht
  go_enter Try.func30, Try.ntmps30
  have hown : (w.alloc (.cells #[] 9)).ownsRow w.heap.size 9 1 (.slice (some ⟨w.heap.size, 0, none⟩) 0 0) 0 [] := World.ownsRow_made w #[] 0 (Nat.le_refl _) (by unfold maxLen; omega) (by rfl)
  have HO := Lib.hid hown
  have KA := Lib.hid (show Kp w (w.alloc (.cells #[] 9)) from (Kp.refl w).alloc _)
  clear hown
  go_wp2_with ((with_reducible show wpList _ _ _ (⟨some 5, _, _, _, _, _⟩ :: _) _ _); refine wpList_append_tab (d := 5) _ _ 41 rfl w.heap.size 9 i2 _ 1 16 Try.underlying41 hs hx0 hx1 hx2 rfl (by decide) _ 0 _ (by rfl) HO.out w _ _ _ _ _ (by rfl) HT.out KA.out (fun _ => rfl) (fun _ u hu => by (rw [List.mem_singleton] at hu; subst hu; rfl)) (by unfold maxLen; omega) (by omega) (by simp) ?_; intro v1 w1 ho1 hg1)
  go_ret
  rw [Nat.zero_add, List.nil_append] at ho1
  obtain ⟨ad', c', rfl, _, h3, _⟩ := tab_of_owns ho1 (fun _ => rfl)
  exact ⟨ad', c', rfl, h3, KA.out.grown hg1 (fun k hk => by cases hk; exact Nat.le_refl _)⟩
set_option maxHeartbeats 1600000 in
theorem c_owns (r : Nat) (As : List Ty) (ad : Option Addr) (c : Nat) (K : Nat → Hd) (w : World) (hl : LiesAll w A0 r As ad c K) (hb : As.length * 104 ≤ 140737488351232) :
    Calls Try.prog 31 #[.slice ad As.length c] w (FillAllP r As w) := by
  have HL := Lib.hid hl
  clear hl
  go_enter Try.func31, Try.ntmps31
  go_wp2_with (first | (go_at_call 53; refine (c_FillAll0 r (fun T h w hl => c_Fill0 r T h w hl) As ad c K _ HL.out hb).mono ?_; rintro e w1 ⟨ad', c', K', rfl, h1, h2⟩))
  go_ret
  exact ⟨ad', c', K', rfl, h1, h2⟩
/-- Does a text come twice? -/
noncomputable def twiceB (L : List ByteArray) : Bool := @decide (¬ L.Nodup) (Classical.propDecidable _)
theorem twiceB_yes {L : List ByteArray} (h : ¬ L.Nodup) : twiceB L = true := by unfold twiceB; exact @decide_eq_true _ (Classical.propDecidable _) h
theorem twiceB_no {L : List ByteArray} (h : L.Nodup) : twiceB L = false := by unfold twiceB; exact @decide_eq_false _ (Classical.propDecidable _) (fun x => x h)
theorem nodup_drop : ∀ {L : List ByteArray}, (∀ i, i < L.length → L.getD i ByteArray.empty ∉ L.drop (i + 1)) → L.Nodup
  | [], _ => List.nodup_nil
  | n :: L, h => by
    rw [List.nodup_cons]
    refine ⟨by simpa using h 0 (by simp), nodup_drop (fun i hi => ?_)⟩
    have := h (i + 1) (by simp; omega)
    simpa using this
theorem drop_nodup : ∀ {L : List ByteArray}, L.Nodup → ∀ i, i < L.length → L.getD i ByteArray.empty ∉ L.drop (i + 1)
  | [], _, i, hi => by simp at hi
  | n :: L, h, 0, _ => by
    rw [List.nodup_cons] at h
    simpa using h.1
  | n :: L, h, i + 1, hi => by
    rw [List.nodup_cons] at h
    have := drop_nodup h.2 i (by simp at hi; omega)
    simpa using this
end Go.Proofs.Ytcaffohojaobaaa
