/- Any node: what isFormed of package tree answers. Condition: the node lies in memory. -/
import Derived.Test.YtgamenimbkafjaaF6a
import Derived.Test.YtgamenimbkafjaaC2
namespace Go.Proofs.Ytgamenimbkafjaa
open Go.RowKit
set_option linter.unusedVariables false
set_option linter.unusedSimpArgs false
set_option maxHeartbeats 3200000 in
set_option maxRecDepth 100000 in
theorem iF_3 (ks : List Int) (tx : ByteArray) (n at_ : Int) (la : Option Addr) (ll lc : Nat) (K : Nat → Hn) (w : World) (hL : ListAt w ks la ll lc K) (hcap : ll ≤ lc) (hs : tx.size ≤ 140737488351232) (hn : 0 ≤ n ∧ n ≤ 18446744073709551615) :
    Calls Try.prog 40 #[.agg #[.int .i64 3, .string tx, .int .u64 n, .int .i64 at_, .slice la ll lc]] w fun e w' => e = .returned (.bool (formB 3 tx n ks)) ∧ Kp w w' := by
  have hlen := hL.len
  rw [show formB 3 tx n ks = (namedB tx n && areB ks [(inK [4]), (inK [6]), (inK [7]), (inK [20])]) from by rfl]
  have HL := Lib.hid hL
  clear hL hlen
  go_enter Try.func40, Try.ntmps40
  go_wp2_with (first | (go_at_call 34; (with_reducible refine (c_isType ⟨3, tx, n, at_, la, ll, lc⟩ _).mono ?_); rintro e w' ⟨rfl, hk1⟩; rw [show tyK (3 : Int) = false from rfl]; have b := boxed (w := w) (h := ⟨3, tx, n, at_, la, ll, lc⟩) (show Kp _ w' by (repeat (first | with_reducible exact Kp.refl _ | with_reducible refine Kp.alloc ?_ _ | with_reducible refine Kp.drew ?_ | with_reducible refine Kp.back hk4 ?_ | with_reducible refine Kp.back hk3 ?_ | with_reducible refine Kp.back hk2 ?_ | with_reducible refine Kp.back hk1 ?_))); simp only at b; obtain ⟨b0, b1, b2, b3, b4, bs⟩ := b) | (go_at_call 32; (with_reducible refine (c_isStatement ⟨3, tx, n, at_, la, ll, lc⟩ _).mono ?_); rintro e w' ⟨rfl, hk2⟩; rw [show stK (3 : Int) = false from rfl]; have b := boxed (w := w) (h := ⟨3, tx, n, at_, la, ll, lc⟩) (show Kp _ w' by (repeat (first | with_reducible exact Kp.refl _ | with_reducible refine Kp.alloc ?_ _ | with_reducible refine Kp.drew ?_ | with_reducible refine Kp.back hk4 ?_ | with_reducible refine Kp.back hk3 ?_ | with_reducible refine Kp.back hk2 ?_ | with_reducible refine Kp.back hk1 ?_))); simp only at b; obtain ⟨b0, b1, b2, b3, b4, bs⟩ := b) | (go_at_call 33; (with_reducible refine (c_isExpression ⟨3, tx, n, at_, la, ll, lc⟩ _).mono ?_); rintro e w' ⟨rfl, hk3⟩; rw [show exK (3 : Int) = false from rfl]; have b := boxed (w := w) (h := ⟨3, tx, n, at_, la, ll, lc⟩) (show Kp _ w' by (repeat (first | with_reducible exact Kp.refl _ | with_reducible refine Kp.alloc ?_ _ | with_reducible refine Kp.drew ?_ | with_reducible refine Kp.back hk4 ?_ | with_reducible refine Kp.back hk3 ?_ | with_reducible refine Kp.back hk2 ?_ | with_reducible refine Kp.back hk1 ?_))); simp only at b; obtain ⟨b0, b1, b2, b3, b4, bs⟩ := b) | (go_at_call 53; (with_reducible refine (form_3 ks tx n at_ la ll lc K _ (HL.out.keep (by (repeat (first | with_reducible exact Kp.refl _ | with_reducible refine Kp.alloc ?_ _ | with_reducible refine Kp.drew ?_ | with_reducible refine Kp.back hk4 ?_ | with_reducible refine Kp.back hk3 ?_ | with_reducible refine Kp.back hk2 ?_ | with_reducible refine Kp.back hk1 ?_)))) hcap hs).mono ?_); rintro e w' ⟨rfl, hk4⟩))
  go_ret
  refine ⟨rfl, ?_⟩
  (repeat (first | with_reducible exact Kp.refl _ | with_reducible refine Kp.alloc ?_ _ | with_reducible refine Kp.drew ?_ | with_reducible refine Kp.back hk4 ?_ | with_reducible refine Kp.back hk3 ?_ | with_reducible refine Kp.back hk2 ?_ | with_reducible refine Kp.back hk1 ?_))
theorem c_isFormed (r : Nat) (X : Nd) (h : Hn) (w : World) (hl : Lies w A0 r X h) : Calls Try.prog 40 #[h.val] w fun e w' => e = .returned (.bool (formN X)) ∧ Kp w w' := by
  by_cases h3 : h.k = 3
  · cases r with
    | zero => exact hl.elim
    | succ r =>
      obtain ⟨K, t, hh⟩ := hl
      have hL := list_of t hh
      have hcap := t.cp
      have hs := t.rt
      have hn := t.rn
      unfold formN
      rw [t.ek, t.et, t.en]
      clear t hh
      generalize ksN X = ks at hL
      obtain ⟨k, tx, n, at_, la, ll, lc⟩ := h
      simp only at h3 hL hcap hs hn ⊢
      subst h3
      exact iF_3 ks tx n at_ la ll lc K w hL hcap hs hn
  · exact c_isFormed_but r X h w hl h3
theorem forms_all (X : Nd) : FormsOK X := fun r h w hl => c_isFormed r X h w hl
/-- The nodes with their depths, one level up. -/
theorem flat_shift : ∀ (r : Nat) (T : Nd) (d : Int), 0 ≤ d → (∀ y ∈ flatN r (d + 1) T, y.1 ≤ 64) → flatN r d T = (flatN r (d + 1) T).map (fun y => (y.1 - 1, y.2))
  | 0, _, _, _, _ => rfl
  | r + 1, T, d, hd, h => by
    have h0 : d + 1 ≤ 64 := h (d + 1, T) (by simp [flatN])
    have e1 : wrap64 (d + 1) = d + 1 := by unfold wrap64; omega
    have e2 : wrap64 (d + 1 + 1) = d + 1 + 1 := by unfold wrap64; omega
    have hk : ∀ X ∈ T.kids, flatN r (d + 1) X = (flatN r (d + 1 + 1) X).map (fun y => (y.1 - 1, y.2)) := fun X hX =>
      flat_shift r X (d + 1) (by omega) (fun y hy => h y (by rw [flatN, e2]; exact List.mem_cons_of_mem _ (List.mem_flatMap.2 ⟨X, hX, hy⟩)))
    rw [flatN, flatN, e1, e2, List.map_cons, List.map_flatMap]
    congr 1
    · simp
    · have : ∀ l : List Nd, (∀ X ∈ l, X ∈ T.kids) → l.flatMap (flatN r (d + 1)) = l.flatMap (fun X => (flatN r (d + 1 + 1) X).map (fun y => (y.1 - 1, y.2))) := by
        intro l
        induction l with
        | nil => intro _; rfl
        | cons X l ih =>
          intro hl
          rw [List.flatMap_cons, List.flatMap_cons, hk X (hl X (by simp)), ih (fun Y hY => hl Y (by simp [hY]))]
      exact this T.kids (fun X hX => hX)
theorem okL_of {l : List (Int × Nd)} (h : okL l = true) : l.length ≤ 16384 ∧ ∀ y ∈ l, y.1 ≤ 64 ∧ formN y.2 = true := by
  unfold okL at h
  exact @of_decide_eq_true _ (Classical.propDecidable _) h
theorem flat_kid {r : Nat} {T X : Nd} {d : Int} (hX : X ∈ T.kids) {y : Int × Nd} (hy : y ∈ flatN r (wrap64 (d + 1)) X) : y ∈ flatN (r + 1) d T := by
  rw [flatN]
  exact List.mem_cons_of_mem _ (List.mem_flatMap.2 ⟨X, hX, hy⟩)
/-- What stands in a node that is as it should be is so too; and how many nodes there are. -/
theorem ok_kid {r : Nat} {T X : Nd} (h : okL (flatN (r + 1) 0 T) = true) (hX : X ∈ T.kids) : okL (flatN r 0 X) = true ∧ (flatN r 0 X).length = (flatN r 1 X).length := by
  obtain ⟨h1, h2⟩ := okL_of h
  have e : wrap64 ((0 : Int) + 1) = 1 := by unfold wrap64; omega
  have hin : ∀ y ∈ flatN r 1 X, y ∈ flatN (r + 1) 0 T := fun y hy => flat_kid hX (by rw [e]; exact hy)
  have hs := flat_shift r X 0 (by omega) (fun y hy => (h2 y (hin y hy)).1)
  have hlen : (flatN r 0 X).length = (flatN r 1 X).length := by rw [hs, List.length_map]; rfl
  refine ⟨okL_yes ?_ (fun y hy => ?_), hlen⟩
  · have hle : (flatN r 1 X).length ≤ (flatN (r + 1) 0 T).length := by
      obtain ⟨i, hi⟩ := List.mem_iff_getElem?.1 hX
      have := flat_len_le (f := flatN r (wrap64 ((0 : Int) + 1))) hi
      rw [flatN, List.length_cons]
      rw [e] at this ⊢
      omega
    omega
  · rw [hs] at hy
    obtain ⟨z, hz, rfl⟩ := List.mem_map.1 hy
    have := h2 z (hin z hz)
    exact ⟨by have := this.1; show z.1 - 1 ≤ 64; omega, this.2⟩
/-- How many nodes the first m kids have. -/
def lenN (r : Nat) (l : List Nd) (m : Nat) : Nat := ((l.take m).map (fun X => (flatN r 0 X).length)).sum
theorem lenN_next {r : Nat} {l : List Nd} {m : Nat} {X : Nd} (h : l[m]? = some X) : lenN r l (m + 1) = lenN r l m + (flatN r 0 X).length := by
  unfold lenN
  rw [List.take_add_one, h]
  simp
theorem lenN_flat {r : Nat} {T : Nd} (h : okL (flatN (r + 1) 0 T) = true) : ∀ m, m ≤ T.kids.length → 1 + lenN r T.kids m ≤ (flatN (r + 1) 0 T).length ∧ ((T.kids.take m).flatMap (flatN r 1)).length = lenN r T.kids m
  | 0, _ => ⟨by rw [flatN]; simp [lenN], by simp [lenN]⟩
  | m + 1, hm => by
    obtain ⟨X, hX⟩ : ∃ X, T.kids[m]? = some X := ⟨_, List.getElem?_eq_getElem (by omega)⟩
    obtain ⟨_, h2⟩ := lenN_flat h m (by omega)
    have hl := (ok_kid h (List.mem_of_getElem? hX)).2
    have e : wrap64 ((0 : Int) + 1) = 1 := by unfold wrap64; omega
    have h3 : ((T.kids.take (m + 1)).flatMap (flatN r 1)).length = lenN r T.kids (m + 1) := by
      rw [flat_next hX, List.length_append, h2, lenN_next hX, hl]
    refine ⟨?_, h3⟩
    have hle := flat_len_le (f := flatN r 1) hX
    rw [flatN, List.length_cons, e]
    rw [flat_next hX, List.length_append] at h3
    omega
theorem lenN_all {r : Nat} {T : Nd} (h : okL (flatN (r + 1) 0 T) = true) : (flatN (r + 1) 0 T).length = 1 + lenN r T.kids T.kids.length := by
  have h1 := (lenN_flat h T.kids.length (Nat.le_refl _)).2
  have e : wrap64 ((0 : Int) + 1) = 1 := by unfold wrap64; omega
  rw [List.take_length] at h1
  rw [flatN, List.length_cons, e, h1]
  omega
end Go.Proofs.Ytgamenimbkafjaa
