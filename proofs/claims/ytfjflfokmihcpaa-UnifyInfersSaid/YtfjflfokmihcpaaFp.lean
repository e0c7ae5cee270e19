/- What a type is with other types put in, and how deep and large it is then, reckoned ahead by their sizes; one put in behind another. No condition; no program is walked here. -/
import Derived.Test.YtfjflfokmihcpaaH
import Derived.Test.YtfjflfokmihcpaaF
namespace Go.Proofs.Ytfjflfokmihcpaa
open Go.RowKit
set_option linter.unusedVariables false
set_option linter.unusedSimpArgs false

theorem lp_cong {f g : Ty → Nat × Nat × Bool} : ∀ {l : List Ty} {d c : Nat} {x : Nat × Nat}, (∀ X ∈ l, (f X).2.2 = true → g X = f X) → lookAll f l d c = some x → lookAll g l d c = some x
  | [], _, _, _, _, h => h
  | T :: l, d, c, x, hg, h => by
    rw [lookAll] at h ⊢
    split at h
    · rename_i ho
      rw [hg T (List.mem_cons_self ..) ho, if_pos ho]
      exact lp_cong (fun X hX => hg X (List.mem_cons_of_mem _ hX)) h
    · cases h
theorem lp_le {f : Ty → Nat × Nat × Bool} : ∀ {l : List Ty} {d c d' c' : Nat}, lookAll f l d c = some (d', c') → d ≤ d' ∧ ∀ X ∈ l, (f X).1 + 1 ≤ d'
  | [], d, c, d', c', h => by simp [lookAll] at h; exact ⟨by omega, fun X hX => by cases hX⟩
  | T :: l, d, c, d', c', h => by
    rw [lookAll] at h
    split at h
    · obtain ⟨h1, h2⟩ := lp_le h
      refine ⟨by omega, fun X hX => ?_⟩
      rcases List.mem_cons.1 hX with rfl | hX
      · omega
      · exact h2 X hX
    · cases h
/-- More room changes nothing of what is sound. -/
theorem lp_mono : ∀ {r : Nat} {T : Ty}, (look r T).2.2 = true → look (r + 1) T = look r T
  | 0, T, h => by rw [look_zero] at h; cases h
  | r + 1, T, h => by
    have hp := look_parts h
    rw [look_succ, if_pos hp.1] at h
    rw [look_succ (r := r + 1), look_succ (r := r), if_pos hp.1, if_pos hp.1]
    cases hl : lookAll (look r) T.kids 0 0 with
    | none => rw [hl] at h; cases h
    | some x => rw [lp_cong (fun X _ hX => lp_mono hX) hl]
/-- What is less deep than there is room needs less room. -/
theorem lp_down : ∀ {r : Nat} {T : Ty}, (look (r + 1) T).2.2 = true → (look (r + 1) T).1 < r → look r T = look (r + 1) T
  | 0, T, _, h => absurd h (by omega)
  | r + 1, T, h, hd => by
    have hp := look_parts h
    rw [look_succ, if_pos hp.1] at h hd
    rw [look_succ (r := r + 1), look_succ (r := r), if_pos hp.1, if_pos hp.1]
    cases hl : lookAll (look (r + 1)) T.kids 0 0 with
    | none => rw [hl] at h; cases h
    | some x =>
      obtain ⟨d, c⟩ := x
      rw [hl] at hd
      have hd' : d < r + 1 := hd
      have hle := (lp_le hl).2
      rw [lp_cong (fun X hX ho => lp_down ho (by have := hle X hX; omega)) hl]
theorem lp_add {T : Ty} {r : Nat} (h : (look r T).2.2 = true) : ∀ k, look (r + k) T = look r T
  | 0 => rfl
  | k + 1 => by
    have ih := lp_add h k
    rw [← Nat.add_assoc, lp_mono (by rw [ih]; exact h), ih]
/-- What is told of a sound type where there is less room. -/
theorem look_room {A : Ty} {d c : Nat} (h : look 9 A = (d, c, true)) : ∀ (k r : Nat), r + k = 9 → (look r A).2.2 = decide (d < r) ∧ (d < r → look r A = (d, c, true))
  | 0, r, e => by
    obtain rfl : r = 9 := by omega
    have hb := (look_bd (r := 9) (T := A) (by rw [h])).1
    rw [h] at hb ⊢
    exact ⟨(decide_eq_true hb).symm, fun _ => rfl⟩
  | k + 1, r, e => by
    obtain ⟨h1, h2⟩ := look_room h k (r + 1) (by omega)
    by_cases hd : d < r
    · have e1 := h2 (by omega)
      have e2 := lp_down (r := r) (T := A) (by rw [e1]) (by rw [e1]; exact hd)
      rw [e1] at e2
      rw [e2]
      exact ⟨(decide_eq_true hd).symm, fun _ => rfl⟩
    · refine ⟨?_, fun h => absurd h hd⟩
      rw [decide_eq_false hd]
      apply Bool.eq_false_iff.2
      intro ho
      have e1 := lp_add ho (k + 1)
      rw [show r + (k + 1) = 9 by omega, h] at e1
      have hb := (look_bd ho).1
      rw [← e1] at hb
      exact hd hb

theorem fill_hit {σ : ByteArray → Option Ty} {r : Nat} {T A : Ty} (hk : T.k = 12) (hs : σ T.nm = some A) : fill σ (r + 1) T = A := by
  rw [fill, if_pos hk, hs]
theorem fill_miss {σ : ByteArray → Option Ty} {r : Nat} {T : Ty} (h : (if T.k = 12 then σ T.nm else none) = none) : fill σ (r + 1) T = .mk T.k T.nm T.con T.fn T.nl (T.kids.map (fill σ r)) := by
  rw [fill, h]
/-- g tells the sizes of what σ puts in. -/
def Sized (σ : ByteArray → Option Ty) (g : ByteArray → Option (Nat × Nat)) : Prop := ∀ s, (σ s = none ∧ g s = none) ∨ ∃ A d c, σ s = some A ∧ g s = some (d, c) ∧ look 9 A = (d, c, true)
theorem Sized.bd {σ : ByteArray → Option Ty} {g : ByteArray → Option (Nat × Nat)} (h : Sized σ g) : ∀ s x, g s = some x → x.1 ≤ 8 ∧ x.2 ≤ 64 := by
  intro s x hx
  rcases h s with ⟨_, hg⟩ | ⟨A, d, c, _, hg, hl⟩
  · rw [hg] at hx; cases hx
  · rw [hg] at hx
    cases hx
    have := look_bd (r := 9) (T := A) (by rw [hl])
    rw [hl] at this
    exact ⟨by have := this.1; show d ≤ 8; omega, this.2⟩
theorem lookAll_map {f g : Ty → Nat × Nat × Bool} {φ : Ty → Ty} : ∀ {l : List Ty} {d c : Nat}, (∀ X ∈ l, (f X).2.2 = (g (φ X)).2.2 ∧ ((f X).2.2 = true → g (φ X) = f X)) → lookAll g (l.map φ) d c = lookAll f l d c
  | [], _, _, _ => rfl
  | T :: l, d, c, h => by
    obtain ⟨h1, h2⟩ := h T (List.mem_cons_self ..)
    rw [List.map_cons, lookAll, lookAll, ← h1]
    split
    · rename_i ho
      rw [h2 ho]
      exact lookAll_map (fun X hX => h X (List.mem_cons_of_mem _ hX))
    · rfl
/-- What is reckoned ahead of the sizes is so of the type itself. -/
theorem fill_look {σ : ByteArray → Option Ty} {g : ByteArray → Option (Nat × Nat)} (hS : Sized σ g) : ∀ (r R : Nat) (T : Ty), r ≤ R → r ≤ 9 → (lookG g r T).2.2 = (look r (fill σ R T)).2.2 ∧ ((lookG g r T).2.2 = true → look r (fill σ R T) = lookG g r T)
  | 0, R, T, _, _ => by
    have e : (lookG g 0 T).2.2 = false := by
      rw [lookG]
      split <;> rfl
    rw [e, look_zero]
    exact ⟨rfl, fun h => by cases h⟩
  | r + 1, 0, T, h, _ => absurd h (by omega)
  | r + 1, R + 1, T, hR, h9 => by
    by_cases hk : T.k = 12
    · rcases hS T.nm with ⟨hs, hg⟩ | ⟨A, d, c, hs, hg, hl⟩
      · rw [lookG_succ (by rw [if_pos hk, hg]), fill_miss (by rw [if_pos hk, hs]), look_succ]
        exact fill_look_kids hS r R T hR h9
      · rw [fill_hit hk hs]
        have e : lookG g (r + 1) T = (d, c, decide (d ≤ r)) := by rw [lookG, if_pos hk, hg]
        obtain ⟨h1, h2⟩ := look_room hl (9 - (r + 1)) (r + 1) (by omega)
        rw [e, h1]
        refine ⟨decide_eq_decide.2 (by omega), fun ho => ?_⟩
        have hd : d ≤ r := of_decide_eq_true ho
        rw [h2 (by omega), decide_eq_true hd]
    · rw [lookG_succ (by rw [if_neg hk]), fill_miss (by rw [if_neg hk]), look_succ]
      exact fill_look_kids hS r R T hR h9
where
  fill_look_kids {σ : ByteArray → Option Ty} {g : ByteArray → Option (Nat × Nat)} (hS : Sized σ g) (r R : Nat) (T : Ty) (hR : r + 1 ≤ R + 1) (h9 : r + 1 ≤ 9) :
      (if fmT T = true then sizeOfT T (lookAll (lookG g r) T.kids 0 0) else (0, 0, false)).2.2 = (if fmT (.mk T.k T.nm T.con T.fn T.nl (T.kids.map (fill σ R))) = true then sizeOfT (.mk T.k T.nm T.con T.fn T.nl (T.kids.map (fill σ R))) (lookAll (look r) (Ty.mk T.k T.nm T.con T.fn T.nl (T.kids.map (fill σ R))).kids 0 0) else (0, 0, false)).2.2 ∧
      ((if fmT T = true then sizeOfT T (lookAll (lookG g r) T.kids 0 0) else (0, 0, false)).2.2 = true → (if fmT (.mk T.k T.nm T.con T.fn T.nl (T.kids.map (fill σ R))) = true then sizeOfT (.mk T.k T.nm T.con T.fn T.nl (T.kids.map (fill σ R))) (lookAll (look r) (Ty.mk T.k T.nm T.con T.fn T.nl (T.kids.map (fill σ R))).kids 0 0) else (0, 0, false)) = if fmT T = true then sizeOfT T (lookAll (lookG g r) T.kids 0 0) else (0, 0, false)) := by
    have e1 : fmT (.mk T.k T.nm T.con T.fn T.nl (T.kids.map (fill σ R))) = fmT T := by
      unfold fmT
      exact fm_congr rfl rfl rfl rfl rfl (by simp [hdOf, Ty.kids, Ty.fn, Ty.nl])
    have e2 : lookAll (look r) (Ty.mk T.k T.nm T.con T.fn T.nl (T.kids.map (fill σ R))).kids 0 0 = lookAll (lookG g r) T.kids 0 0 :=
      lookAll_map (fun X hX => fill_look hS r R X (by omega) (by omega))
    have e3 : ∀ x, sizeOfT (.mk T.k T.nm T.con T.fn T.nl (T.kids.map (fill σ R))) x = sizeOfT T x := fun x => by cases x <;> rfl
    rw [e1, e2, e3]
    exact ⟨rfl, fun _ => rfl⟩

/-- Less than r types within one another. -/
def Dp : Nat → Ty → Prop
  | 0, _ => False
  | r + 1, T => ∀ X ∈ T.kids, Dp r X
theorem Lies.dp {w : World} {B : Sel} : ∀ {r : Nat} {T : Ty} {h : Hd}, Lies w B r T h → Dp r T
  | 0, _, _, h => h.elim
  | r + 1, T, h, ⟨K, t, hh⟩ => fun X hX => by
    obtain ⟨i, hi, e⟩ := List.getElem_of_mem hX
    exact (hh i X (by rw [← e]; exact List.getElem?_eq_getElem hi)).dp
/-- More fuel than the type is deep changes nothing. -/
theorem fill_fuel {σ : ByteArray → Option Ty} : ∀ {r r' : Nat} {T : Ty}, Dp r T → Dp r' T → fill σ r T = fill σ r' T
  | 0, _, _, h, _ => h.elim
  | _ + 1, 0, _, _, h => h.elim
  | r + 1, r' + 1, T, h, h' => by
    rw [fill, fill]
    split
    · rfl
    · rw [List.map_congr_left (fun X hX => fill_fuel (h X hX) (h' X hX))]
/-- m stands for A. -/
def one (m : ByteArray) (A : Ty) (s : ByteArray) : Option Ty := if s = m then some A else none
/-- m stands for A, n for B. -/
def two (m n : ByteArray) (A B : Ty) (s : ByteArray) : Option Ty := if s = n then some B else if s = m then some A else none
/-- To put one type in and then another is to put in the first with the second in it. -/
theorem fill_twice {m n : ByteArray} (hmn : m ≠ n) {A B : Ty} {ra : Nat} (hA : Dp ra A) : ∀ {r rx : Nat} {T : Ty}, Dp r T → Dp rx (fill (one m A) r T) → fill (one n B) rx (fill (one m A) r T) = fill (two m n (fill (one n B) ra A) B) r T
  | 0, _, _, h, _ => h.elim
  | r + 1, 0, _, _, h => h.elim
  | r + 1, rx + 1, T, h, hx => by
    by_cases hk : T.k = 12
    · by_cases hm : T.nm = m
      · have e1 : fill (one m A) (r + 1) T = A := fill_hit hk (by unfold one; rw [if_pos hm])
        rw [e1] at hx ⊢
        rw [fill_hit hk (show two m n (fill (one n B) ra A) B T.nm = some (fill (one n B) ra A) by unfold two; rw [if_neg (fun e => hmn (hm.symm.trans e)), if_pos hm])]
        exact fill_fuel hx hA
      · have e0 : one m A T.nm = none := by unfold one; rw [if_neg hm]
        have e1 := fill_miss (σ := one m A) (r := r) (T := T) (by rw [if_pos hk, e0])
        rw [e1] at hx ⊢
        by_cases hn : T.nm = n
        · rw [fill_hit (σ := one n B) (T := .mk T.k T.nm T.con T.fn T.nl (T.kids.map (fill (one m A) r))) hk (show one n B T.nm = some B by unfold one; rw [if_pos hn]), fill_hit hk (show two m n (fill (one n B) ra A) B T.nm = some B by unfold two; rw [if_pos hn])]
        · rw [fill_miss (σ := one n B) (T := .mk T.k T.nm T.con T.fn T.nl (T.kids.map (fill (one m A) r))) (by show (if T.k = 12 then one n B T.nm else none) = none; rw [if_pos hk]; unfold one; rw [if_neg hn]), fill_miss (σ := two m n (fill (one n B) ra A) B) (by rw [if_pos hk]; unfold two; rw [if_neg hn, if_neg hm])]
          exact fill_twice_kids hmn hA h hx
    · have e1 := fill_miss (σ := one m A) (r := r) (T := T) (by rw [if_neg hk])
      rw [e1] at hx ⊢
      rw [fill_miss (σ := one n B) (T := .mk T.k T.nm T.con T.fn T.nl (T.kids.map (fill (one m A) r))) (by show (if T.k = 12 then one n B T.nm else none) = none; rw [if_neg hk]), fill_miss (σ := two m n (fill (one n B) ra A) B) (by rw [if_neg hk])]
      exact fill_twice_kids hmn hA h hx
where
  fill_twice_kids {m n : ByteArray} (hmn : m ≠ n) {A B : Ty} {ra : Nat} (hA : Dp ra A) {r rx : Nat} {T : Ty} (h : Dp (r + 1) T) (hx : Dp (rx + 1) (.mk T.k T.nm T.con T.fn T.nl (T.kids.map (fill (one m A) r)))) :
      Ty.mk (Ty.mk T.k T.nm T.con T.fn T.nl (T.kids.map (fill (one m A) r))).k (Ty.mk T.k T.nm T.con T.fn T.nl (T.kids.map (fill (one m A) r))).nm (Ty.mk T.k T.nm T.con T.fn T.nl (T.kids.map (fill (one m A) r))).con (Ty.mk T.k T.nm T.con T.fn T.nl (T.kids.map (fill (one m A) r))).fn (Ty.mk T.k T.nm T.con T.fn T.nl (T.kids.map (fill (one m A) r))).nl ((Ty.mk T.k T.nm T.con T.fn T.nl (T.kids.map (fill (one m A) r))).kids.map (fill (one n B) rx)) = .mk T.k T.nm T.con T.fn T.nl (T.kids.map (fill (two m n (fill (one n B) ra A) B) r)) := by
    have e : (T.kids.map (fill (one m A) r)).map (fill (one n B) rx) = T.kids.map (fill (two m n (fill (one n B) ra A) B) r) := by
      rw [List.map_map]
      refine List.map_congr_left (fun X hX => ?_)
      exact fill_twice hmn hA (h X hX) (hx _ (List.mem_map_of_mem hX))
    show Ty.mk T.k T.nm T.con T.fn T.nl ((T.kids.map (fill (one m A) r)).map (fill (one n B) rx)) = _
    rw [e]
end Go.Proofs.Ytfjflfokmihcpaa
