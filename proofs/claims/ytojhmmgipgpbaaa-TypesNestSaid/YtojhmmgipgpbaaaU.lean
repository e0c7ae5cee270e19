/- A slice, a channel of a type: how it lies, how deep it is, its text. No condition. -/
import Derived.Test.YtojhmmgipgpbaaaR
import Derived.Test.YtojhmmgipgpbaaaJ
import Derived.Test.YtojhmmgipgpbaaaP
namespace Go.Proofs.Ytojhmmgipgpbaaa
open Go.RowKit
set_option linter.unusedVariables false
set_option linter.unusedSimpArgs false

/-- A slice (9), a channel (10) of a type. -/
def nestT (k : Int) (T : Ty) : Ty := .mk k ⟨#[]⟩ 0 [] 1 [T]
theorem nest_fm {k : Int} (hk : k = 9 ∨ k = 10) (T : Ty) : fmT (nestT k T) = true := by
  rcases hk with rfl | rfl <;> simp [fmT, fm, bareB, hdOf, nestT, Ty.k, Ty.nm, Ty.con, Ty.fn, Ty.nl, Ty.kids] <;> rfl
theorem lookAll_cong {f g : Ty → Nat × Nat × Bool} : ∀ {l : List Ty} {d c : Nat} {x : Nat × Nat}, (∀ X ∈ l, (f X).2.2 = true → g X = f X) → lookAll f l d c = some x → lookAll g l d c = some x
  | [], _, _, _, _, h => h
  | T :: l, d, c, x, hg, h => by
    rw [lookAll] at h ⊢
    split at h
    · rename_i ho
      rw [hg T (List.mem_cons_self ..) ho, if_pos ho]
      exact lookAll_cong (fun X hX => hg X (List.mem_cons_of_mem _ hX)) h
    · cases h
theorem lookAll_le {f : Ty → Nat × Nat × Bool} : ∀ {l : List Ty} {d c d' c' : Nat}, lookAll f l d c = some (d', c') → d ≤ d' ∧ ∀ X ∈ l, (f X).1 + 1 ≤ d'
  | [], d, c, d', c', h => by simp [lookAll] at h; exact ⟨by omega, fun X hX => by cases hX⟩
  | T :: l, d, c, d', c', h => by
    rw [lookAll] at h
    split at h
    · obtain ⟨h1, h2⟩ := lookAll_le h
      refine ⟨by omega, fun X hX => ?_⟩
      rcases List.mem_cons.1 hX with rfl | hX
      · omega
      · exact h2 X hX
    · cases h
/-- More room changes nothing of what is sound. -/
theorem look_mono : ∀ {r : Nat} {T : Ty}, (look r T).2.2 = true → look (r + 1) T = look r T
  | 0, T, h => by rw [look_zero] at h; cases h
  | r + 1, T, h => by
    have hp := look_parts h
    rw [look_succ, if_pos hp.1] at h
    rw [look_succ (r := r + 1), look_succ (r := r), if_pos hp.1, if_pos hp.1]
    cases hl : lookAll (look r) T.kids 0 0 with
    | none => rw [hl] at h; cases h
    | some x => rw [lookAll_cong (fun X _ hX => look_mono hX) hl]
/-- What is less deep than there is room needs less room. -/
theorem look_down : ∀ {r : Nat} {T : Ty}, (look (r + 1) T).2.2 = true → (look (r + 1) T).1 < r → look r T = look (r + 1) T
  | 0, T, _, h => absurd h (by omega)
  | r + 1, T, h, hd => by
    have hp := look_parts h
    rw [look_succ, if_pos hp.1] at h hd
    rw [look_succ (r := r + 1), look_succ (r := r), if_pos hp.1, if_pos hp.1]
    cases hl : lookAll (look (r + 1)) T.kids 0 0 with
    | none => rw [hl] at h; cases h
    | some x =>
      obtain ⟨d, c⟩ := x
      rw [hl] at hd
      have hd' : d < r + 1 := hd
      have hle := (lookAll_le hl).2
      rw [lookAll_cong (fun X hX ho => look_down ho (by have := hle X hX; omega)) hl]
theorem listL_cong {f g : Ty → List UInt8} {l : List Ty} (h : ∀ X ∈ l, f X = g X) : ∀ n, listL f l n = listL g l n
  | 0 => rfl
  | n + 1 => by
    rw [listL, listL, listL_cong h n]
    cases hX : l[n]? with
    | none => rfl
    | some X => show _ ++ f X = _ ++ g X; rw [h X (List.mem_of_getElem? hX)]
theorem resL_cong {f g : Ty → List UInt8} {l : List Ty} (h : ∀ X ∈ l, f X = g X) : ∀ n, resL f l n = resL g l n
  | 0 => rfl
  | n + 1 => by
    rw [resL, resL, resL_cong h n]
    cases hX : l[n]? with
    | none => rfl
    | some X => show _ ++ f X = _ ++ g X; rw [h X (List.mem_of_getElem? hX)]
theorem told_mono : ∀ {r : Nat} {T : Ty}, (look r T).2.2 = true → told (r + 1) T = told r T
  | 0, T, h => by rw [look_zero] at h; cases h
  | r + 1, T, h => by
    have hp := (look_parts h).2
    have hk : ∀ X ∈ T.kids, told (r + 1) X = told r X := fun X hX => by
      obtain ⟨i, hi, e⟩ := List.getElem_of_mem hX
      exact told_mono (hp i X (by rw [← e]; exact List.getElem?_eq_getElem hi))
    conv => lhs; rw [told]
    conv => rhs; rw [told]
    rw [listL_cong hk, resL_cong (fun X hX => hk X (List.mem_of_mem_drop hX))]
    cases hX : T.kids[0]? with
    | none => rfl
    | some X => simp only [hk X (List.mem_of_getElem? hX)]
theorem look_nest {k : Int} (hk : k = 9 ∨ k = 10) (T : Ty) : look 9 (nestT k T) = if (look 8 T).2.2 = true then ((look 8 T).1 + 1, 1, true) else (0, 0, false) := by
  rw [look_succ, if_pos (nest_fm hk T)]
  show sizeOfT (nestT k T) (lookAll (look 8) [T] 0 0) = _
  rw [lookAll]
  split
  · rw [lookAll]
    have h8 : ¬ (nestT k T).k = 8 := by show ¬ k = 8; omega
    simp only [sizeOfT, if_neg h8]
    simp
  · rfl
theorem nest_bad {k : Int} (hk : k = 9 ∨ k = 10) {T : Ty} (h : (look 9 T).2.2 = false ∨ (look 9 T).1 = 8) : look 9 (nestT k T) = (0, 0, false) := by
  rw [look_nest hk, if_neg]
  intro h8
  have e := look_mono h8
  have hb := look_bd h8
  rw [e] at h
  rcases h with h | h
  · rw [h8] at h; cases h
  · omega
theorem nest_ok8 {T : Ty} (h : (look 9 T).2.2 = true) (hd : (look 9 T).1 ≠ 8) : look 8 T = look 9 T := look_down (r := 8) h (by have := look_bd h; show (look 9 T).1 < 8; omega)
theorem nest_good {k : Int} (hk : k = 9 ∨ k = 10) {T : Ty} (h : (look 9 T).2.2 = true) (hd : (look 9 T).1 ≠ 8) : look 9 (nestT k T) = ((look 9 T).1 + 1, 1, true) := by
  rw [look_nest hk, nest_ok8 h hd, if_pos h]
theorem told_nest9 {T : Ty} (h : (look 9 T).2.2 = true) (hd : (look 9 T).1 ≠ 8) : told 9 (nestT 9 T) = [91, 93] ++ told 9 T := by
  rw [told_9 (T := nestT 9 T) (X := T) rfl rfl, told_mono (r := 8) (by rw [nest_ok8 h hd]; exact h)]
theorem tx_nest9 {T : Ty} (h : (look 9 T).2.2 = true) (hd : (look 9 T).1 ≠ 8) : tx (nestT 9 T) = ⟨#[91, 93]⟩ ++ tx T := by
  unfold tx
  rw [if_pos h, if_pos (by rw [nest_good (.inl rfl) h hd]), told_nest9 h hd]
  exact (catB [91, 93] (told 9 T)).symm
theorem cmp_nest9 (T : Ty) : cmp 9 (nestT 9 T) = false := cmp_no (.inl rfl)
theorem cmp_nest10 (T : Ty) : cmp 9 (nestT 10 T) = true := rfl
/-- It lies behind a new block, which holds the type's header. -/
theorem nest_lies {k : Int} (hk : k = 9 ∨ k = 10) {w w' : World} {R : Nat} {T : Ty} {h : Hd} (hl : Lies w A0 R T h) (hw : Kp (w.alloc (.cells #[.int .i64 h.k, .string h.nm, .int .i64 h.con, .slice h.fa h.fl h.fc, .slice h.la h.ll h.lc, .slice h.ra h.rl h.rc] 25)) w') :
    Lies w' A0 (R + 1) (nestT k T) ⟨k, ⟨#[]⟩, 0, none, 0, 0, some ⟨w.heap.size, 0, none⟩, 1, 1, none, 0, 0⟩ := by
  have hb := (hw.blk (b := w.heap.size) (by simp)).trans (heap_alloc_new _ _)
  have hlt : w.heap.size < w'.heap.size := by have := hw.sz; simp at this; omega
  refine ⟨fun _ => h, ⟨rfl, rfl, rfl, rfl, rfl, rfl, (by show -9223372036854775808 ≤ k ∧ k ≤ 9223372036854775807; omega), (by simp), (by simp [ByteArray.size]), fun n hn => (by cases hn), (by simp), (by simp), (by simp), tab_nil _ _ _ _ _, ?_, tab_nil _ _ _ _ _⟩, fun i X hX => ?_⟩
  · refine ⟨fun h => (by cases h), fun _ => ⟨w.heap.size, 0, rfl, trivial, hlt, fun h => h.elim, fun i hi j v hv => ?_⟩⟩
    have hi0 : i = 0 := by simp only at hi; omega
    subst hi0
    simp only [Nat.zero_mul, Nat.zero_add]
    rw [cell_of_row _ _ _ _ _ _ hb]
    simpa [Hd.cells] using hv
  · have e : X = T := by
      cases i with
      | zero => simpa [nestT, Ty.kids] using hX.symm
      | succ i => simp [nestT, Ty.kids] at hX
    subst e
    exact hl.keep (((Kp.refl w).alloc _).trans hw)
end Go.Proofs.Ytojhmmgipgpbaaa
