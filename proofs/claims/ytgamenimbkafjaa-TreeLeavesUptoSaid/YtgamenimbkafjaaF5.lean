/- Sorts as they lie in memory when a call takes them; what each Kind asks for. Condition: what is named lies in memory. -/
import Derived.Test.YtgamenimbkafjaaF4
namespace Go.Proofs.Ytgamenimbkafjaa
open Go.RowKit
set_option linter.unusedVariables false
set_option linter.unusedSimpArgs false
theorem sort_of {cur : World} {p q n c : Nat} {L : List Int} (h1 : cur.cell? ⟨p, 0, none⟩ = some (.slice (some ⟨q, 0, none⟩) n c)) (hn : L.length = n) (hb : L.length ≤ 4294967296) (h2 : ∀ i, i < n → cur.cell? ⟨q, i, none⟩ = some (.int .i64 (fnI L i))) :
    SortAt cur (.func (.func 41) #[] #[.pointer (some ⟨p, 0, none⟩)]) (inK L) := by
  subst hn
  refine .inr (.inr (.inr (.inr ⟨p, L, rfl, ⟨some ⟨q, 0, none⟩, c, h1, ⟨fun h => (by cases h), fun hn => ⟨q, 0, rfl, trivial, lt_of_cell (h2 0 hn), fun h => h.elim, fun i hi j v hv => ?_⟩⟩, hb⟩, rfl⟩)))
  cases j with
  | succ j => simp at hv
  | zero =>
    simp only [List.getElem?_cons_zero, Option.some.injEq] at hv
    subst hv
    simpa using h2 i hi
theorem sort_of1 {cur : World} {p q c : Nat} {a : Int} (h1 : cur.cell? ⟨p, 0, none⟩ = some (.slice (some ⟨q, 0, none⟩) 1 c)) (h2 : cur.cell? ⟨q, 0, none⟩ = some (.int .i64 a)) : SortAt cur (.func (.func 41) #[] #[.pointer (some ⟨p, 0, none⟩)]) (inK [a]) :=
  sort_of h1 rfl (by simp) (fun i hi => by (obtain rfl : i = 0 := by omega); exact h2)
theorem sort_of2 {cur : World} {p q c : Nat} {a b : Int} (h1 : cur.cell? ⟨p, 0, none⟩ = some (.slice (some ⟨q, 0, none⟩) 2 c)) (h2 : cur.cell? ⟨q, 0, none⟩ = some (.int .i64 a)) (h3 : cur.cell? ⟨q, 1, none⟩ = some (.int .i64 b)) : SortAt cur (.func (.func 41) #[] #[.pointer (some ⟨p, 0, none⟩)]) (inK [a, b]) :=
  sort_of h1 rfl (by simp) (fun i hi => by
    rcases (show i = 0 ∨ i = 1 by omega) with rfl | rfl
    · exact h2
    · exact h3)
theorem sort_of3 {cur : World} {p q c : Nat} {a b d : Int} (h1 : cur.cell? ⟨p, 0, none⟩ = some (.slice (some ⟨q, 0, none⟩) 3 c)) (h2 : cur.cell? ⟨q, 0, none⟩ = some (.int .i64 a)) (h3 : cur.cell? ⟨q, 1, none⟩ = some (.int .i64 b)) (h4 : cur.cell? ⟨q, 2, none⟩ = some (.int .i64 d)) : SortAt cur (.func (.func 41) #[] #[.pointer (some ⟨p, 0, none⟩)]) (inK [a, b, d]) :=
  sort_of h1 rfl (by simp) (fun i hi => by
    rcases (show i = 0 ∨ i = 1 ∨ i = 2 by omega) with rfl | rfl | rfl
    · exact h2
    · exact h3
    · exact h4)
/-- The sort that a call of 'of' makes. -/
def ofV (w : World) : Value := .func (.func 41) #[] #[.pointer (some ⟨w.heap.size, 0, none⟩)]
theorem c_ofS (w : World) (q n c : Nat) (L : List Int) (hn : L.length = n) (hb : L.length ≤ 4294967296) (h : ∀ i, i < n → w.cell? ⟨q, i, none⟩ = some (.int .i64 (fnI L i))) :
    Calls Try.prog 31 #[.slice (some ⟨q, 0, none⟩) n c] w fun e w' => e = .returned (.func (.func 41) #[] #[.pointer (some ⟨w.heap.size, 0, none⟩)]) ∧ w' = w.alloc (.cells #[.slice (some ⟨q, 0, none⟩) n c] 36) ∧ SortAt w' (.func (.func 41) #[] #[.pointer (some ⟨w.heap.size, 0, none⟩)]) (inK L) := by
  refine (c_of w _ n c).mono ?_
  rintro e w' ⟨rfl, rfl⟩
  refine ⟨rfl, rfl, sort_of (by rw [cell_of_row _ _ _ _ _ _ (heap_alloc_new _ _)]; rfl) hn hb (fun i hi => ((Kp.refl w).alloc _).cellv (h i hi))⟩
theorem c_of1S (w : World) (q c : Nat) (a : Int) (h1 : w.cell? ⟨q, 0, none⟩ = some (.int .i64 a)) :
    Calls Try.prog 31 #[.slice (some ⟨q, 0, none⟩) 1 c] w fun e w' => e = .returned (.func (.func 41) #[] #[.pointer (some ⟨w.heap.size, 0, none⟩)]) ∧ w' = w.alloc (.cells #[.slice (some ⟨q, 0, none⟩) 1 c] 36) ∧ SortAt w' (.func (.func 41) #[] #[.pointer (some ⟨w.heap.size, 0, none⟩)]) (inK [a]) :=
  c_ofS w q 1 c [a] rfl (by simp) (fun i hi => by (obtain rfl : i = 0 := by omega); exact h1)
theorem c_of2S (w : World) (q c : Nat) (a b : Int) (h1 : w.cell? ⟨q, 0, none⟩ = some (.int .i64 a)) (h2 : w.cell? ⟨q, 1, none⟩ = some (.int .i64 b)) :
    Calls Try.prog 31 #[.slice (some ⟨q, 0, none⟩) 2 c] w fun e w' => e = .returned (.func (.func 41) #[] #[.pointer (some ⟨w.heap.size, 0, none⟩)]) ∧ w' = w.alloc (.cells #[.slice (some ⟨q, 0, none⟩) 2 c] 36) ∧ SortAt w' (.func (.func 41) #[] #[.pointer (some ⟨w.heap.size, 0, none⟩)]) (inK [a, b]) :=
  c_ofS w q 2 c [a, b] rfl (by simp) (fun i hi => by
    rcases (show i = 0 ∨ i = 1 by omega) with rfl | rfl
    · exact h1
    · exact h2)
theorem c_of3S (w : World) (q c : Nat) (a b d : Int) (h1 : w.cell? ⟨q, 0, none⟩ = some (.int .i64 a)) (h2 : w.cell? ⟨q, 1, none⟩ = some (.int .i64 b)) (h3 : w.cell? ⟨q, 2, none⟩ = some (.int .i64 d)) :
    Calls Try.prog 31 #[.slice (some ⟨q, 0, none⟩) 3 c] w fun e w' => e = .returned (.func (.func 41) #[] #[.pointer (some ⟨w.heap.size, 0, none⟩)]) ∧ w' = w.alloc (.cells #[.slice (some ⟨q, 0, none⟩) 3 c] 36) ∧ SortAt w' (.func (.func 41) #[] #[.pointer (some ⟨w.heap.size, 0, none⟩)]) (inK [a, b, d]) :=
  c_ofS w q 3 c [a, b, d] rfl (by simp) (fun i hi => by
    rcases (show i = 0 ∨ i = 1 ∨ i = 2 by omega) with rfl | rfl | rfl
    · exact h1
    · exact h2
    · exact h3)
theorem sort_ty (w : World) : SortAt w (.func (.func 34) #[] #[]) tyK := .inl ⟨rfl, rfl⟩
theorem sort_st (w : World) : SortAt w (.func (.func 32) #[] #[]) stK := .inr (.inl ⟨rfl, rfl⟩)
theorem sort_ex (w : World) : SortAt w (.func (.func 33) #[] #[]) exK := .inr (.inr (.inl ⟨rfl, rfl⟩))
theorem sort_br (w : World) : SortAt w (.func (.func 65) #[] #[]) brK := .inr (.inr (.inr (.inl ⟨rfl, rfl⟩)))
theorem sorts0 (w : World) : SortsAt w [] none 0 0 (fun _ => undef) := ⟨tab_nil _ _ _ _ _, rfl, fun i hi => absurd hi (by omega)⟩
theorem sorts_mk {X : World} {z : Nat} (Fs : List Value) {ps : List (Int → Bool)} {e : TypeId} {n : Nat} (hz : z = X.heap.size) (hn : Fs.length = n) (hl : ps.length = n) (h : ∀ i, i < n → ∃ p, ps[i]? = some p ∧ SortAt (X.alloc (.cells Fs.toArray e)) (Fs.getD i undef) p) :
    SortsAt (X.alloc (.cells Fs.toArray e)) ps (some ⟨z, 0, none⟩) n n (fun i => Fs.getD i undef) := by
  subst hz
  subst hn
  refine ⟨⟨fun h => (by cases h), fun hn => ⟨X.heap.size, 0, rfl, trivial, by simp, fun h => h.elim, fun i hi j v hv => ?_⟩⟩, hl, h⟩
  rw [cell_of_row _ _ _ _ _ _ (heap_alloc_new _ _)]
  cases j with
  | succ j => simp at hv
  | zero =>
    simp only [List.getElem?_cons_zero, Option.some.injEq] at hv
    subst hv
    simp [List.getD_eq_getElem?_getD, List.getElem?_eq_getElem hi]
theorem sorts1 {X : World} {z : Nat} {F : Value} {p : Int → Bool} {e : TypeId} (hz : z = X.heap.size) (h : SortAt (X.alloc (.cells #[F] e)) F p) : SortsAt (X.alloc (.cells #[F] e)) [p] (some ⟨z, 0, none⟩) 1 1 (fun i => [F].getD i undef) :=
  sorts_mk [F] hz rfl rfl (fun i hi => by (obtain rfl : i = 0 := by omega); exact ⟨p, rfl, h⟩)
theorem sorts2 {X : World} {z : Nat} {F G : Value} {p q : Int → Bool} {e : TypeId} (hz : z = X.heap.size) (h : SortAt (X.alloc (.cells #[F, G] e)) F p) (h2 : SortAt (X.alloc (.cells #[F, G] e)) G q) : SortsAt (X.alloc (.cells #[F, G] e)) [p, q] (some ⟨z, 0, none⟩) 2 2 (fun i => [F, G].getD i undef) :=
  sorts_mk [F, G] hz rfl rfl (fun i hi => by
    rcases (show i = 0 ∨ i = 1 by omega) with rfl | rfl
    · exact ⟨p, rfl, h⟩
    · exact ⟨q, rfl, h2⟩)
theorem sorts3 {X : World} {z : Nat} {F G H : Value} {p q r : Int → Bool} {e : TypeId} (hz : z = X.heap.size) (h : SortAt (X.alloc (.cells #[F, G, H] e)) F p) (h2 : SortAt (X.alloc (.cells #[F, G, H] e)) G q) (h3 : SortAt (X.alloc (.cells #[F, G, H] e)) H r) : SortsAt (X.alloc (.cells #[F, G, H] e)) [p, q, r] (some ⟨z, 0, none⟩) 3 3 (fun i => [F, G, H].getD i undef) :=
  sorts_mk [F, G, H] hz rfl rfl (fun i hi => by
    rcases (show i = 0 ∨ i = 1 ∨ i = 2 by omega) with rfl | rfl | rfl
    · exact ⟨p, rfl, h⟩
    · exact ⟨q, rfl, h2⟩
    · exact ⟨r, rfl, h3⟩)
theorem sorts4 {X : World} {z : Nat} {F G H I : Value} {p q r s : Int → Bool} {e : TypeId} (hz : z = X.heap.size) (h : SortAt (X.alloc (.cells #[F, G, H, I] e)) F p) (h2 : SortAt (X.alloc (.cells #[F, G, H, I] e)) G q) (h3 : SortAt (X.alloc (.cells #[F, G, H, I] e)) H r) (h4 : SortAt (X.alloc (.cells #[F, G, H, I] e)) I s) : SortsAt (X.alloc (.cells #[F, G, H, I] e)) [p, q, r, s] (some ⟨z, 0, none⟩) 4 4 (fun i => [F, G, H, I].getD i undef) :=
  sorts_mk [F, G, H, I] hz rfl rfl (fun i hi => by
    rcases (show i = 0 ∨ i = 1 ∨ i = 2 ∨ i = 3 by omega) with rfl | rfl | rfl | rfl
    · exact ⟨p, rfl, h⟩
    · exact ⟨q, rfl, h2⟩
    · exact ⟨r, rfl, h3⟩
    · exact ⟨s, rfl, h4⟩)
end Go.Proofs.Ytgamenimbkafjaa
