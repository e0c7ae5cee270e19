/- What is found, put in: what was wanted is what was had; what was put in is found again. No program in sight. -/
import Derived.Test.YtfjflfokmihcpaaUk
import Derived.Test.YtfjflfokmihcpaaY
namespace Go.Proofs.Ytfjflfokmihcpaa
open Go.RowKit
set_option linter.unusedVariables false
set_option linter.unusedSimpArgs false
/-- Whatever is known is known in τ too. -/
def Ext (σ τ : St) : Prop := ∀ s T, σ s = some T → τ s = some T
theorem Ext.refl (σ : St) : Ext σ σ := fun _ _ h => h
theorem Ext.trans {a b c : St} (h : Ext a b) (k : Ext b c) : Ext a c := fun s T e => k s T (h s T e)
theorem Ext.put {σ : St} {s : ByteArray} (T : Ty) (h : σ s = none) : Ext σ (sput σ s T) := fun y X e => by
  unfold sput
  split
  · rename_i hy; subst hy; rw [h] at e; cases e
  · exact e
/-- What is known is of a name that is asked for, and sound. -/
def Fine (L : List ByteArray) (σ : St) : Prop := ∀ s T, σ s = some T → s ∈ L ∧ (look 9 T).2.2 = true
theorem fine_0 (L : List ByteArray) : Fine L σ0 := fun s T h => by cases h
theorem fine_put {L : List ByteArray} {σ : St} {s : ByteArray} {T : Ty} (h : Fine L σ) (hs : s ∈ L) (hT : (look 9 T).2.2 = true) : Fine L (sput σ s T) := fun y X e => by
  unfold sput at e
  split at e
  · rename_i hy; subst hy; cases e; exact ⟨hs, hT⟩
  · exact h y X e
theorem mk_eq (B : Ty) : Ty.mk B.k B.nm B.con B.fn B.nl B.kids = B := by cases B; rfl
theorem walkK_fit {f : St → Ty → Ty → Option St} {L : List ByteArray} {φ : St → Ty → Ty} {ok : Ty → Prop} (hf : ∀ {σ σ' : St} {X Y : Ty}, ok X → f σ X Y = some σ' → Ext σ σ' ∧ ∀ τ, Ext σ' τ → (∀ s, s ∉ L → τ s = none) → φ τ X = Y) :
    ∀ {σ σ' : St} {us vs : List Ty}, (∀ X, X ∈ us → ok X) → walkK f σ us vs = some σ' → Ext σ σ' ∧ ∀ τ, Ext σ' τ → (∀ s, s ∉ L → τ s = none) → us.map (φ τ) = vs
  | σ, σ', [], [], _, h => by cases h; exact ⟨Ext.refl _, fun _ _ _ => rfl⟩
  | σ, σ', A :: us, [], _, h => by cases h
  | σ, σ', [], B :: vs, _, h => by cases h
  | σ, σ', A :: us, B :: vs, ho, h => by
    rw [walkK] at h
    cases h1 : f σ A B with
    | none => rw [h1] at h; cases h
    | some σ1 =>
      rw [h1] at h
      obtain ⟨e1, q1⟩ := hf (ho A (List.mem_cons_self ..)) h1
      obtain ⟨e2, q2⟩ := walkK_fit (f := f) (L := L) (φ := φ) (ok := ok) hf (fun X hX => ho X (List.mem_cons_of_mem _ hX)) h
      refine ⟨e1.trans e2, fun τ ht hn => ?_⟩
      rw [List.map_cons, q1 τ (e2.trans ht) hn, q2 τ ht hn]
/-- What matches is the same, with what is known put in. -/
theorem mtch_fit {L : List ByteArray} : ∀ {r : Nat} {σ σ' : St} {A B : Ty}, (look r A).2.2 = true → mtch L r σ A B = some σ' → Ext σ σ' ∧ ∀ τ, Ext σ' τ → (∀ s, s ∉ L → τ s = none) → fill τ r A = B
  | 0, _, _, _, _, h, _ => by rw [look_zero] at h; cases h
  | r + 1, σ, σ', A, B, h, hm => by
    by_cases ha : A.k = 12 ∧ A.nm ∈ L
    · cases hs : σ A.nm with
      | none =>
        rw [mtch_new ha hs] at hm
        cases hm
        refine ⟨Ext.put B hs, fun τ ht _ => fill_hit ha.1 (ht A.nm B (by unfold sput; rw [if_pos rfl]))⟩
      | some S =>
        rw [mtch_known ha hs] at hm
        cases he : eqB S B with
        | false => rw [he] at hm; cases hm
        | true =>
          rw [he] at hm
          cases hm
          exact ⟨Ext.refl _, fun τ ht _ => fill_hit ha.1 ((ht A.nm S hs).trans (by rw [eqB_true he]))⟩
    · rw [mtch_else ha] at hm
      cases ht : topB A B with
      | false => rw [ht] at hm; cases hm
      | true =>
        rw [ht, if_pos rfl] at hm
        have tt := topB_true ht
        obtain ⟨e1, q1⟩ := walkK_fit (L := L) (φ := fun τ X => fill τ r X) (ok := fun X => (look r X).2.2 = true) (fun ho hf => mtch_fit ho hf) (fun X hX => kid_mem h X hX) hm
        refine ⟨e1, fun τ hx hn => ?_⟩
        rw [fill_miss (by
          split
          · rename_i h12; exact hn A.nm (fun hl => ha ⟨h12, hl⟩)
          · rfl)]
        have := q1 τ hx hn
        rw [show A.kids.map (fill τ r) = B.kids from this, tt.1, tt.2.1, tt.2.2.1, tt.2.2.2.1, tt.2.2.2.2.1]
        exact mk_eq B
theorem walkK_fine {f : St → Ty → Ty → Option St} {L : List ByteArray} {ok ok' : Ty → Prop} (hf : ∀ {σ σ' : St} {X Y : Ty}, ok X → ok' Y → Fine L σ → f σ X Y = some σ' → Fine L σ') :
    ∀ {σ σ' : St} {us vs : List Ty}, (∀ X, X ∈ us → ok X) → (∀ X, X ∈ vs → ok' X) → Fine L σ → walkK f σ us vs = some σ' → Fine L σ'
  | σ, σ', [], [], _, _, hF, h => by cases h; exact hF
  | σ, σ', A :: us, [], _, _, _, h => by cases h
  | σ, σ', [], B :: vs, _, _, _, h => by cases h
  | σ, σ', A :: us, B :: vs, ho, ho', hF, h => by
    rw [walkK] at h
    cases h1 : f σ A B with
    | none => rw [h1] at h; cases h
    | some σ1 =>
      rw [h1] at h
      exact walkK_fine (f := f) (ok := ok) (ok' := ok') hf (fun X hX => ho X (List.mem_cons_of_mem _ hX)) (fun X hX => ho' X (List.mem_cons_of_mem _ hX)) (hf (ho A (List.mem_cons_self ..)) (ho' B (List.mem_cons_self ..)) hF h1) h
theorem mtch_fine {L : List ByteArray} : ∀ {r : Nat} {σ σ' : St} {A B : Ty}, r ≤ 9 → (look r A).2.2 = true → (look r B).2.2 = true → Fine L σ → mtch L r σ A B = some σ' → Fine L σ'
  | 0, _, _, _, _, _, h, _, _, _ => by rw [look_zero] at h; cases h
  | r + 1, σ, σ', A, B, hr, h, h', hF, hm => by
    by_cases ha : A.k = 12 ∧ A.nm ∈ L
    · cases hs : σ A.nm with
      | none =>
        rw [mtch_new ha hs] at hm
        cases hm
        exact fine_put hF ha.2 (look_up h' hr)
      | some S =>
        rw [mtch_known ha hs] at hm
        cases he : eqB S B with
        | false => rw [he] at hm; cases hm
        | true => rw [he] at hm; cases hm; exact hF
    · rw [mtch_else ha] at hm
      cases ht : topB A B with
      | false => rw [ht] at hm; cases hm
      | true =>
        rw [ht, if_pos rfl] at hm
        exact walkK_fine (ok := fun X => (look r X).2.2 = true) (ok' := fun X => (look r X).2.2 = true) (fun o1 o2 hF hf => mtch_fine (by omega) o1 o2 hF hf) (fun X hX => kid_mem h X hX) (fun X hX => kid_mem h' X hX) hF hm
theorem allS_mem {As : List Ty} (h : allS As = true) : ∀ X, X ∈ As → (look 9 X).2.2 = true := fun X hX => List.all_eq_true.1 h X hX
theorem found_fine {L : List ByteArray} {As Bs : List Ty} {σ : St} (h1 : allS As = true) (h2 : allS Bs = true) (hf : found L As Bs = some σ) : Fine L σ :=
  walkK_fine (ok := fun X => (look 9 X).2.2 = true) (ok' := fun X => (look 9 X).2.2 = true) (fun o1 o2 hF hf => mtch_fine (Nat.le_refl _) o1 o2 hF hf) (allS_mem h1) (allS_mem h2) (fine_0 L) hf
theorem found_fit {L : List ByteArray} {As Bs : List Ty} {σ : St} (h1 : allS As = true) (hf : found L As Bs = some σ) (τ : St) (hx : Ext σ τ) (hn : ∀ s, s ∉ L → τ s = none) : As.map (fill τ 9) = Bs :=
  (walkK_fit (L := L) (φ := fun τ X => fill τ 9 X) (ok := fun X => (look 9 X).2.2 = true) (fun ho hf => mtch_fit ho hf) (allS_mem h1) hf).2 τ hx hn
/-- The names that are known, and what they stand for. -/
def knL (L : List ByteArray) (σ : St) (n : Nat) : List ByteArray := (L.take n).filter fun s => (σ s).isSome
def knT (L : List ByteArray) (σ : St) (n : Nat) : List Ty := (knL L σ n).map fun s => (σ s).getD tzC
theorem knT_len (L : List ByteArray) (σ : St) (n : Nat) : (knT L σ n).length = (knL L σ n).length := by simp [knT]
theorem idx_getD : ∀ {L : List ByteArray} {s : ByteArray} {j : Nat}, idx L s = some j → L[j]? = some s
  | [], _, _, h => by cases h
  | n :: L, s, j, h => by
    rw [idx] at h
    split at h
    · rename_i e; cases h; rw [e]; rfl
    · cases hi : idx L s with
      | none => rw [hi] at h; cases h
      | some k => rw [hi] at h; cases h; simpa using idx_getD hi
theorem kn_stand {L : List ByteArray} {σ : St} (hF : ∀ s T, σ s = some T → s ∈ L) : stand (knL L σ L.length) (knT L σ L.length) = σ := by
  funext s
  unfold stand
  have hm : s ∈ knL L σ L.length ↔ s ∈ L ∧ (σ s).isSome = true := by unfold knL; rw [List.take_length, List.mem_filter]
  cases hi : idx (knL L σ L.length) s with
  | none =>
    show none = σ s
    cases hs : σ s with
    | none => rfl
    | some T =>
      have : s ∈ knL L σ L.length := hm.2 ⟨hF s T hs, by rw [hs]; rfl⟩
      obtain ⟨j, h1, _⟩ := idx_mem this
      rw [hi] at h1
      cases h1
  | some j =>
    show (knT L σ L.length)[j]? = σ s
    have e := idx_getD hi
    have hs := (hm.1 (List.mem_of_getElem? e)).2
    unfold knT
    rw [List.getElem?_map, e]
    obtain ⟨T, hT⟩ := Option.isSome_iff_exists.1 hs
    rw [hT]
    show some ((σ s).getD tzC) = _
    rw [hT]
    rfl
theorem knL_succ {L : List ByteArray} {σ : St} {n : Nat} {s : ByteArray} (hn : n < L.length) (hs : L.getD n ByteArray.empty = s) : knL L σ (n + 1) = knL L σ n ++ (if (σ s).isSome = true then [s] else []) := by
  unfold knL
  rw [take_sn hn hs, List.filter_append]
  congr 1
  rw [List.filter_cons, List.filter_nil]
theorem knT_succ {L : List ByteArray} {σ : St} {n : Nat} {s : ByteArray} (hn : n < L.length) (hs : L.getD n ByteArray.empty = s) : knT L σ (n + 1) = knT L σ n ++ (if (σ s).isSome = true then [(σ s).getD tzC] else []) := by
  unfold knT
  rw [knL_succ hn hs, List.map_append]
  split <;> rfl
/-- A flag tells whether a name's type is known. -/
theorem kb_known {L : List ByteArray} {As Bs : List Ty} {σ : St} (hF : Fine L σ) (hf : found L As Bs = some σ) (h0 : uE L As Bs = 0) {n : Nat} {s : ByteArray} (hn : n < L.length) (hs : L.getD n ByteArray.empty = s) : kb (uRes L As Bs) n = (σ s).isSome ∧ (uRes L As Bs)[n]? = some ((σ s).getD tzC) := by
  have e1 : (uRes L As Bs)[n]? = some ((σ s).getD tzC) := by
    rw [uRes_ok h0, uArgs_at hf, List.getElem?_map, List.getElem?_eq_getElem hn, ← hs, List.getD_eq_getElem?_getD, List.getElem?_eq_getElem hn]
    rfl
  refine ⟨?_, e1⟩
  unfold kb
  rw [List.getD_eq_getElem?_getD, e1]
  show (((σ s).getD tzC).k != 0) = _
  cases hx : σ s with
  | none => rfl
  | some T =>
    have := (sound_k (hF s T hx).2).1
    show (T.k != 0) = true
    exact bne_iff_ne.2 (by omega)
/-- A name stands somewhere in a type. -/
def occ (s : ByteArray) : Nat → Ty → Prop
  | 0, _ => False
  | r + 1, T => (T.k = 12 ∧ T.nm = s) ∨ ∃ X, X ∈ T.kids ∧ occ s r X
theorem addN_mem {L : List ByteArray} {T : Ty} {s : ByteArray} : s ∈ addN L T ↔ s ∈ L ∨ (T.k = 12 ∧ T.nm = s) := by
  by_cases h : T.k = 12
  · cases hh : hasB L T.nm with
    | true =>
      rw [addN_has hh]
      have hm : T.nm ∈ L := Classical.byContradiction fun hn => by rw [hasB_no hn] at hh; cases hh
      exact ⟨.inl, fun q => q.elim id (fun q => q.2 ▸ hm)⟩
    | false =>
      rw [addN_new h hh, List.mem_append, List.mem_singleton]
      exact ⟨fun q => q.imp id (fun q => ⟨h, q.symm⟩), fun q => q.imp id (fun q => q.2.symm)⟩
  · rw [addN_other h]
    exact ⟨.inl, fun q => q.elim id (fun q => absurd q.1 h)⟩
theorem fold_mem {f : List ByteArray → Ty → List ByteArray} {p : Ty → Prop} {s : ByteArray} (hf : ∀ L X, s ∈ f L X ↔ s ∈ L ∨ p X) : ∀ {l : List Ty} {L : List ByteArray}, s ∈ l.foldl f L ↔ s ∈ L ∨ ∃ X, X ∈ l ∧ p X
  | [], L => by simp
  | T :: l, L => by
    rw [List.foldl_cons, fold_mem hf, hf]
    simp only [List.mem_cons]
    constructor
    · rintro ((h | h) | ⟨X, h1, h2⟩)
      · exact .inl h
      · exact .inr ⟨T, .inl rfl, h⟩
      · exact .inr ⟨X, .inr h1, h2⟩
    · rintro (h | ⟨X, rfl | h1, h2⟩)
      · exact .inl (.inl h)
      · exact .inl (.inr h2)
      · exact .inr ⟨X, h1, h2⟩
theorem holes_mem {s : ByteArray} : ∀ {r : Nat} {T : Ty} {L : List ByteArray}, s ∈ holes r T L ↔ s ∈ L ∨ occ s r T
  | 0, T, L => by simp [holes, occ]
  | r + 1, T, L => by
    rw [holes_succ, fold_mem (p := occ s r) (fun L X => holes_mem), addN_mem]
    simp only [occ]
    constructor
    · rintro ((h | h) | h)
      · exact .inl h
      · exact .inr (.inl h)
      · exact .inr (.inr h)
    · rintro (h | h | h)
      · exact .inl (.inl h)
      · exact .inl (.inr h)
      · exact .inr h
theorem walkK_back {f : St → Ty → Ty → Option St} {L : List ByteArray} {τ : St} {φ : Ty → Ty} {ok : Ty → Prop} {p : ByteArray → Ty → Prop} (hf : ∀ {σ : St} {X : Ty}, ok X → Ext σ τ → ∃ σ', f σ X (φ X) = some σ' ∧ Ext σ' τ ∧ ∀ s, s ∈ L → ((σ' s).isSome = true ↔ (σ s).isSome = true ∨ p s X)) :
    ∀ {us : List Ty} {σ : St}, (∀ X, X ∈ us → ok X) → Ext σ τ → ∃ σ', walkK f σ us (us.map φ) = some σ' ∧ Ext σ' τ ∧ ∀ s, s ∈ L → ((σ' s).isSome = true ↔ (σ s).isSome = true ∨ ∃ X, X ∈ us ∧ p s X)
  | [], σ, _, h => ⟨σ, rfl, h, fun s _ => by simp⟩
  | A :: us, σ, ho, h => by
    obtain ⟨σ1, e1, e2, e3⟩ := hf (ho A (List.mem_cons_self ..)) h
    obtain ⟨σ2, k1, k2, k3⟩ := walkK_back (f := f) (L := L) (τ := τ) (φ := φ) (ok := ok) (p := p) hf (us := us) (σ := σ1) (fun X hX => ho X (List.mem_cons_of_mem _ hX)) e2
    refine ⟨σ2, ?_, k2, fun s hs => ?_⟩
    · rw [List.map_cons, walkK, e1]; exact k1
    · rw [k3 s hs, e3 s hs]
      simp only [List.mem_cons]
      constructor
      · rintro ((h | h) | ⟨X, h1, h2⟩)
        · exact .inl h
        · exact .inr ⟨A, .inl rfl, h⟩
        · exact .inr ⟨X, .inr h1, h2⟩
      · rintro (h | ⟨X, rfl | h1, h2⟩)
        · exact .inl (.inl h)
        · exact .inl (.inr h2)
        · exact .inr ⟨X, h1, h2⟩
/-- What was put in is found again. -/
theorem mtch_back {L : List ByteArray} {τ : St} (hd : ∀ s, s ∈ L → ∃ T, τ s = some T) (hn : ∀ s, s ∉ L → τ s = none) : ∀ {r : Nat} {σ : St} {A : Ty}, (look r A).2.2 = true → Ext σ τ →
    ∃ σ', mtch L r σ A (fill τ r A) = some σ' ∧ Ext σ' τ ∧ ∀ s, s ∈ L → ((σ' s).isSome = true ↔ (σ s).isSome = true ∨ occ s r A)
  | 0, _, _, h, _ => by rw [look_zero] at h; cases h
  | r + 1, σ, A, h, hx => by
    by_cases ha : A.k = 12 ∧ A.nm ∈ L
    · obtain ⟨S, hS⟩ := hd A.nm ha.2
      rw [fill_hit ha.1 hS]
      have hk : ∀ X, ¬ X ∈ A.kids := fun X hX => by
        have := fm_12 (h := hdOf A) (look_parts h).1 ha.1
        simp only [hdOf] at this
        have hz : A.kids.length = 0 := by omega
        rw [List.eq_nil_of_length_eq_zero hz] at hX
        cases hX
      have ho : ∀ s, occ s (r + 1) A ↔ A.nm = s := fun s => by
        simp only [occ]
        exact ⟨fun q => q.elim (fun q => q.2) (fun ⟨X, q, _⟩ => absurd q (hk X)), fun q => .inl ⟨ha.1, q⟩⟩
      cases hs : σ A.nm with
      | none =>
        refine ⟨sput σ A.nm S, mtch_new ha hs, fun y X e => ?_, fun s hsl => ?_⟩
        · unfold sput at e
          split at e
          · rename_i hy; subst hy; cases e; exact hS
          · exact hx y X e
        · rw [ho]
          unfold sput
          by_cases hy : s = A.nm
          · rw [if_pos hy]; exact ⟨fun _ => .inr hy.symm, fun _ => rfl⟩
          · rw [if_neg hy]; exact ⟨.inl, fun q => q.elim id (fun q => absurd q.symm hy)⟩
      | some S' =>
        have e : S' = S := by have := hx A.nm S' hs; rw [hS] at this; cases this; rfl
        subst e
        refine ⟨σ, by rw [mtch_known ha hs, eqB_yes rfl, if_pos rfl], hx, fun s hsl => ?_⟩
        rw [ho]
        exact ⟨.inl, fun q => q.elim id (fun q => by rw [← q, hs]; rfl)⟩
    · rw [fill_miss (by
        split
        · rename_i h12; exact hn A.nm (fun hl => ha ⟨h12, hl⟩)
        · rfl), mtch_else ha, topB_yes (A := A) (B := .mk A.k A.nm A.con A.fn A.nl (A.kids.map (fill τ r))) ⟨rfl, rfl, rfl, rfl, rfl, by simp [Ty.kids]⟩, if_pos rfl]
      obtain ⟨σ', k1, k2, k3⟩ := walkK_back (f := mtch L r) (L := L) (τ := τ) (φ := fill τ r) (ok := fun X => (look r X).2.2 = true) (p := fun s X => occ s r X) (fun ho hx => mtch_back hd hn ho hx) (us := A.kids) (σ := σ) (fun X hX => kid_mem h X hX) hx
      refine ⟨σ', k1, k2, fun s hs => ?_⟩
      rw [k3 s hs]
      simp only [occ]
      exact ⟨fun q => q.imp id .inr, fun q => q.imp id (fun q => q.elim (fun q => absurd ⟨q.1, q.2 ▸ hs⟩ ha) id)⟩
end Go.Proofs.Ytfjflfokmihcpaa
