/- What it is to match types for names, as a plain function. No program in sight. -/
import Derived.Test.YtfjflfokmihcpaaSp
import Derived.Test.YtfjflfokmihcpaaL
namespace Go.Proofs.Ytfjflfokmihcpaa
open Go.RowKit
set_option linter.unusedVariables false
set_option linter.unusedSimpArgs false
/-- What the names stand for so far. -/
abbrev St := ByteArray → Option Ty
def sput (σ : St) (s : ByteArray) (T : Ty) : St := fun y => if y = s then some T else σ y
/-- One after the other, us long us they match. -/
def walkK (f : St → Ty → Ty → Option St) : St → List Ty → List Ty → Option St
  | σ, [], [] => some σ
  | σ, A :: us, B :: vs => (f σ A B).bind fun σ' => walkK f σ' us vs
  | _, _, _ => none
/-- A parameter that is one of the names. -/
noncomputable def asked (L : List ByteArray) (A : Ty) : Bool := @decide (A.k = 12 ∧ A.nm ∈ L) (Classical.propDecidable _)
theorem asked_yes {L : List ByteArray} {A : Ty} (h : A.k = 12 ∧ A.nm ∈ L) : asked L A = true := by unfold asked; exact @decide_eq_true _ (Classical.propDecidable _) h
theorem asked_no {L : List ByteArray} {A : Ty} (h : ¬ (A.k = 12 ∧ A.nm ∈ L)) : ¬ asked L A = true := by unfold asked; rw [@decide_eq_false _ (Classical.propDecidable _) h]; exact Bool.noConfusion
/-- Chapter 8's words. -/
noncomputable def mtch (L : List ByteArray) : Nat → St → Ty → Ty → Option St
  | 0, _, _, _ => none
  | r + 1, σ, A, B => if asked L A = true then (match σ A.nm with | some S => if eqB S B = true then some σ else none | none => some (sput σ A.nm B))
      else if topB A B = true then walkK (mtch L r) σ A.kids B.kids else none
theorem mtch_known {L : List ByteArray} {r : Nat} {σ : St} {A B S : Ty} (h : A.k = 12 ∧ A.nm ∈ L) (hs : σ A.nm = some S) : mtch L (r + 1) σ A B = if eqB S B = true then some σ else none := by rw [mtch, if_pos (asked_yes h), hs]
theorem mtch_new {L : List ByteArray} {r : Nat} {σ : St} {A B : Ty} (h : A.k = 12 ∧ A.nm ∈ L) (hs : σ A.nm = none) : mtch L (r + 1) σ A B = some (sput σ A.nm B) := by rw [mtch, if_pos (asked_yes h), hs]
theorem mtch_else {L : List ByteArray} {r : Nat} {σ : St} {A B : Ty} (h : ¬ (A.k = 12 ∧ A.nm ∈ L)) : mtch L (r + 1) σ A B = if topB A B = true then walkK (mtch L r) σ A.kids B.kids else none := by rw [mtch, if_neg (asked_no h)]
theorem walkK_len {f : St → Ty → Ty → Option St} : ∀ {σ : St} {us vs : List Ty}, us.length ≠ vs.length → walkK f σ us vs = none
  | σ, [], [], h => absurd rfl h
  | σ, A :: us, [], _ => rfl
  | σ, [], B :: vs, _ => rfl
  | σ, A :: us, B :: vs, h => by
    rw [walkK]
    cases f σ A B with
    | none => rfl
    | some σ' => exact walkK_len (fun e => h (by simp [e]))
theorem walkK_append {f : St → Ty → Ty → Option St} : ∀ {σ : St} {us vs : List Ty} (us' vs' : List Ty), us.length = vs.length → walkK f σ (us ++ us') (vs ++ vs') = (walkK f σ us vs).bind fun σ' => walkK f σ' us' vs'
  | σ, [], [], us', vs', _ => rfl
  | σ, A :: us, [], _, _, h => by simp at h
  | σ, [], B :: vs, _, _, h => by simp at h
  | σ, A :: us, B :: vs, us', vs', h => by
    rw [List.cons_append, List.cons_append, walkK, walkK]
    cases f σ A B with
    | none => rfl
    | some σ' => exact walkK_append us' vs' (by simpa using h)
theorem walkK_succ {f : St → Ty → Ty → Option St} {σ : St} {us vs : List Ty} {n : Nat} {A B : Ty} (ha : us[n]? = some A) (hb : vs[n]? = some B) :
    walkK f σ (us.take (n + 1)) (vs.take (n + 1)) = (walkK f σ (us.take n) (vs.take n)).bind fun σ' => f σ' A B := by
  have la := (List.getElem?_eq_some_iff.1 ha).1
  have lb := (List.getElem?_eq_some_iff.1 hb).1
  rw [List.take_add_one, List.take_add_one, ha, hb]
  show walkK f σ (us.take n ++ [A]) (vs.take n ++ [B]) = _
  rw [walkK_append _ _ (by simp; omega)]
  congr 1
  funext σ'
  rw [walkK]
  cases f σ' A B <;> rfl
theorem walkK_stop {f : St → Ty → Ty → Option St} {σ : St} {us vs : List Ty} {n : Nat} (h : walkK f σ (us.take n) (vs.take n) = none) (hl : n ≤ us.length) (hb : n ≤ vs.length) : walkK f σ us vs = none := by
  have e := walkK_append (f := f) (σ := σ) (us := us.take n) (vs := vs.take n) (us.drop n) (vs.drop n) (by simp; omega)
  rw [List.take_append_drop, List.take_append_drop, h] at e
  exact e
/-- The three parts, in their order. -/
def fA (T : Ty) : List Ty := T.kids.take T.fn.length
def lA (T : Ty) : List Ty := (T.kids.drop T.fn.length).take T.nl
def rA (T : Ty) : List Ty := (T.kids.drop T.fn.length).drop T.nl
theorem kids_parts (T : Ty) : T.kids = fA T ++ (lA T ++ rA T) := by unfold fA lA rA; rw [List.take_append_drop, List.take_append_drop]
def fieldsK (f : St → Ty → Ty → Option St) (σ : St) (A B : Ty) : Option St := if A.fn = B.fn then walkK f σ (fA A) (fA B) else none
theorem mtch_parts {L : List ByteArray} {r : Nat} {σ : St} {A B : Ty} (h : ¬ (A.k = 12 ∧ A.nm ∈ L)) (e1 : A.fn.length + A.nl ≤ A.kids.length) (e2 : B.fn.length + B.nl ≤ B.kids.length) :
    mtch L (r + 1) σ A B = if A.k = B.k ∧ A.nm = B.nm ∧ A.con = B.con then (fieldsK (mtch L r) σ A B).bind fun σ1 => (walkK (mtch L r) σ1 (lA A) (lA B)).bind fun σ2 => walkK (mtch L r) σ2 (rA A) (rA B) else none := by
  rw [mtch_else h]
  have lfa : (fA A).length = A.fn.length := by simp [fA]; omega
  have lfb : (fA B).length = B.fn.length := by simp [fA]; omega
  have lla : (lA A).length = A.nl := by simp [lA]; omega
  have llb : (lA B).length = B.nl := by simp [lA]; omega
  have lra : (rA A).length = A.kids.length - (A.fn.length + A.nl) := by simp [rA, Nat.sub_add_eq]
  have lrb : (rA B).length = B.kids.length - (B.fn.length + B.nl) := by simp [rA, Nat.sub_add_eq]
  by_cases hk : A.k = B.k ∧ A.nm = B.nm ∧ A.con = B.con
  · rw [if_pos hk]
    by_cases hf : A.fn = B.fn
    · have hfl : A.fn.length = B.fn.length := by rw [hf]
      unfold fieldsK
      rw [if_pos hf]
      by_cases hn : A.nl = B.nl ∧ A.kids.length = B.kids.length
      · rw [if_pos (topB_yes ⟨hk.1, hk.2.1, hk.2.2, hf, hn.1, hn.2⟩), kids_parts A, kids_parts B, walkK_append _ _ (by omega)]
        congr 1
        funext σ1
        rw [walkK_append _ _ (by omega)]
      · rw [if_neg (fun ht => hn ⟨(topB_true ht).2.2.2.2.1, (topB_true ht).2.2.2.2.2⟩)]
        cases walkK (mtch L r) σ (fA A) (fA B) with
        | none => rfl
        | some σ1 =>
          show none = (walkK (mtch L r) σ1 (lA A) (lA B)).bind _
          by_cases hnl : A.nl = B.nl
          · cases walkK (mtch L r) σ1 (lA A) (lA B) with
            | none => rfl
            | some σ2 => exact (walkK_len (by omega)).symm
          · rw [walkK_len (by omega)]; rfl
    · rw [if_neg (fun ht => hf (topB_true ht).2.2.2.1)]
      unfold fieldsK
      rw [if_neg hf]
      rfl
  · rw [if_neg hk, if_neg (fun ht => hk ⟨(topB_true ht).1, (topB_true ht).2.1, (topB_true ht).2.2.1⟩)]
/-- How many of the names are known. -/
def kn (L : List ByteArray) (σ : St) : Nat := (L.filter fun s => (σ s).isSome).length
theorem kn_le (L : List ByteArray) (σ : St) : kn L σ ≤ L.length := List.length_filter_le _ _
theorem kn_put {σ : St} {s : ByteArray} {T : Ty} (hn : σ s = none) : ∀ {L : List ByteArray}, s ∈ L → kn L σ + 1 ≤ kn L (sput σ s T)
  | [], h => by cases h
  | x :: L, h => by
    have mono : kn L σ ≤ kn L (sput σ s T) := by
      unfold kn
      rw [← List.countP_eq_length_filter, ← List.countP_eq_length_filter]
      refine List.countP_mono_left fun y _ hy => ?_
      unfold sput
      split
      · rfl
      · exact hy
    by_cases hx : x = s
    · subst hx
      have e1 : kn (x :: L) σ = kn L σ := by unfold kn; rw [List.filter_cons, hn]; rfl
      have e2 : kn (x :: L) (sput σ x T) = kn L (sput σ x T) + 1 := by unfold kn; rw [List.filter_cons]; simp [sput]
      omega
    · have hm : s ∈ L := (List.mem_cons.1 h).resolve_left (fun e => hx e.symm)
      have ih := kn_put (T := T) hn hm
      have e3 : sput σ s T x = σ x := by unfold sput; rw [if_neg hx]
      unfold kn at ih ⊢
      rw [List.filter_cons, List.filter_cons, e3]
      split
      · simp only [List.length_cons]; omega
      · exact ih
end Go.Proofs.Ytfjflfokmihcpaa
