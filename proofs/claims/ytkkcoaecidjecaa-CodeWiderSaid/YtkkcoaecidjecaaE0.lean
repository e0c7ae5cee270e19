/- Which modules are sound in form, and the cells of their shapes, as plain data. Plain: no program is walked here. -/
import Derived.Test.YtkkcoaecidjecaaM0
namespace Go.Proofs.Ytkkcoaecidjecaa
set_option linter.unusedVariables false
def plB (t n : Int) : Bool := decide (0 ≤ t) && decide (t < n)
def areB (l : List Int) (n : Int) (most : Int) : Bool := decide ((l.length : Int) ≤ most) && l.all fun t => plB t n
def resB (r n : Int) : Bool := decide (0 ≤ r) && decide (r ≤ n)
def kindB (k : Int) (l : Nat) (r n : Int) : Bool :=
  if 1 ≤ k ∧ k ≤ 7 then l == 0 && r == 0 else if k = 8 then r == 0 else if k = 9 ∨ k = 10 ∨ k = 13 then l == 1 && r == 0 else if k = 11 then resB r n else false
def formB (s : Sh) (n : Int) : Bool := areB s.l n 16 && kindB s.k s.l.length s.r n
def getI (c : List Int) (i : Int) : Int := c.getD i.toNat 0
def sumC (c : List Int) : List Int → Int
  | [] => 0
  | t :: l => getI c t + sumC c l
def cellsB (s : Sh) (c : List Int) : Int := if s.k = 8 then sumC c s.l else 1
def okSh (seen : List Sh) (c : List Int) (s : Sh) : Bool := formB s seen.length && ((s.k == 8 || !seen.any (sameSh s)) && decide (cellsB s c ≤ 64))
/-- The cells of the shapes that are left, behind those of the shapes seen. -/
def widths : List Sh → List Sh → List Int → Option (List Int)
  | [], _, c => some c
  | s :: r, seen, c => if okSh seen c s = true then widths r (seen ++ [s]) (c ++ [cellsB s c]) else none
def widthsL (l : List Sh) : Option (List Int) := widths l [] []
def fuB (n : Int) (f : Fu) : Bool := areB f.lo n 1024 && (areB f.ca n 1024 && (decide (0 ≤ f.p) && (decide (f.p ≤ f.lo.length) && resB f.r n)))
def codeN : List Fu → Nat
  | [] => 0
  | f :: l => f.co.length + codeN l
def fusB (l : List Fu) (n : Int) : Bool := decide (1 ≤ l.length ∧ l.length ≤ 256) && (l.all (fuB n) && decide (codeN l ≤ 65536))
def shapesP (l : List Sh) : Option (List Int) := if l.length ≤ 256 then widthsL l else none
def measureP (m : Mo) : Option (List Int) := match shapesP m.ty with
  | some c => if fusB m.fu m.ty.length = true then some c else none
  | none => none
theorem drop_at {α : Type} {l : List α} {k : Nat} {x : α} (h : l[k]? = some x) : l.drop k = x :: l.drop (k + 1) := by
  obtain ⟨hk, rfl⟩ := List.getElem?_eq_some_iff.1 h
  exact List.drop_eq_getElem_cons hk
theorem take_at {α : Type} {l : List α} {k : Nat} {x : α} (h : l[k]? = some x) : l.take (k + 1) = l.take k ++ [x] := by
  rw [List.take_add_one, h]; rfl
/-- One shape more. -/
theorem widths_next {l : List Sh} {k : Nat} {c : List Int} {s : Sh} (h : widthsL l = widths (l.drop k) (l.take k) c) (hs : l[k]? = some s) (ho : okSh (l.take k) c s = true) :
    widthsL l = widths (l.drop (k + 1)) (l.take (k + 1)) (c ++ [cellsB s c]) := by
  rw [h, drop_at hs, widths, if_pos ho, take_at hs]
theorem widths_bad {l : List Sh} {k : Nat} {c : List Int} {s : Sh} (h : widthsL l = widths (l.drop k) (l.take k) c) (hs : l[k]? = some s) (ho : okSh (l.take k) c s = false) : widthsL l = none := by
  rw [h, drop_at hs, widths, if_neg (by rw [ho]; decide)]
theorem widths_all {l : List Sh} {k : Nat} {c : List Int} (h : widthsL l = widths (l.drop k) (l.take k) c) (hk : l.length ≤ k) : widthsL l = some c := by
  rw [h, List.drop_eq_nil_of_le hk]; rfl
/-- The cells so far: one for each shape, from 0 to 64. -/
def cellsOk (c : List Int) (k : Nat) : Prop := c.length = k ∧ ∀ x ∈ c, 0 ≤ x ∧ x ≤ 64
theorem getI_in {c : List Int} {k : Nat} (h : cellsOk c k) (t : Int) : 0 ≤ getI c t ∧ getI c t ≤ 64 := by
  unfold getI
  rw [List.getD_eq_getElem?_getD]
  cases hc : c[t.toNat]? with
  | none => simp
  | some x => simpa using h.2 x (List.mem_of_getElem? hc)
theorem sumC_in {c : List Int} {k : Nat} (h : cellsOk c k) : ∀ l : List Int, 0 ≤ sumC c l ∧ sumC c l ≤ 64 * (l.length : Int)
  | [] => by simp [sumC]
  | t :: l => by
    have := sumC_in h l
    have := getI_in h t
    rw [sumC, List.length_cons]; omega
theorem cells_next {c : List Int} {k : Nat} (h : cellsOk c k) {s : Sh} (hs : cellsB s c ≤ 64) : cellsOk (c ++ [cellsB s c]) (k + 1) := by
  refine ⟨by simp [h.1], fun x hx => ?_⟩
  rcases List.mem_append.1 hx with hx | hx
  · exact h.2 x hx
  · simp only [List.mem_singleton] at hx
    subst hx
    refine ⟨?_, hs⟩
    unfold cellsB
    split
    · exact (sumC_in h s.l).1
    · omega
theorem sumC_append (c : List Int) : ∀ (l m : List Int), sumC c (l ++ m) = sumC c l + sumC c m
  | [], m => by simp [sumC]
  | t :: l, m => by rw [List.cons_append, sumC, sumC, sumC_append c l m]; omega
theorem codeN_append : ∀ (l m : List Fu), codeN (l ++ m) = codeN l + codeN m
  | [], m => by simp [codeN]
  | t :: l, m => by rw [List.cons_append, codeN, codeN, codeN_append l m]; omega
theorem areB_iff {l : List Int} {n most : Int} : areB l n most = true ↔ (l.length : Int) ≤ most ∧ ∀ t ∈ l, 0 ≤ t ∧ t < n := by
  simp [areB, plB]
theorem areB_bad {l : List Int} {n most : Int} {k : Nat} {x : Int} (h : l[k]? = some x) (hx : plB x n = false) : areB l n most = false := by
  cases ha : areB l n most with
  | false => rfl
  | true =>
    rw [areB_iff] at ha
    have := ha.2 x (List.mem_of_getElem? h)
    simp [plB, this] at hx
theorem areB_all {l : List Int} {n most : Int} (h0 : (l.length : Int) ≤ most) (h : ∀ (j : Nat) x, j < l.length → l[j]? = some x → plB x n = true) : areB l n most = true := by
  rw [areB_iff]
  refine ⟨h0, fun t ht => ?_⟩
  obtain ⟨i, hi⟩ := List.mem_iff_getElem?.1 ht
  simpa [plB] using h i t (List.getElem?_eq_some_iff.1 hi).1 hi
end Go.Proofs.Ytkkcoaecidjecaa
