/- What is reached, by the reference. Condition: the heap lies in memory. -/
import Derived.Test.YtkaeigklhdpifaaR3
namespace Go.Proofs.Ytkaeigklhdpifaa
open Go.RowKit Go.Maps Go.Sort
set_option linter.unusedVariables false
set_option linter.unusedSimpArgs false
def boV (l : List Bool) : List Value := l.map .bool
theorem boV_len (l : List Bool) : (boV l).length = l.length := by simp [boV]
theorem boV_at {l : List Bool} {i : Nat} {b : Bool} (h : l[i]? = some b) : (boV l)[i]? = some (.bool b) := by unfold boV; rw [List.getElem?_map, h]; rfl
theorem boV_set (l : List Bool) (i : Nat) (b : Bool) : (boV l).set i (.bool b) = boV (l.set i b) := by unfold boV; rw [List.map_set]
/-- Each that is on is reached. -/
def Snd (S : Hs) (l : List Int) (ob : List Bool) : Prop := ob.length = S.length ∧ ∀ (i : Nat) (o : Ob), ob[i]? = some true → S[i]? = some o → Rch S l o.nm
/-- What the cells to c of the object at i name is on. -/
def ClI (S : Hs) (ob : List Bool) (i c : Nat) : Prop := ob[i]? = some true → ∀ (o : Ob), S[i]? = some o → ∀ (j : Nat) (v : Int), j < c → o.cs[j]? = some (v, true) → ∀ (i' : Nat) (o' : Ob), S[i']? = some o' → o'.nm = v → ob[i']? = some true
def ClA (S : Hs) (ob : List Bool) (n : Nat) : Prop := ∀ (i : Nat), i < n → ∀ (o : Ob), S[i]? = some o → ClI S ob i o.cs.length
def Rts (S : Hs) (l : List Int) (ob : List Bool) : Prop := ∀ r ∈ l, ∀ (i : Nat) (o : Ob), S[i]? = some o → o.nm = r → ob[i]? = some true
def fls (ob : List Bool) : Nat := ob.countP (!·)
theorem fls_set {ob : List Bool} {i : Nat} (h : ob[i]? = some false) : fls (ob.set i true) + 1 = fls ob := by
  unfold fls
  induction ob generalizing i with
  | nil => simp at h
  | cons a l ih =>
    cases i with
    | zero => simp at h; subst h; simp
    | succ i =>
      have := ih (i := i) (by simpa using h)
      simp only [List.set_cons_succ, List.countP_cons]
      omega
theorem Snd.set {S : Hs} {l : List Int} {ob : List Bool} (h : Snd S l ob) {k : Nat} {o : Ob} (hk : S[k]? = some o) (hr : Rch S l o.nm) : Snd S l (ob.set k true) := by
  refine ⟨by rw [List.length_set]; exact h.1, fun i o' hi ho' => ?_⟩
  by_cases e : k = i
  · subst e; rw [hk] at ho'; cases ho'; exact hr
  · rw [List.getElem?_set_ne e] at hi
    exact h.2 i o' hi ho'
theorem set_keep {ob : List Bool} {i k : Nat} (h : ob[i]? = some true) : (ob.set k true)[i]? = some true := by
  by_cases e : k = i
  · subst e
    have := (List.getElem?_eq_some_iff.1 h).1
    rw [List.getElem?_set_self this]
  · rw [List.getElem?_set_ne e]; exact h
theorem Rts.set {S : Hs} {l : List Int} {ob : List Bool} (h : Rts S l ob) (k : Nat) : Rts S l (ob.set k true) := fun r hr i o hi e => set_keep (h r hr i o hi e)
theorem on_all {S : Hs} {l : List Int} {ob : List Bool} {bud : Nat} (ok : Ok S bud) (h1 : Snd S l ob) (h2 : Rts S l ob) (h3 : ClA S ob S.length) : ob = S.map fun o => rc S l o.nm := by
  have key : ∀ (k : Int), Rch S l k → ∀ (i : Nat) (o : Ob), S[i]? = some o → o.nm = k → ob[i]? = some true := by
    intro k hk
    induction hk with
    | root hr _ => exact fun i o hi e => h2 _ hr i o hi e
    | step ho _ hv _ ih =>
      intro i o' hi e
      rename_i v ob1 _
      obtain ⟨j, hj⟩ := List.mem_iff_getElem?.1 ho
      obtain ⟨c, hc⟩ := List.mem_iff_getElem?.1 hv
      exact h3 j (List.getElem?_eq_some_iff.1 hj).1 _ hj (ih j _ hj rfl) _ hj c _ (List.getElem?_eq_some_iff.1 hc).1 hc i o' hi e
  apply List.ext_getElem?
  intro i
  rw [List.getElem?_map]
  cases hi : S[i]? with
  | none =>
    rw [List.getElem?_eq_none_iff] at hi
    rw [List.getElem?_eq_none (by rw [h1.1]; exact hi)]; rfl
  | some o =>
    have hl := (List.getElem?_eq_some_iff.1 hi).1
    obtain ⟨b, hb⟩ : ∃ b, ob[i]? = some b := ⟨_, List.getElem?_eq_getElem (by rw [h1.1]; exact hl)⟩
    rw [hb]
    show some b = some (rc S l o.nm)
    congr 1
    cases b with
    | true => exact (rc_iff.2 (h1.2 i o hb hi)).symm
    | false =>
      cases hr : rc S l o.nm with
      | false => rfl
      | true =>
        have := key _ (rc_iff.1 hr) i o hi rfl
        rw [hb] at this; cases this
/-- How many are off, read off the world. -/
def isF : Value → Bool
  | .bool b => !b
  | _ => false
def offN (w : World) (g n : Nat) : Nat := match w.heap[g]? with
  | some (.cells cs _ _) => (cs.toList.take n).countP isF
  | _ => 0
def bOf : Value → Nat
  | .bool true => 1
  | _ => 0
theorem NV.off {w : World} {ob : List Bool} {g n c : Nat} (h : NV w 4 (boV ob) (.slice (some ⟨g, 0, none⟩) n c)) (hn : n = ob.length) : offN w g n = fls ob := by
  obtain ⟨hl, ⟨h0, _⟩ | ⟨gb, cap, cur, hv, hB, hg, h1, h2, h3, h4⟩⟩ := h
  · cases h0
  · obtain rfl : g = gb := by have := (Value.slice.inj hv).1; simpa using this
    unfold offN
    rw [hg, hn]
    rw [Nat.mul_one, boV_len] at h4
    show (cur.toList.take ob.length).countP isF = _
    rw [h4]
    unfold boV fls
    rw [List.countP_map]
    rfl
/-- The row of those that are on. -/
structure OnR (w wr : World) (n : Nat) (ob : List Bool) (g : Nat) : Prop where
  nv : NV wr 4 (boV ob) (.slice (some ⟨g, 0, none⟩) n n)
  len : ob.length = n
  g0 : w.heap.size ≤ g
  kp : Kp w wr
theorem OnR.set {w wr : World} {n : Nat} {ob : List Bool} {g : Nat} (h : OnR w wr n ob g) {k : Nat} (hk : k < n) : OnR w (wr.setCell ⟨g, k, none⟩ (.bool true)) n (ob.set k true) g := by
  refine ⟨?_, by rw [List.length_set]; exact h.len, h.g0, h.kp.setCell h.g0 _⟩
  rw [← boV_set]
  exact h.nv.set (by rw [boV_len, h.len]; exact hk) rfl _
theorem OnR.at {w wr : World} {n : Nat} {ob : List Bool} {g : Nat} (h : OnR w wr n ob g) {k : Nat} {b : Bool} (hk : ob[k]? = some b) : wr.cell? ⟨g, k, none⟩ = some (.bool b) ∧ wr.frozen? ⟨g, k, none⟩ = false ∧ g < wr.heap.size := by
  obtain ⟨g', c, hv, h1, h2, h3, _⟩ := h.nv.at (boV_at hk)
  obtain rfl : g = g' := by have := (Value.slice.inj hv).1; simpa using this
  exact ⟨h1, h2, h3⟩
end Go.Proofs.Ytkaeigklhdpifaa
