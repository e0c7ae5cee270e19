/- A heap, plain: its objects by their names, which are reached, and what comes of each call. No condition; no program is walked here. -/
import Derived.Test.YtkaeigklhdpifaaT0
namespace Go.Proofs.Ytkaeigklhdpifaa
set_option linter.unusedVariables false

/-- An object: its name, and its cells. -/
structure Ob where
  nm : Int
  cs : List (Int × Bool)
abbrev Hs := List Ob
def used (S : Hs) : Nat := (S.map fun o => o.cs.length + 1).sum
def hasN (S : Hs) (k : Int) : Bool := S.any fun o => o.nm == k
def getN (S : Hs) (k : Int) : Option Ob := S.find? fun o => o.nm == k
def knownR (S : Hs) (roots : List Int) : Bool := roots.all fun r => r == 0 || hasN S r
/-- What the roots reach. -/
inductive Rch (S : Hs) (roots : List Int) : Int → Prop
  | root {r : Int} : r ∈ roots → hasN S r = true → Rch S roots r
  | step {o : Ob} {v : Int} : o ∈ S → Rch S roots o.nm → (v, true) ∈ o.cs → hasN S v = true → Rch S roots v
noncomputable def rc (S : Hs) (roots : List Int) (k : Int) : Bool := @decide (Rch S roots k) (Classical.propDecidable _)
theorem rc_iff {S : Hs} {roots : List Int} {k : Int} : rc S roots k = true ↔ Rch S roots k := by unfold rc; simp
noncomputable def col (S : Hs) (roots : List Int) : Hs := S.filter fun o => rc S roots o.nm
noncomputable def rl (S : Hs) (roots : List Int) : List Int := (col S roots).map (·.nm)
/-- How many names from i + 1 on are there without a gap. -/
def pre : Hs → Nat → Nat
  | [], _ => 0
  | o :: S, i => if o.nm = (i : Int) + 1 then pre S (i + 1) + 1 else 0
def newOb (k : Nat) (refs : List Bool) : Ob := ⟨(k : Int) + 1, refs.map fun r => (0, r)⟩
def ins (S : Hs) (refs : List Bool) : Hs := S.take (pre S 0) ++ newOb (pre S 0) refs :: S.drop (pre S 0)
def setC (S : Hs) (k : Int) (i : Nat) (n : Int) : Hs := S.map fun o => if o.nm = k then ⟨o.nm, o.cs.modify i fun c => (n, c.2)⟩ else o
structure Ok (S : Hs) (bud : Nat) : Prop where
  up : S.Pairwise fun a b => a.nm < b.nm
  pos : ∀ o ∈ S, 1 ≤ o.nm ∧ o.nm ≤ 65536
  wd : ∀ o ∈ S, ∀ c ∈ o.cs, 0 ≤ c.1 ∧ c.1 ≤ 18446744073709551615
  ref : ∀ o ∈ S, ∀ c ∈ o.cs, c.2 = true → c.1 = 0 ∨ hasN S c.1 = true
  fit : used S ≤ bud
  bud : bud ≤ 65536

theorem hasN_iff {S : Hs} {k : Int} : hasN S k = true ↔ ∃ o ∈ S, o.nm = k := by simp [hasN]
theorem hasN_mem {S : Hs} {o : Ob} (h : o ∈ S) : hasN S o.nm = true := hasN_iff.2 ⟨o, h, rfl⟩
theorem hasN_false {S : Hs} {k : Int} : hasN S k = false ↔ ∀ o ∈ S, o.nm ≠ k := by simp [hasN]
theorem Rch.has {S : Hs} {roots : List Int} {k : Int} (h : Rch S roots k) : hasN S k = true := by cases h <;> assumption
theorem getN_some {S : Hs} {k : Int} {o : Ob} (h : getN S k = some o) : o ∈ S ∧ o.nm = k := by
  have h1 := List.mem_of_find?_eq_some h
  have h2 := List.find?_some h
  exact ⟨h1, by simpa using h2⟩
theorem getN_none {S : Hs} {k : Int} : getN S k = none ↔ hasN S k = false := by simp [getN, hasN]
theorem getN_has {S : Hs} {k : Int} (h : hasN S k = true) : ∃ o, getN S k = some o := by
  cases hg : getN S k with
  | none => rw [getN_none.1 hg] at h; cases h
  | some o => exact ⟨o, rfl⟩
theorem Ok.uniq {S : Hs} {bud : Nat} (h : Ok S bud) {a b : Ob} (ha : a ∈ S) (hb : b ∈ S) (e : a.nm = b.nm) : a = b := by
  have hu := h.up
  clear h
  induction S with
  | nil => cases ha
  | cons x S ih =>
    rw [List.pairwise_cons] at hu
    rcases List.mem_cons.1 ha with ha | ha <;> rcases List.mem_cons.1 hb with hb | hb
    · rw [ha, hb]
    · have := hu.1 b hb; subst ha; omega
    · have := hu.1 a ha; subst hb; omega
    · exact ih ha hb hu.2
theorem Ok.get {S : Hs} {bud : Nat} (h : Ok S bud) {o : Ob} (ho : o ∈ S) : getN S o.nm = some o := by
  obtain ⟨o', h'⟩ := getN_has (hasN_mem ho)
  rw [h']
  obtain ⟨h1, h2⟩ := getN_some h'
  rw [h.uniq h1 ho h2]
theorem used_nil : used [] = 0 := rfl
theorem used_cons (o : Ob) (S : Hs) : used (o :: S) = o.cs.length + 1 + used S := by simp [used]
theorem used_append (S T : Hs) : used (S ++ T) = used S + used T := by simp [used]
theorem used_mem {S : Hs} {o : Ob} (h : o ∈ S) : o.cs.length + 1 ≤ used S := by
  induction S with
  | nil => cases h
  | cons x S ih =>
    rw [used_cons]
    rcases List.mem_cons.1 h with rfl | h
    · omega
    · have := ih h; omega
theorem used_len (S : Hs) : S.length ≤ used S := by
  induction S with
  | nil => simp [used]
  | cons x S ih => rw [used_cons]; simp; omega
theorem used_filter (S : Hs) (p : Ob → Bool) : used (S.filter p) ≤ used S := by
  induction S with
  | nil => simp
  | cons x S ih =>
    rw [List.filter_cons, used_cons]
    split
    · rw [used_cons]; omega
    · omega
theorem used_take (S : Hs) (k : Nat) : used (S.take k) + used (S.drop k) = used S := by rw [← used_append, List.take_append_drop]
theorem used_ins (S : Hs) (refs : List Bool) : used (ins S refs) = used S + 1 + refs.length := by
  unfold ins
  rw [used_append, used_cons, ← used_take S (pre S 0)]
  simp [newOb]; omega
/-- Without one. -/
theorem used_drop {S : Hs} (hu : S.Pairwise fun a b => a.nm < b.nm) {o : Ob} (ho : o ∈ S) : used (S.filter fun x => !(x.nm == o.nm)) + (o.cs.length + 1) = used S := by
  induction S with
  | nil => cases ho
  | cons x S ih =>
    rw [List.pairwise_cons] at hu
    rw [List.filter_cons, used_cons]
    rcases List.mem_cons.1 ho with rfl | h
    · simp only [beq_self_eq_true, Bool.not_true, Bool.false_eq_true, if_false]
      rw [List.filter_eq_self.2 (fun y hy => by have := hu.1 y hy; simp; omega)]
      omega
    · have h1 := hu.1 o h
      have : (!(x.nm == o.nm)) = true := by simp; omega
      rw [if_pos this, used_cons]
      have := ih hu.2 h
      omega
theorem len_drop {S : Hs} (hu : S.Pairwise fun a b => a.nm < b.nm) {o : Ob} (ho : o ∈ S) : (S.filter fun x => !(x.nm == o.nm)).length + 1 = S.length := by
  induction S with
  | nil => cases ho
  | cons x S ih =>
    rw [List.pairwise_cons] at hu
    rw [List.filter_cons]
    rcases List.mem_cons.1 ho with rfl | h
    · simp only [beq_self_eq_true, Bool.not_true, Bool.false_eq_true, if_false]
      rw [List.filter_eq_self.2 (fun y hy => by have := hu.1 y hy; simp; omega)]
      simp
    · have h1 := hu.1 o h
      have : (!(x.nm == o.nm)) = true := by simp; omega
      rw [if_pos this]
      have := ih hu.2 h
      simp; omega
/-! ### names without a gap -/
theorem pre_le : ∀ (S : Hs) (i : Nat), pre S i ≤ S.length
  | [], _ => by simp [pre]
  | o :: S, i => by
    unfold pre
    split
    · have := pre_le S (i + 1); simp; omega
    · simp
theorem pre_at : ∀ (S : Hs) (i j : Nat), j < pre S i → ∃ o, S[j]? = some o ∧ o.nm = (i : Int) + j + 1
  | [], _, _, h => by simp [pre] at h
  | o :: S, i, j, h => by
    unfold pre at h
    split at h
    · rename_i e
      cases j with
      | zero => exact ⟨o, rfl, by rw [e]; simp⟩
      | succ j =>
        obtain ⟨o', h1, h2⟩ := pre_at S (i + 1) j (by omega)
        exact ⟨o', by simpa using h1, by rw [h2]; push_cast; omega⟩
    · omega
theorem pre_end : ∀ (S : Hs) (i : Nat) (o : Ob), S[pre S i]? = some o → o.nm ≠ (i : Int) + pre S i + 1
  | [], _, _, h => by simp at h
  | x :: S, i, o, h => by
    unfold pre at h ⊢
    split at h
    · rename_i e
      rw [if_pos e]
      have := pre_end S (i + 1) o (by simpa using h)
      push_cast at this ⊢
      omega
    · rename_i e
      rw [if_neg e]
      simp at h
      subst h
      simpa using e
theorem up_lt {S : Hs} (hu : S.Pairwise fun a b => a.nm < b.nm) {i j : Nat} {a b : Ob} (hi : S[i]? = some a) (hj : S[j]? = some b) (h : i < j) : a.nm < b.nm := by
  obtain ⟨h1, e1⟩ := List.getElem?_eq_some_iff.1 hi
  obtain ⟨h2, e2⟩ := List.getElem?_eq_some_iff.1 hj
  have := (List.pairwise_iff_getElem.1 hu) i j h1 h2 h
  rw [e1, e2] at this; exact this
/-- Rising names from 1 on lie no lower than their places. -/
theorem nm_ge {S : Hs} (hu : S.Pairwise fun a b => a.nm < b.nm) (hp : ∀ o ∈ S, 1 ≤ o.nm) : ∀ (i : Nat) (o : Ob), S[i]? = some o → (i : Int) + 1 ≤ o.nm
  | 0, o, h => by have := hp o (List.mem_of_getElem? h); simpa using this
  | i + 1, o, h => by
    have hl : i + 1 < S.length := (List.getElem?_eq_some_iff.1 h).1
    have h0 : S[i]? = some (S[i]'(by omega)) := List.getElem?_eq_getElem (by omega)
    have := nm_ge hu hp i _ h0
    have := up_lt hu h0 h (by omega)
    push_cast; omega
/-- The least name that is free. -/
theorem free_not {S : Hs} (hu : S.Pairwise fun a b => a.nm < b.nm) (hp : ∀ o ∈ S, 1 ≤ o.nm) : hasN S ((pre S 0 : Nat) + 1 : Int) = false := by
  rw [hasN_false]
  intro o ho e
  obtain ⟨i, hi⟩ := List.mem_iff_getElem?.1 ho
  have hl := (List.getElem?_eq_some_iff.1 hi).1
  rcases Nat.lt_trichotomy i (pre S 0) with h | h | h
  · obtain ⟨o', h1, h2⟩ := pre_at S 0 i h
    rw [hi] at h1; cases h1
    simp at h2; omega
  · subst h
    have := pre_end S 0 o hi
    simp at this; omega
  · have hl2 : pre S 0 < S.length := by omega
    have h0 : S[pre S 0]? = some (S[pre S 0]'hl2) := List.getElem?_eq_getElem hl2
    have h1 := nm_ge hu hp _ _ h0
    have h2 := up_lt hu h0 hi h
    omega
theorem free_below {S : Hs} {j : Nat} (h1 : 1 ≤ j) (h2 : j ≤ pre S 0) : hasN S (j : Int) = true := by
  obtain ⟨o, ho, e⟩ := pre_at S 0 (j - 1) (by omega)
  exact hasN_iff.2 ⟨o, List.mem_of_getElem? ho, by rw [e]; simp; omega⟩
/-- Where all names to k are there, no gap comes ahead. -/
theorem le_pre {S : Hs} (hu : S.Pairwise fun a b => a.nm < b.nm) (hp : ∀ o ∈ S, 1 ≤ o.nm) {k : Nat} (h : ∀ j : Nat, 1 ≤ j → j ≤ k → hasN S (j : Int) = true) : k ≤ pre S 0 := by
  by_cases hk : k ≤ pre S 0
  · exact hk
  · have h1 := h (pre S 0 + 1) (by omega) (by omega)
    have h2 := free_not hu hp
    push_cast at h1
    rw [h1] at h2; cases h2
/-! ### what is reached -/
theorem col_mem {S : Hs} {roots : List Int} {o : Ob} : o ∈ col S roots ↔ o ∈ S ∧ Rch S roots o.nm := by simp [col, rc_iff]
theorem col_has {S : Hs} {roots : List Int} {k : Int} : hasN (col S roots) k = true ↔ Rch S roots k := by
  rw [hasN_iff]
  constructor
  · rintro ⟨o, ho, rfl⟩
    exact (col_mem.1 ho).2
  · intro h
    obtain ⟨o, ho, rfl⟩ := hasN_iff.1 h.has
    exact ⟨o, col_mem.2 ⟨ho, h⟩, rfl⟩
theorem rl_mem {S : Hs} {roots : List Int} {k : Int} : k ∈ rl S roots ↔ Rch S roots k := by
  rw [← col_has, hasN_iff, rl, List.mem_map]
theorem Ok.col {S : Hs} {bud : Nat} (h : Ok S bud) (roots : List Int) : Ok (col S roots) bud := by
  refine ⟨h.up.filter _, fun o ho => h.pos o (col_mem.1 ho).1, fun o ho => h.wd o (col_mem.1 ho).1, fun o ho c hc hr => ?_, Nat.le_trans (used_filter _ _) h.fit, h.bud⟩
  obtain ⟨h1, h2⟩ := col_mem.1 ho
  rcases h.ref o h1 c hc hr with h3 | h3
  · exact .inl h3
  · refine .inr (col_has.2 (.step h1 h2 ?_ h3))
    obtain ⟨c1, c2⟩ := c
    simp at hr; subst hr; exact hc
theorem Rch.mono {S : Hs} {a b : List Int} (h : ∀ r ∈ a, Rch S b r ∨ hasN S r = false) {k : Int} (hk : Rch S a k) : Rch S b k := by
  induction hk with
  | root h1 h2 =>
    rcases h _ h1 with h3 | h3
    · exact h3
    · rw [h3] at h2; cases h2
  | step h1 _ h3 h4 ih => exact .step h1 ih h3 h4
theorem rch_col {S : Hs} {roots : List Int} {k : Int} : Rch (col S roots) roots k ↔ Rch S roots k := by
  constructor
  · intro h
    exact col_has.1 h.has
  · intro h
    induction h with
    | root h1 h2 => exact .root h1 (col_has.2 (.root h1 h2))
    | step h1 h2 h3 h4 ih => exact .step (col_mem.2 ⟨h1, h2⟩) ih h3 (col_has.2 (.step h1 h2 h3 h4))
theorem col_col (S : Hs) (roots : List Int) : col (col S roots) roots = col S roots := by
  show (col S roots).filter _ = _
  rw [List.filter_eq_self]
  intro o ho
  exact rc_iff.2 (rch_col.2 (col_mem.1 ho).2)
theorem Ok.nil {bud : Nat} (h : bud ≤ 65536) : Ok [] bud := ⟨List.Pairwise.nil, by simp, by simp, by simp, by simp [used], h⟩
theorem Ok.len {S : Hs} {bud : Nat} (h : Ok S bud) : S.length ≤ 65536 := by have := used_len S; have := h.fit; have := h.bud; omega
/-! ### one more -/
theorem ins_mem {S : Hs} {refs : List Bool} {o : Ob} : o ∈ ins S refs ↔ o = newOb (pre S 0) refs ∨ o ∈ S := by
  unfold ins
  rw [List.mem_append, List.mem_cons]
  constructor
  · rintro (h | h | h)
    · exact .inr (List.mem_of_mem_take h)
    · exact .inl h
    · exact .inr (List.mem_of_mem_drop h)
  · rintro (h | h)
    · exact .inr (.inl h)
    · rw [← List.take_append_drop (pre S 0) S, List.mem_append] at h
      rcases h with h | h
      · exact .inl h
      · exact .inr (.inr h)
theorem ins_has {S : Hs} {refs : List Bool} {k : Int} : hasN (ins S refs) k = (hasN S k || k == ((pre S 0 : Nat) + 1 : Int)) := by
  rw [Bool.eq_iff_iff, Bool.or_eq_true, hasN_iff, hasN_iff]
  constructor
  · rintro ⟨o, ho, rfl⟩
    rcases ins_mem.1 ho with rfl | h
    · right; simp [newOb]
    · exact .inl ⟨o, h, rfl⟩
  · rintro (⟨o, ho, rfl⟩ | h)
    · exact ⟨o, ins_mem.2 (.inr ho), rfl⟩
    · exact ⟨_, ins_mem.2 (.inl rfl), by simp at h; simp [newOb, h]⟩
theorem Ok.ins {S : Hs} {bud : Nat} (h : Ok S bud) (refs : List Bool) (hf : used S + 1 + refs.length ≤ bud) : Ok (ins S refs) bud := by
  have hp : ∀ o ∈ S, 1 ≤ o.nm := fun o ho => (h.pos o ho).1
  have hl := pre_le S 0
  have hul := used_len S
  refine ⟨?_, fun o ho => ?_, fun o ho c hc => ?_, fun o ho c hc hr => ?_, by rw [used_ins]; exact hf, h.bud⟩
  · unfold Go.Proofs.Ytkaeigklhdpifaa.ins
    rw [List.pairwise_append, List.pairwise_cons]
    refine ⟨h.up.sublist (List.take_sublist _ _), ⟨fun b hb => ?_, h.up.sublist (List.drop_sublist _ _)⟩, fun a ha b hb => ?_⟩
    · obtain ⟨i, hi⟩ := List.mem_iff_getElem?.1 hb
      rw [List.getElem?_drop] at hi
      have h1 := nm_ge h.up hp _ _ hi
      have h2 : b.nm ≠ ((pre S 0 : Nat) + 1 : Int) := hasN_false.1 (free_not h.up hp) b (List.mem_of_getElem? hi)
      simp only [newOb]
      push_cast at h1
      omega
    · obtain ⟨i, hi⟩ := List.mem_iff_getElem?.1 ha
      rw [List.getElem?_take] at hi
      split at hi
      · rename_i hlt
        obtain ⟨o', h1, h2⟩ := pre_at S 0 i hlt
        rw [hi] at h1; cases h1
        rcases List.mem_cons.1 hb with rfl | hb
        · simp only [newOb]; rw [h2]; simp; omega
        · obtain ⟨j, hj⟩ := List.mem_iff_getElem?.1 hb
          rw [List.getElem?_drop] at hj
          exact up_lt h.up hi hj (by omega)
      · cases hi
  · rcases ins_mem.1 ho with rfl | h1
    · simp only [newOb]; have := h.bud; omega
    · exact h.pos o h1
  · rcases ins_mem.1 ho with rfl | h1
    · simp only [newOb, List.mem_map] at hc
      obtain ⟨r, _, rfl⟩ := hc
      simp
    · exact h.wd o h1 c hc
  · rcases ins_mem.1 ho with rfl | h1
    · simp only [newOb, List.mem_map] at hc
      obtain ⟨r, _, rfl⟩ := hc
      exact .inl rfl
    · rcases h.ref o h1 c hc hr with h2 | h2
      · exact .inl h2
      · exact .inr (by rw [ins_has, h2]; rfl)
/-! ### a cell is written -/
theorem setC_mem {S : Hs} {k : Int} {i : Nat} {n : Int} {o : Ob} (h : o ∈ setC S k i n) : ∃ x ∈ S, o.nm = x.nm ∧ o.cs.length = x.cs.length ∧ ((x.nm ≠ k ∧ o = x) ∨ (x.nm = k ∧ o.cs = x.cs.modify i fun c => (n, c.2))) := by
  obtain ⟨x, hx, rfl⟩ := List.mem_map.1 h
  refine ⟨x, hx, ?_⟩
  split
  · rename_i e; exact ⟨rfl, by simp, .inr ⟨e, rfl⟩⟩
  · rename_i e; exact ⟨rfl, rfl, .inl ⟨e, rfl⟩⟩
theorem setC_has {S : Hs} {k : Int} {i : Nat} {n j : Int} : hasN (setC S k i n) j = hasN S j := by
  induction S with
  | nil => rfl
  | cons x S ih =>
    show (List.any (_ :: setC S k i n) _) = _
    rw [List.any_cons]
    have ih' : List.any (setC S k i n) (fun o => o.nm == j) = hasN S j := ih
    rw [ih']
    show _ = (x.nm == j || hasN S j)
    dsimp only
    split <;> rfl
theorem setC_used (S : Hs) (k : Int) (i : Nat) (n : Int) : used (setC S k i n) = used S := by
  induction S with
  | nil => rfl
  | cons x S ih =>
    show used (_ :: setC S k i n) = _
    rw [used_cons, used_cons, ih]
    dsimp only
    split <;> simp
theorem mem_modify {l : List (Int × Bool)} {i : Nat} {n : Int} {c : Int × Bool} (h : c ∈ l.modify i fun c => (n, c.2)) : c ∈ l ∨ ∃ d, l[i]? = some d ∧ c = (n, d.2) := by
  obtain ⟨j, hj⟩ := List.mem_iff_getElem?.1 h
  rw [List.getElem?_modify] at hj
  split at hj
  · rename_i e; subst e
    obtain ⟨d, hd, rfl⟩ := Option.map_eq_some_iff.1 hj
    exact .inr ⟨d, hd, rfl⟩
  · left
    have hj' : l[j]? = some c := by cases h2 : l[j]? <;> simp [h2] at hj ⊢; exact hj
    exact List.mem_of_getElem? hj'
theorem Ok.setC {S : Hs} {bud : Nat} (h : Ok S bud) {k : Int} {i : Nat} {n : Int} (hn : 0 ≤ n ∧ n ≤ 18446744073709551615) (hr : ∀ o ∈ S, o.nm = k → ∀ d, o.cs[i]? = some d → d.2 = true → n = 0 ∨ hasN S n = true) : Ok (setC S k i n) bud := by
  refine ⟨?_, fun o ho => ?_, fun o ho c hc => ?_, fun o ho c hc hr2 => ?_, by rw [setC_used]; exact h.fit, h.bud⟩
  · unfold Go.Proofs.Ytkaeigklhdpifaa.setC
    rw [List.pairwise_map]
    exact h.up.imp (fun {a b} hab => by split <;> split <;> exact hab)
  · obtain ⟨x, hx, e, _⟩ := setC_mem ho
    rw [e]; exact h.pos x hx
  · obtain ⟨x, hx, _, _, (⟨_, rfl⟩ | ⟨_, e⟩)⟩ := setC_mem ho
    · exact h.wd _ hx c hc
    · rw [e] at hc
      rcases mem_modify hc with h1 | ⟨d, _, rfl⟩
      · exact h.wd x hx c h1
      · exact hn
  · rw [setC_has]
    obtain ⟨x, hx, _, _, (⟨_, rfl⟩ | ⟨e0, e⟩)⟩ := setC_mem ho
    · exact h.ref _ hx c hc hr2
    · rw [e] at hc
      rcases mem_modify hc with h1 | ⟨d, h1, rfl⟩
      · exact h.ref x hx c h1 hr2
      · exact hr x hx e0 d h1 hr2
/-! ### what the calls answer -/
def cellP (S : Hs) (o i : Int) : Int × Bool × Int :=
  match getN S o with
  | none => (0, false, 15)
  | some b => if 0 ≤ i then (match b.cs[i.toNat]? with | some c => (c.1, c.2, 0) | none => (0, false, 16)) else (0, false, 16)
def putP (S : Hs) (o i n : Int) : Hs × Int :=
  match cellP S o i with
  | (_, r, 0) => if r = true ∧ n ≠ 0 ∧ hasN S n = false then (S, 15) else (setC S o i.toNat n, 0)
  | (_, _, e) => (S, e)
noncomputable def colP (S : Hs) (roots : List Int) : Hs × Int × Int := if knownR S roots then (col S roots, (S.length : Int) - (col S roots).length, 0) else (S, 0, 15)
noncomputable def reachP (S : Hs) (roots : List Int) : List Int × Int := if knownR S roots then (rl S roots, 0) else ([], 15)
noncomputable def made (bud : Nat) (S : Hs) (n : Nat) (roots : List Int) : Hs := if used S + 1 + n ≤ bud then S else col S roots
noncomputable def allocP (bud : Nat) (S : Hs) (refs : List Bool) (roots : List Int) : Hs × Int × Int :=
  if 262146 < refs.length then (S, 0, 2)
  else if knownR S roots = false then (S, 0, 15)
  else if used (made bud S refs.length roots) + 1 + refs.length ≤ bud then (ins (made bud S refs.length roots) refs, (pre (made bud S refs.length roots) 0 : Int) + 1, 0)
  else (made bud S refs.length roots, 0, 20)
theorem Ok.made {S : Hs} {bud : Nat} (h : Ok S bud) (n : Nat) (roots : List Int) : Ok (made bud S n roots) bud := by
  unfold Go.Proofs.Ytkaeigklhdpifaa.made; split
  · exact h
  · exact h.col roots
theorem Ok.colP {S : Hs} {bud : Nat} (h : Ok S bud) (roots : List Int) : Ok (colP S roots).1 bud := by
  unfold Go.Proofs.Ytkaeigklhdpifaa.colP; split
  · exact h.col roots
  · exact h
theorem Ok.allocP {S : Hs} {bud : Nat} (h : Ok S bud) (refs : List Bool) (roots : List Int) : Ok (allocP bud S refs roots).1 bud := by
  unfold Go.Proofs.Ytkaeigklhdpifaa.allocP
  split
  · exact h
  · split
    · exact h
    · split
      · rename_i hf; exact (h.made _ _).ins refs hf
      · exact h.made _ _
theorem cellP_ok {S : Hs} {o i : Int} {c : Int × Bool × Int} (h : cellP S o i = c) (hc : c.2.2 = 0) : ∃ b d, getN S o = some b ∧ 0 ≤ i ∧ b.cs[i.toNat]? = some d ∧ c = (d.1, d.2, 0) := by
  unfold cellP at h
  split at h
  · subst h; simp at hc
  · rename_i b hb
    split at h
    · rename_i hi
      split at h
      · rename_i d hd
        exact ⟨b, d, hb, hi, hd, h.symm⟩
      · subst h; simp at hc
    · subst h; simp at hc
theorem Ok.putP {S : Hs} {bud : Nat} (h : Ok S bud) (o i : Int) {n : Int} (hn : 0 ≤ n ∧ n ≤ 18446744073709551615) : Ok (putP S o i n).1 bud := by
  unfold Go.Proofs.Ytkaeigklhdpifaa.putP
  split
  · rename_i v r hc
    obtain ⟨b, d, h1, h2, h3, h4⟩ := cellP_ok hc rfl
    simp only [Prod.mk.injEq] at h4
    obtain ⟨rfl, rfl, _⟩ := h4
    split
    · exact h
    · rename_i hcond
      refine h.setC hn (fun o' ho' e d' hd' hr => ?_)
      obtain ⟨h5, h6⟩ := getN_some h1
      have := h.uniq ho' h5 (e.trans h6.symm)
      subst this
      rw [h3] at hd'; cases hd'
      by_cases h0 : n = 0
      · exact .inl h0
      · right
        cases hh : hasN S n with
        | true => rfl
        | false => exact absurd ⟨hr, h0, hh⟩ hcond
  · exact h
end Go.Proofs.Ytkaeigklhdpifaa
