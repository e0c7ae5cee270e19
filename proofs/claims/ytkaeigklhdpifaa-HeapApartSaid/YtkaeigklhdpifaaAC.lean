/- A copy. Condition: the heap lies in memory. -/
import Derived.Test.YtkaeigklhdpifaaA9
namespace Go.Proofs.Ytkaeigklhdpifaa
open Go.RowKit Go.Maps Go.Sort
set_option linter.unusedVariables false
set_option linter.unusedSimpArgs false
/-- As many keys as names. -/
theorem size_of_keys {H : Type} {R : Value → Option (DataW H × List MemPlace)} {w : World} {b : Nat} {D : DataW H} (h : OM R w b D) {l : List Int} (hl : l.Nodup) (hm : ∀ k : Int, Maps.has D (.int .i64 k) = true ↔ k ∈ l) : Maps.size D = l.length := by
  obtain ⟨es, hD, hpw, _⟩ := World.ownsMap.entries h KI
  obtain ⟨es', hD', hko⟩ := World.ownsMap.keysOf h
  obtain rfl : es = es' := by rw [hD] at hD'; simpa using hD'
  subst hD
  have hp : l.Perm (intKeys (DataW.map es)) := perm_intKeys hpw (fun p hp => by obtain ⟨v, hv⟩ := hko p hp; obtain ⟨x, _, hx, _⟩ := Maps.keyOf_i64 Try.underlying3 hv; exact ⟨x, hx⟩) hl (fun x => (hm x).symm)
  have := hp.length_eq
  simpa [intKeys, Maps.size] using this.symm
def doneF (S : Hs) (left : Lit → Bool) : Hs := S.filter fun o => !left (.int .i64 o.nm)
theorem done_start {S : Hs} {left : Lit → Bool} (h : ∀ o ∈ S, left (.int .i64 o.nm) = true) : doneF S left = [] := by
  unfold doneF
  rw [List.filter_eq_nil_iff]
  intro o ho
  rw [h o ho]; simp
theorem done_end {S : Hs} {left : Lit → Bool} (h : ∀ kl, left kl = false) : doneF S left = S := by
  unfold doneF
  rw [List.filter_eq_self]
  intro o ho
  rw [h]; rfl
theorem done_mem {S : Hs} {left : Lit → Bool} {x : Int} {o : Ob} : o ∈ doneF S (fun z => left z && !z.sameKey (.int .i64 x)) ↔ o ∈ doneF S left ∨ (o ∈ S ∧ o.nm = x) := by
  unfold doneF
  rw [List.mem_filter, List.mem_filter]
  dsimp only
  rw [sameI]
  by_cases e : o.nm = x
  · subst e; simp; exact fun h _ => h
  · have : (o.nm == x) = false := by simpa using e
    rw [this]; simp [e]
theorem done_has {S : Hs} {left : Lit → Bool} {x k : Int} : hasN (doneF S (fun z => left z && !z.sameKey (.int .i64 x))) k = (hasN (doneF S left) k || (hasN S k && k == x)) := by
  rw [Bool.eq_iff_iff, Bool.or_eq_true, Bool.and_eq_true, hasN_iff, hasN_iff, hasN_iff]
  constructor
  · rintro ⟨o, ho, rfl⟩
    rcases done_mem.1 ho with h | ⟨h, e⟩
    · exact .inl ⟨o, h, rfl⟩
    · exact .inr ⟨⟨o, h, rfl⟩, by simpa using e⟩
  · rintro (⟨o, ho, rfl⟩ | ⟨⟨o, ho, rfl⟩, h⟩)
    · exact ⟨o, done_mem.2 (.inl ho), rfl⟩
    · exact ⟨o, done_mem.2 (.inr ⟨ho, by simpa using h⟩), rfl⟩
/-- The blocks from n on. -/
def Blk (n m : Nat) : Nat → Prop := fun k => n ≤ k ∧ k < m
structure CW (w wr : World) (p mn bud : Nat) (tk : Int) (S : Hs) (left : Lit → Bool) : Prop where
  mp : ∃ D F, OM RS wr mn D ∧ MapIs D F ∧ HO wr (Blk w.heap.size wr.heap.size) p mn (doneF S left) F
  box : wr.heap[p]? = some (.cells #[.int .i64 (bud : Int), .int .i64 (used S : Int), .int .i64 tk, .map (some mn)] 71 (0, 0))
  kp : Kp w wr
  hp : w.heap.size ≤ p
  hm : w.heap.size ≤ mn
  ne : mn ≠ p
theorem Blk.mono {n m m' : Nat} (h : m ≤ m') : ∀ k, Blk n m k → Blk n m' k := fun k hk => ⟨hk.1, Nat.lt_of_lt_of_le hk.2 h⟩
theorem HO.mono {w : World} {N N' : Nat → Prop} {p mb : Nat} {S : Hs} {F : Int → Option Value} (h : HO w N p mb S F) (hN : ∀ k, N k → N' k) : HO w N' p mb S F := ⟨h.dom, h.ob, fun k v g a b => ⟨hN _ (h.inN k v g a b).1, (h.inN k v g a b).2⟩, h.ap⟩
theorem CW.keep {w wr w' : World} {p mn bud : Nat} {tk : Int} {S : Hs} {left : Lit → Bool} (h : CW w wr p mn bud tk S left) (hk : Kp wr w') : CW w w' p mn bud tk S left := by
  obtain ⟨D, F, h1, h2, h3⟩ := h.mp
  exact ⟨⟨D, F, h1.turn (hk.blk (h1.obj |>.elim fun es h => h.elim fun c h => row_lt h)), h2, (h3.turn (fun g hg _ _ => hk.blk hg.2)).mono (Blk.mono hk.sz)⟩, row_keep hk h.box, h.kp.trans hk, h.hp, h.hm, h.ne⟩
/-- One object more is copied. -/
theorem CW.add {w w5 w6 : World} {p mn bud : Nat} {tk : Int} {S : Hs} {left : Lit → Bool} {D : DV} {F : Int → Option Value} {x : Int} {o : Ob} {u : Value} {z : Nat} (ok : Ok S bud) (ho : o ∈ S) (hox : o.nm = x) (hz : z ≤ w5.heap.size) (hwz : w.heap.size ≤ z)
    (h1 : OM RS w6 mn (D.put (.int .i64 x) (.held u))) (h2 : MapIs D F) (h3 : HO w5 (Blk w.heap.size z) p mn (doneF S left) F) (hnew : hasN (doneF S left) x = false)
    (hb : w5.heap[p]? = some (.cells #[.int .i64 (bud : Int), .int .i64 (used S : Int), .int .i64 tk, .map (some mn)] 71 (0, 0))) (hk : Kp w w5) (hp : w.heap.size ≤ p) (hm : w.heap.size ≤ mn) (hne : mn ≠ p) (hpz : p < z) (hmz : mn < z)
    (hu : CV w5 o.cs u) (hub : ∀ g, u.ownBlock = some g → z ≤ g ∧ g < w5.heap.size) (hg : w5.grownBy w6 (some mn)) : CW w w6 p mn bud tk S (fun z => left z && !z.sameKey (.int .i64 x)) := by
  have hFn : F x = none := by
    have := h3.dom x
    rw [hnew] at this
    cases hF : F x with
    | none => rfl
    | some v => rw [hF] at this; cases this
  have hW : ∀ k, k < w5.heap.size → k ≠ mn → w6.heap[k]? = w5.heap[k]? := fun k hk a => hg.block k hk (fun e => a (by simpa using e))
  have hs6 := hg.size
  refine ⟨⟨_, _, h1, h2.put x u, fun k => ?_, fun y hy => ?_, fun k v g hk hgv => ?_, fun j k a b g hjk hj hk hga => ?_⟩, (hW p (by omega) (Ne.symm hne)).trans hb, hk.grown hg (fun k e => by cases e; exact hm), hp, hm, hne⟩
  · rw [done_has, ← h3.dom]
    by_cases e : k = x
    · subst e
      have : hasN S k = true := hasN_iff.2 ⟨o, ho, hox⟩
      rw [this]; simp
    · rw [if_neg e]
      have : (k == x) = false := by simpa using e
      rw [this]; simp
  · rcases done_mem.1 hy with hy | ⟨hy, e⟩
    · obtain ⟨v, hv1, hv2⟩ := h3.ob y hy
      have hyx : y.nm ≠ x := hasN_false.1 hnew y hy
      refine ⟨v, by rw [if_neg hyx]; exact hv1, hv2.turn (fun g hgv => ?_)⟩
      obtain ⟨a, b, c⟩ := h3.inN _ _ g hv1 hgv
      exact hW g (by have := a.2; omega) c
    · obtain rfl := ok.uniq hy ho (e.trans hox.symm)
      exact ⟨u, by rw [if_pos e], hu.turn (fun g hgv => hW g (hub g hgv).2 (fun e => by have := (hub g hgv).1; omega))⟩
  · split at hk
    · cases hk
      have := hub g hgv
      exact ⟨⟨by omega, by omega⟩, by omega, by omega⟩
    · obtain ⟨a, b, c⟩ := h3.inN k v g hk hgv
      exact ⟨⟨a.1, by have := a.2; omega⟩, b, c⟩
  · split at hj
    · cases hj
      split at hk
      · rename_i e1 e2; exact absurd (e1.trans e2.symm) hjk
      · intro hgb
        have := (h3.inN k b g hk hgb).1.2
        have := (hub g hga).1
        omega
    · split at hk
      · cases hk
        intro hgb
        have := (h3.inN j a g hj hga).1.2
        have := (hub g hgb).1
        omega
      · exact h3.ap j k a b g hjk hj hk hga
theorem CV.cells {w : World} {l : List (Int × Bool)} {g n c : Nat} (h : CV w l (.slice (some ⟨g, 0, none⟩) n c)) : ∀ j u, (cellsV l)[j]? = some u → w.cell? ⟨g, 0 + j, none⟩ = some u := by
  obtain ⟨hl, ⟨h0, _⟩ | ⟨gb, cap, cur, hv, hB, hb, h1, h2, h3, h4⟩⟩ := h
  · cases h0
  · intro j u hj
    obtain rfl : g = gb := by have := (Value.slice.inj hv).1; simpa using this
    rw [Nat.zero_add, cell_of_row w g _ cur _ (0, 0) hb, ← Array.getElem?_toList]
    have hjl : j < l.length * 2 := by rw [← cellsV_len]; exact (List.getElem?_eq_some_iff.1 hj).1
    rw [← h4, List.getElem?_take_of_lt hjl] at hj
    exact hj
end Go.Proofs.Ytkaeigklhdpifaa
