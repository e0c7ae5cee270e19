/- The place of an entry is found in a map by texts, and the entry is written later: 'm[k], .. = v, ..'. No condition; no program is walked here. -/
import Derived.Test.YtfjflfokmihcpaaT5
import Derived.WideKeyEntry
import Derived.Deep.RegionHeld3
namespace Go.Proofs.Ytfjflfokmihcpaa
open Go.RowKit
open Go.Maps (Keyed)
open Go.WideMaps Go.WideShapes Go.ChangeMaps
set_option linter.unusedVariables false
set_option linter.unusedSimpArgs false

/-- Between what finds an entry's place and what writes it. -/
def MapMid (w : World) (P : Program) (t k : TypeId) (b n : Nat) (f : ByteArray → Option Value) (s : ByteArray) (st : Nat) : Prop :=
  ∃ es1 clock1, w.heap[b]? = some (.map es1 clock1) ∧ ∀ (w2 : World) (val : Value), w2.heap[b]? = some (.map es1 clock1) →
    ∃ w', (Instr.entryStore t (.map (some b)) (goInt st) val).run P w2 = .ok () w' ∧ MapIs w' P k b (n + 1) (fput f s val) ∧ w2.grownBy w' (some b)
theorem MapMid.lt {w : World} {P : Program} {t k : TypeId} {b n : Nat} {f : ByteArray → Option Value} {s : ByteArray} {st : Nat} (h : MapMid w P t k b n f s st) : b < w.heap.size := by
  obtain ⟨_, _, h, _⟩ := h
  exact (Array.getElem?_eq_some_iff.1 h).1
theorem MapMid.blk {w w' : World} {P : Program} {t k : TypeId} {b n : Nat} {f : ByteArray → Option Value} {s : ByteArray} {st : Nat} (h : MapMid w P t k b n f s st) (hb : w'.heap[b]? = w.heap[b]?) : MapMid w' P t k b n f s st := by
  obtain ⟨es1, clock1, h1, h2⟩ := h
  exact ⟨es1, clock1, hb.trans h1, h2⟩
theorem MapIs.blk {w w' : World} {P : Program} {k : TypeId} {b n : Nat} {f : ByteArray → Option Value} (h : MapIs w P k b n f) (hb : w'.heap[b]? = w.heap[b]?) : MapIs w' P k b n f := by
  obtain ⟨D, ⟨es, clock, h1, r⟩, h2⟩ := h
  exact ⟨D, ⟨es, clock, hb.trans h1, r⟩, h2⟩
theorem MapIs.lt {w : World} {P : Program} {k : TypeId} {b n : Nat} {f : ByteArray → Option Value} (h : MapIs w P k b n f) : b < w.heap.size := by
  obtain ⟨D, h1, h2⟩ := h
  exact h1.lt
theorem grown_setBlock {w : World} {b : Nat} {es : Array MapEntry} {clock : Nat} (hb : w.heap[b]? = some (.map es clock)) (o : Obj) : w.grownBy (setBlock w b o) (some b) :=
  ⟨rfl, rfl, rfl, by simp [setBlock], fun i _ hi => heap_setBlock_other hb _ (fun e => hi (by rw [e]))⟩
theorem mapIs_entry {P : Program} {w : World} {t e k : TypeId} {b n : Nat} {f : ByteArray → Option Value} (h : MapIs w P k b n f) (hk : P.underlying k = some .string) (ht : P.underlying t = some (.map k e)) {z : Value} (hz : ∀ w, (zeroValue e).run P w = .ok z w)
    (hn : n < maxLen) {s : ByteArray} (hs : s.size ≤ maxLen) :
    ∃ v0 st w', (Instr.mapEntry t (.map (some b)) (.string s)).run P w = .ok (.tuple #[v0, goInt (st : Nat)]) w' ∧ MapMid w' P t k b n f s st ∧ w.grownBy w' (some b) := by
  obtain ⟨D, h1, h2⟩ := h
  have key : keyOf P k (.string s) = some (kl s) := keyOf_string_mk hk hs
  have h1' := h1
  obtain ⟨es, clock, hb, F, hsz, hD⟩ := h1
  obtain ⟨v0, st, es1, clock1, hrun, _, hst⟩ := WideElems.entry_then_store (WideMaps.string_law hk) ht hz hb F key
  refine ⟨v0, st, _, hrun, ⟨es1, clock1, heap_setBlock_same hb _, fun w2 val hw2 => ?_⟩, grown_setBlock hb _⟩
  obtain ⟨es', clock', hr1, hr2⟩ := hst w2 val hw2
  refine ⟨_, hr1, ?_, grown_setBlock hw2 _⟩
  obtain ⟨w3, hr3, hown, _⟩ := h1'.update (Maps.string_keyed hk) ht hn key (show hR val = some (.held val, []) from rfl)
  rw [hr2] at hr3
  have hw3 : setBlock w b (.map es' clock') = w3 := by injection hr3
  refine ⟨D.put (kl s) (.held val), ?_, fun y x => ?_⟩
  · obtain ⟨es4, clock4, hb4, r⟩ := hown
    rw [← hw3, heap_setBlock_same hb _] at hb4
    exact ⟨es4, clock4, (heap_setBlock_same hw2 _).trans hb4, r⟩
  · by_cases hy : y = s
    · subst hy
      rw [fput_same, Maps.atKey_put_same h1'.isMap (show WideAt.IsKeyLit (kl y) from trivial)]
      rfl
    · rw [fput_other f val hy, Maps.atKey_put_other (fun e => hy (kl_inj e)), h2]
/-- The place of an entry is found, at a step of a region that draws its order. -/
theorem step_entry {P : Program} {ops : Array Oper} {o : Oper} {a : Act} {w : World} {K : Act → World → Prop} {Q : Exit → Act → World → Prop} {E : Prop} (hgd : o.guard = none) (m x : Operand) (t k e : TypeId) (ho : o.op = .mapEntry t m x)
    (hk : P.underlying k = some .string) (ht : P.underlying t = some (.map k e)) (z : Value) (hz : ∀ w, (zeroValue e).run P w = .ok z w) (b n : Nat) (f : ByteArray → Option Value) (hm : a.eval m = .map (some b)) (h : MapIs w P k b n f) (hn : n < maxLen) (s : ByteArray) (hx : a.eval x = .string s) (hs : s.size ≤ maxLen)
    (hK : ∀ (v0 : Value) (st : Nat) (w' : World), MapMid w' P t k b n f s st → w.grownBy w' (some b) → K (a.put o.dst (.tuple #[v0, .int .i64 (st : Nat)])) w') :
    if Region.wanted o (yielded ops a.tmps) = true then Oper.wp P o a w K Q else E := by
  have hw : Region.wanted o (yielded ops a.tmps) = true := by simp [Region.wanted, hgd]
  rw [if_pos hw]
  obtain ⟨v0, st, w', hrun, h1, h2⟩ := mapIs_entry h hk ht hz hn hs
  unfold Oper.wp
  simp [execOp, ho, hm, hx, hrun, Result.andThen]
  exact hK v0 st w' h1 h2
/-- The entry is written. -/
theorem step_entryStore {P : Program} {ops : Array Oper} {o : Oper} {a : Act} {w : World} {K : Act → World → Prop} {Q : Exit → Act → World → Prop} {E : Prop} (hgd : o.guard = none) (m x v : Operand) (t k : TypeId) (ho : o.op = .entryStore t m x v)
    (b n : Nat) (f : ByteArray → Option Value) (hm : a.eval m = .map (some b)) (s : ByteArray) (st : Nat) (h : MapMid w P t k b n f s st) (hx : a.eval x = .int .i64 (st : Nat)) (u : Value) (hv : a.eval v = u)
    (hK : ∀ (w' : World), MapIs w' P k b (n + 1) (fput f s u) → w.grownBy w' (some b) → K (a.put o.dst undef) w') :
    if Region.wanted o (yielded ops a.tmps) = true then Oper.wp P o a w K Q else E := by
  have hw : Region.wanted o (yielded ops a.tmps) = true := by simp [Region.wanted, hgd]
  rw [if_pos hw]
  obtain ⟨es1, clock1, hb, hst⟩ := h
  obtain ⟨w', hrun, h1, h2⟩ := hst w u hb
  rw [goInt] at hrun
  unfold Oper.wp
  simp [execOp, ho, hm, hx, hv, hrun, Result.andThen]
  exact hK w' h1 h2
end Go.Proofs.Ytfjflfokmihcpaa
