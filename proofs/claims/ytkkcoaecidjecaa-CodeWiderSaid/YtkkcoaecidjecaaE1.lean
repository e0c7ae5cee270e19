/- A map by keys of any kind that can be read: what it holds is a plain function of values. No condition; no program is walked here. -/
import Derived.Test.YtkkcoaecidjecaaT0
import Derived.Maps.OwnSet
import Derived.WideKeyEntry
import Derived.WideKeyArr
namespace Go.Proofs.Ytkkcoaecidjecaa
open Go.RowKit
open Go.Maps (Keyed)
open Go.WideMaps Go.WideShapes Go.ChangeMaps
set_option linter.unusedVariables false
set_option linter.unusedSimpArgs false

/-- An element reads as itself. -/
def hR (v : Value) : Option (DataW Value × List MemPlace) := some (.held v, [])
/-- Block b is a map of at most n entries that holds f. -/
def MapV (w : World) (P : Program) (k : TypeId) (b n : Nat) (f : Value → Option Value) : Prop :=
  ∃ D : DataW Value, w.ownsMap P k hR b n D ∧ ∀ s l, keyOf P k s = some l → ∀ z, D.atKey l z = ((f s).map DataW.held).getD z
section
variable {P : Program} {k : TypeId} {b n : Nat} {f : Value → Option Value}
theorem MapV.lt {w : World} (h : MapV w P k b n f) : b < w.heap.size := by
  obtain ⟨D, h1, h2⟩ := h
  exact h1.lt
theorem MapV.blk {w w' : World} (h : MapV w P k b n f) (hb : w'.heap[b]? = w.heap[b]?) : MapV w' P k b n f := by
  obtain ⟨D, ⟨es, clock, h1, r⟩, h2⟩ := h
  exact ⟨D, ⟨es, clock, hb.trans h1, r⟩, h2⟩
theorem MapV.keep {w w' : World} (h : MapV w P k b n f) (hk : Kp w w') : MapV w' P k b n f := h.blk (hk.blk h.lt)
theorem MapV.mono {w : World} {n' : Nat} (h : MapV w P k b n f) (hn : n ≤ n') : MapV w P k b n' f := by
  obtain ⟨D, h1, h2⟩ := h
  exact ⟨D, h1.mono hn, h2⟩
theorem MapV.grown {w w' : World} {row : Option Nat} (h : MapV w P k b n f) (hg : w.grownBy w' row) (hr : some b ≠ row) : MapV w' P k b n f := h.blk (hg.block b h.lt hr)
theorem mapV_made (w : World) (P : Program) (k : TypeId) : MapV (w.alloc (.map #[] 0)) P k w.heap.size 0 (fun _ => none) :=
  ⟨.map [], World.ownsMap_made w P k hR, fun s l _ z => rfl⟩
/-- f with s standing for u. -/
noncomputable def vput (f : Value → Option Value) (s u : Value) (y : Value) : Option Value := open Classical in if y = s then some u else f y
theorem vput_same (f : Value → Option Value) (s u : Value) : vput f s u s = some u := if_pos rfl
theorem vput_other (f : Value → Option Value) {s y : Value} (u : Value) (h : y ≠ s) : vput f s u y = f y := if_neg h
theorem vput_get {f : Value → Option Value} {s u z : Value} (h : f s = some u) : vput f s u = f := by
  funext y
  by_cases e : y = s
  · rw [e, vput_same, h]
  · exact vput_other f u e
theorem mapV_look {w : World} {t e : TypeId} (h : MapV w P k b n f) (K : Keyed P k) (ht : P.underlying t = some (.map k e)) {z : Value} (hz : (zeroValue e).run P w = .ok z w) {s : Value} {l : Lit} (key : keyOf P k s = some l) :
    (Instr.lookup t (.map (some b)) s true).run P w = .ok (.tuple #[(f s).getD z, .bool (f s).isSome]) w ∧ (Instr.lookup t (.map (some b)) s false).run P w = .ok ((f s).getD z) w := by
  obtain ⟨D, h1, h2⟩ := h
  have hv : ∀ v ps, hR v = some (D.atKey l (.held z), ps) → v = (f s).getD z := by
    intro v ps hv
    rw [h2 s l key] at hv
    simp only [hR, Option.some.injEq, Prod.mk.injEq] at hv
    have := hv.1
    cases hf : f s with
    | none => rw [hf] at this; simpa using this
    | some u => rw [hf] at this; simpa using this
  have hh : Maps.has D l = (f s).isSome := by
    cases hf : f s with
    | none => exact Maps.has_false_of_atKey fun z => by rw [h2 s l key, hf]; rfl
    | some u => exact Maps.has_true_of_atKey (y := .held u) fun z => by rw [h2 s l key, hf]; rfl
  constructor
  · obtain ⟨v, ps, hrun, hR'⟩ := h1.look_ok K ht hz (show hR z = some (.held z, []) from rfl) key
    rw [hrun, hv v ps hR', hh]
  · obtain ⟨v, ps, hrun, hR'⟩ := h1.lookup K ht hz (show hR z = some (.held z, []) from rfl) key
    rw [hrun, hv v ps hR']
theorem mapV_put {D : DataW Value} (K : Keyed P k) {s u : Value} {l : Lit} (key : keyOf P k s = some l) 
    (h : ∀ z, (D.put l (.held u)).atKey l z = .held u) (ho : ∀ y ly, keyOf P k y = some ly → ly ≠ l → ∀ z, (D.put l (.held u)).atKey ly z = D.atKey ly z)
    (h2 : ∀ s l, keyOf P k s = some l → ∀ z, D.atKey l z = ((f s).map DataW.held).getD z) :
    ∀ y ly, keyOf P k y = some ly → ∀ z, (D.put l (.held u)).atKey ly z = ((vput f s u y).map DataW.held).getD z := by
  intro y ly hy z
  by_cases e : y = s
  · subst e
    have : ly = l := Option.some.inj (hy.symm.trans key)
    subst this
    rw [vput_same, h z]
    rfl
  · rw [vput_other f u e, ← h2 y ly hy z]
    refine ho y ly hy (fun e2 => e ?_) z
    subst e2
    exact K.inj hy key
theorem mapV_update {w : World} {t e : TypeId} (h : MapV w P k b n f) (K : Keyed P k) (ht : P.underlying t = some (.map k e)) (hn : n < maxLen) {s u : Value} {l : Lit} (key : keyOf P k s = some l) :
    ∃ w', (Instr.mapUpdate t (.map (some b)) s u).run P w = .ok () w' ∧ MapV w' P k b (n + 1) (vput f s u) ∧ w.grownBy w' (some b) := by
  obtain ⟨D, h1, h2⟩ := h
  obtain ⟨w', hr, ho, hg⟩ := h1.update K ht hn (key := s) (val := u) key (show hR u = some (.held u, []) from rfl)
  exact ⟨w', hr, ⟨_, ho, mapV_put K key (fun z => Maps.atKey_put_same h1.isMap (K.key key) _ z) (fun y ly hy hne z => Maps.atKey_put_other hne _ z) h2⟩, hg⟩
theorem grown_setBlock {w : World} {b : Nat} {es : Array MapEntry} {clock : Nat} (hb : w.heap[b]? = some (.map es clock)) (o : Obj) : w.grownBy (setBlock w b o) (some b) :=
  ⟨rfl, rfl, rfl, by simp [setBlock], fun i _ hi => heap_setBlock_other hb _ (fun e => hi (by rw [e]))⟩
/-- The place of an entry is found: what is there of the map is as if it was written with what it held, or nothing. -/
theorem mapV_entry {w : World} {t e : TypeId} (h : MapV w P k b n f) (L : KeyLaw P k) (ht : P.underlying t = some (.map k e)) {z : Value} (hz : ∀ w, (zeroValue e).run P w = .ok z w) (hn : n < maxLen) {s : Value} {l : Lit} (key : keyOf P k s = some l) :
    ∃ v0 st w' es1 clock1, (Instr.mapEntry t (.map (some b)) s).run P w = .ok (.tuple #[v0, goInt (st : Nat)]) w' ∧ w.grownBy w' (some b) ∧ MapV w' P k b (n + 1) (vput f s ((f s).getD z)) ∧
      w'.heap[b]? = some (.map es1 clock1) ∧ ∀ (w2 : World) (val : Value), w2.heap[b]? = some (.map es1 clock1) →
        ∃ w3, (Instr.entryStore t (.map (some b)) (goInt st) val).run P w2 = .ok () w3 ∧ MapV w3 P k b (n + 1) (vput f s val) ∧ w2.grownBy w3 (some b) := by
  have K := Keyed.of_law L
  have h0 := h
  obtain ⟨D, h1, h2⟩ := h
  obtain ⟨es, clock, hb, F, hsz, hD⟩ := id h1
  obtain ⟨v0, st, es1, clock1, hrun, _, hst⟩ := WideElems.entry_then_store L ht hz hb F key
  refine ⟨v0, st, _, es1, clock1, hrun, grown_setBlock hb _, ?_, heap_setBlock_same hb _, fun w2 val hw2 => ?_⟩
  · rcases K.find w key es.toList F.keys with ⟨g1, g2⟩ | ⟨j, e0, g1, g2, g3⟩
    · have hno : f s = none := by
        have q := (mapV_look h0 K ht (hz w) key).1
        have q2 : (Instr.lookup t (.map (some b)) s true).run P w = .ok (.tuple #[z, .bool false]) w := by
          simp [Instr.lookup, run_underlying ht, MapKept.run_getObj_map hb, K.check w _ key, g1, hz, Result.andThen]
        rw [q2] at q
        cases hf : f s with
        | none => rfl
        | some u => rw [hf] at q; simp at q
      have e1 : (Instr.mapEntry t (.map (some b)) s).run P w = .ok (.tuple #[z, goInt clock]) (setBlock w b (.map (es.push ⟨s, z, clock⟩) (clock + 1))) := by
        simp [Instr.mapEntry, run_underlying ht, MapKept.run_getObj_map hb, K.check w false key, g1, hz, MapKept.run_setObj_map _ hb, Result.andThen, setBlock]
      have e2 : (Instr.mapUpdate t (.map (some b)) s z).run P w = .ok () (setBlock w b (.map (es.push ⟨s, z, clock⟩) (clock + 1))) := by
        simp [Instr.mapUpdate, run_underlying ht, MapKept.run_getObj_map hb, K.check w false key, g1, MapKept.run_setObj_map _ hb, Result.andThen, setBlock]
      obtain ⟨w', hr, hm, _⟩ := mapV_update (u := z) h0 K ht hn key
      rw [e2] at hr
      rw [hrun] at e1
      have hw1 : setBlock w b (.map es1 clock1) = setBlock w b (.map (es.push ⟨s, z, clock⟩) (clock + 1)) := by injection e1
      have hw2 : setBlock w b (.map (es.push ⟨s, z, clock⟩) (clock + 1)) = w' := by injection hr
      rw [hno, hw1, hw2]
      exact hm
    · have hj : es[j]? = some e0 := by simpa using g2
      have hsame : es.modify j (fun e => { e with key := s }) = es := by
        apply Array.ext'
        rw [Array.toList_modify, modify_eq_set _ _ _ _ g2]
        have : ({ e0 with key := s } : MapEntry) = e0 := by rw [← g3]
        rw [this]
        exact WideElems.set_self _ _ _ g2
      have e1 : (Instr.mapEntry t (.map (some b)) s).run P w = .ok (.tuple #[e0.val, goInt e0.born]) (setBlock w b (.map es clock)) := by
        simp [Instr.mapEntry, run_underlying ht, MapKept.run_getObj_map hb, K.check w false key, g1, hj, g3, K.stays w key, hsame, MapKept.run_setObj_map _ hb, Result.andThen, setBlock]
      have hin : f s = some e0.val := by
        have q := (mapV_look h0 K ht (hz w) key).1
        have q2 : (Instr.lookup t (.map (some b)) s true).run P w = .ok (.tuple #[e0.val, .bool true]) w := by
          simp [Instr.lookup, run_underlying ht, MapKept.run_getObj_map hb, K.check w _ key, g1, Result.andThen]
        rw [q2] at q
        cases hf : f s with
        | none => rw [hf] at q; simp at q
        | some u => rw [hf] at q; simp at q; rw [q]
      rw [hrun] at e1
      have hw1 : setBlock w b (.map es1 clock1) = setBlock w b (.map es clock) := by injection e1
      rw [hin, hw1]
      show MapV _ P k b (n + 1) (vput f s e0.val)
      rw [vput_get (z := z) hin]
      exact (h0.blk ((heap_setBlock_same hb _).trans hb.symm)).mono (Nat.le_succ n)
  · obtain ⟨es', clock', hr1, hr2⟩ := hst w2 val hw2
    refine ⟨_, hr1, ?_, grown_setBlock hw2 _⟩
    obtain ⟨w3, hr3, hm, _⟩ := mapV_update (u := val) h0 K ht hn key
    rw [hr2] at hr3
    have hw3 : setBlock w b (.map es' clock') = w3 := by injection hr3
    rw [← hw3] at hm
    exact hm.blk ((heap_setBlock_same hw2 _).trans (heap_setBlock_same hb _).symm)
end
/-- What an array of numbers reads as, for a key. -/
theorem keyOf_arr {P : Program} {k e : TypeId} {q : IntKind} {n : Nat} (A : ArrKey P k e n) (he : P.underlying e = some (.int q)) (hsz : ∃ m, P.types.size = m + 1) (xs : List Int) (hx : xs.length = n) (wf : ∀ x ∈ xs, (Lit.int q x).wf = true) :
    ∃ l, keyOf P k (.agg (xs.map (Value.int q)).toArray) = some l := by
  have hkt := A.keyType hsz
  obtain ⟨m, hm⟩ := hsz
  unfold keyOf
  simp only [A.hu]
  rw [if_pos (by simp [hkt, Value.formed, A.hu, A.size, hx]), hm]
  unfold Program.keyLits
  simp only [A.hu, Value.cells]
  rw [if_pos (by simp [A.size, hx])]
  have hall : ∀ i ∈ List.range n, P.keyLits (m + 1) e (((xs.map (Value.int q)).toArray.toList.drop (i * P.cellsOf e)).take (P.cellsOf e)) = some [.int q (xs.getD i 0)] := by
    intro i hi
    have hi' : i < xs.length := by rw [hx]; exact List.mem_range.1 hi
    rw [A.one, Nat.mul_one]
    have e1 : ((xs.map (Value.int q)).toArray.toList.drop i).take 1 = [.int q (xs.getD i 0)] := by
      show ((xs.map (Value.int q)).drop i).take 1 = _
      rw [← List.map_drop, List.drop_eq_getElem_cons hi', List.map_cons]
      simp [hi']
    rw [e1]
    have hw : (Lit.int q (xs.getD i 0)).wf = true := wf _ (by simp [hi'])
    unfold Program.keyLits
    rw [he]
    simp only [hw, and_self, if_true]
  have key : ∀ (r : List Nat), (∀ i ∈ r, P.keyLits (m + 1) e (((xs.map (Value.int q)).toArray.toList.drop (i * P.cellsOf e)).take (P.cellsOf e)) = some [.int q (xs.getD i 0)]) →
      ∃ ys, (r.mapM fun i => P.keyLits (m + 1) e (((xs.map (Value.int q)).toArray.toList.drop (i * P.cellsOf e)).take (P.cellsOf e))) = some ys := by
    intro r
    induction r with
    | nil => intro _; exact ⟨[], rfl⟩
    | cons i r ih =>
      intro h
      obtain ⟨ys, hy⟩ := ih (fun j hj => h j (List.mem_cons_of_mem _ hj))
      rw [List.mapM_cons, h i (List.mem_cons_self ..)]
      exact ⟨_ :: ys, by rw [Option.bind_eq_bind, Option.bind_some, hy]; rfl⟩
  obtain ⟨ys, hy⟩ := key _ hall
  exact ⟨.string (keyBytes ys.flatten), by rw [hy]; rfl⟩
end Go.Proofs.Ytkkcoaecidjecaa
