/- A map by texts, whatever its elements: what it holds is a plain function. No condition; no program is walked here. -/
import Derived.Test.YtgamenimbkafjaaT0
import Derived.Maps.OwnSet
namespace Go.Proofs.Ytgamenimbkafjaa
open Go.RowKit
open Go.Maps (Keyed)
open Go.WideMaps
set_option linter.unusedVariables false

/-- An element reads as itself. -/
def hR (v : Value) : Option (DataW Value × List MemPlace) := some (.held v, [])
/-- What a text's key reads as. -/
def kl (s : ByteArray) : Lit := .string s.data.toList
theorem kl_inj {a b : ByteArray} (h : kl a = kl b) : a = b := by
  obtain ⟨a⟩ := a
  obtain ⟨b⟩ := b
  simp only [kl, Lit.string.injEq] at h
  congr
  exact Array.toList_inj.1 h
/-- Block b is a map of at most n entries that holds f. -/
def MapIs (w : World) (P : Program) (k : TypeId) (b n : Nat) (f : ByteArray → Option Value) : Prop :=
  ∃ D : DataW Value, w.ownsMap P k hR b n D ∧ ∀ s z, D.atKey (kl s) z = ((f s).map DataW.held).getD z
theorem MapIs.keep {w w' : World} {P : Program} {k : TypeId} {b n : Nat} {f : ByteArray → Option Value} (h : MapIs w P k b n f) (hk : Kp w w') : MapIs w' P k b n f := by
  obtain ⟨D, h1, h2⟩ := h
  refine ⟨D, ?_, h2⟩
  have hlt := h1.lt
  obtain ⟨es, clock, hb, r⟩ := h1
  exact ⟨es, clock, (hk.blk hlt).trans hb, r⟩
theorem MapIs.mono {w : World} {P : Program} {k : TypeId} {b n n' : Nat} {f : ByteArray → Option Value} (h : MapIs w P k b n f) (hn : n ≤ n') : MapIs w P k b n' f := by
  obtain ⟨D, h1, h2⟩ := h
  exact ⟨D, h1.mono hn, h2⟩
theorem MapIs.alloc {w : World} {P : Program} {k : TypeId} {b n : Nat} {f : ByteArray → Option Value} (h : MapIs w P k b n f) (o : Obj) : MapIs (w.alloc o) P k b n f := h.keep ((Kp.refl w).alloc o)
/-- Another block is written, or new ones are made. -/
theorem MapIs.grown {w w' : World} {P : Program} {k : TypeId} {b n : Nat} {f : ByteArray → Option Value} {row : Option Nat} (h : MapIs w P k b n f) (hg : w.grownBy w' row) (hr : some b ≠ row) : MapIs w' P k b n f := by
  obtain ⟨D, h1, h2⟩ := h
  exact ⟨D, h1.kept hg hr, h2⟩
theorem mapIs_made (w : World) (P : Program) (k : TypeId) : MapIs (w.alloc (.map #[] 0)) P k w.heap.size 0 (fun _ => none) :=
  ⟨.map [], World.ownsMap_made w P k hR, fun s z => rfl⟩
/-- f with the text s standing for u. -/
def fput (f : ByteArray → Option Value) (s : ByteArray) (u : Value) (y : ByteArray) : Option Value := if y = s then some u else f y
theorem fput_same (f : ByteArray → Option Value) (s : ByteArray) (u : Value) : fput f s u s = some u := if_pos rfl
theorem fput_other (f : ByteArray → Option Value) {s y : ByteArray} (u : Value) (h : y ≠ s) : fput f s u y = f y := if_neg h
section
variable {P : Program} {w : World} {ops : Array Oper} {rest : List Oper} {a : Act} {Q : Exit → Act → World → Prop}
/-- An operation whose guard says yes, or that has none. -/
theorem wpList_wanted {o : Oper} (hw : Region.wanted o (yielded ops a.tmps) = true) (h : ∀ K : Act → World → Prop, (∀ a w, wpList P ops Q rest a w → K a w) → o.wp P a w K Q) : wpList P ops Q (o :: rest) a w :=
  wpList_step fun K hK => by rw [if_pos hw]; exact h K hK
theorem mapIs_look {t e : TypeId} {k : TypeId} {b n : Nat} {f : ByteArray → Option Value} (h : MapIs w P k b n f) (hk : P.underlying k = some .string) (ht : P.underlying t = some (.map k e)) {z : Value} (hz : (zeroValue e).run P w = .ok z w) {s : ByteArray} (hs : s.size ≤ maxLen) :
    (Instr.lookup t (.map (some b)) (.string s) true).run P w = .ok (.tuple #[(f s).getD z, .bool (f s).isSome]) w ∧ (Instr.lookup t (.map (some b)) (.string s) false).run P w = .ok ((f s).getD z) w := by
  obtain ⟨D, h1, h2⟩ := h
  have key : keyOf P k (.string s) = some (kl s) := keyOf_string_mk hk hs
  have hv : ∀ v ps, hR v = some (D.atKey (kl s) (.held z), ps) → v = (f s).getD z := by
    intro v ps hv
    rw [h2] at hv
    simp only [hR, Option.some.injEq, Prod.mk.injEq] at hv
    have := hv.1
    cases hf : f s with
    | none => rw [hf] at this; simpa using this
    | some u => rw [hf] at this; simpa using this
  have hh : Maps.has D (kl s) = (f s).isSome := by
    cases hf : f s with
    | none => exact Maps.has_false_of_atKey fun z => by rw [h2, hf]; rfl
    | some u => exact Maps.has_true_of_atKey (y := .held u) fun z => by rw [h2, hf]; rfl
  constructor
  · obtain ⟨v, ps, hrun, hR'⟩ := h1.look_ok (Maps.string_keyed hk) ht hz (show hR z = some (.held z, []) from rfl) key
    rw [hrun, hv v ps hR', hh]
  · obtain ⟨v, ps, hrun, hR'⟩ := h1.lookup (Maps.string_keyed hk) ht hz (show hR z = some (.held z, []) from rfl) key
    rw [hrun, hv v ps hR']
theorem wpList_map_ok {d : Tmp} {op : Op} {ty : TypeId} {pos : String} {af : Array Edge} (m x : Operand) (t k e : TypeId) (hop : op = Op.lookup t m x true) (hk : P.underlying k = some .string) (ht : P.underlying t = some (.map k e))
    (z : Value) (hz : ∀ w, (zeroValue e).run P w = .ok z w) (b n : Nat) (f : ByteArray → Option Value) (hm : a.eval m = .map (some b)) (h : MapIs w P k b n f) (s : ByteArray) (hx : a.eval x = .string s) (hs : s.size ≤ maxLen) (u : Value) (hu : (f s).getD z = u) (ok : Bool) (hok : (f s).isSome = ok)
    (hK : wpList P ops Q rest (a.put (some d) (.tuple #[u, .bool ok])) w) : wpList P ops Q (⟨some d, op, ty, pos, af, none⟩ :: rest) a w := by
  subst hop
  refine wpList_plain rfl fun K' hK' => ?_
  subst hu
  subst hok
  unfold Oper.wp
  simp [execOp, hm, hx, (mapIs_look h hk ht (hz w) hs).1, Result.andThen]
  exact hK' _ _ hK
theorem wpList_map_get {d : Tmp} {op : Op} {ty : TypeId} {pos : String} {af : Array Edge} {g : Option (Nat × Bool)} (m x : Operand) (t k e : TypeId) (hw : Region.wanted (⟨some d, op, ty, pos, af, g⟩ : Oper) (yielded ops a.tmps) = true) (hop : op = Op.lookup t m x false) (hk : P.underlying k = some .string) (ht : P.underlying t = some (.map k e))
    (z : Value) (hz : ∀ w, (zeroValue e).run P w = .ok z w) (b n : Nat) (f : ByteArray → Option Value) (hm : a.eval m = .map (some b)) (h : MapIs w P k b n f) (s : ByteArray) (hx : a.eval x = .string s) (hs : s.size ≤ maxLen) (u : Value) (hu : (f s).getD z = u)
    (hK : wpList P ops Q rest (a.put (some d) u) w) : wpList P ops Q (⟨some d, op, ty, pos, af, g⟩ :: rest) a w := by
  subst hop
  refine wpList_wanted hw fun K' hK' => ?_
  subst hu
  unfold Oper.wp
  simp [execOp, hm, hx, (mapIs_look h hk ht (hz w) hs).2, Result.andThen]
  exact hK' _ _ hK
/-- A nil map. -/
theorem wpList_map_nil {d : Tmp} {op : Op} {ty : TypeId} {pos : String} {af : Array Edge} (m x : Operand) (t k e : TypeId) (hop : op = Op.lookup t m x true) (hk : P.underlying k = some .string) (ht : P.underlying t = some (.map k e))
    (z : Value) (hz : ∀ w, (zeroValue e).run P w = .ok z w) (hm : a.eval m = .map none) (s : ByteArray) (hx : a.eval x = .string s) (hs : s.size ≤ maxLen)
    (hK : wpList P ops Q rest (a.put (some d) (.tuple #[z, .bool false])) w) : wpList P ops Q (⟨some d, op, ty, pos, af, none⟩ :: rest) a w := by
  subst hop
  refine wpList_plain rfl fun K' hK' => ?_
  have key : keyOf P k (.string s) = some (kl s) := keyOf_string_mk hk hs
  have := Maps.look_nil (P := P) (w := w) true (Maps.string_keyed hk) ht (hz w) key
  unfold Oper.wp
  simp [execOp, hm, hx, this, Result.andThen]
  exact hK' _ _ hK
/-- A map, or none. -/
def MapOpt (w : World) (P : Program) (k : TypeId) (gm : Option Nat) (f : ByteArray → Option Value) : Prop :=
  (gm = none ∧ ∀ s, f s = none) ∨ ∃ b n, gm = some b ∧ MapIs w P k b n f
theorem MapOpt.keep {w w' : World} {P : Program} {k : TypeId} {gm : Option Nat} {f : ByteArray → Option Value} (h : MapOpt w P k gm f) (hk : Kp w w') : MapOpt w' P k gm f := by
  rcases h with h | ⟨b, n, h1, h2⟩
  · exact .inl h
  · exact .inr ⟨b, n, h1, h2.keep hk⟩
theorem wpList_map_opt {d : Tmp} {op : Op} {ty : TypeId} {pos : String} {af : Array Edge} (m x : Operand) (t k e : TypeId) (hop : op = Op.lookup t m x true) (hk : P.underlying k = some .string) (ht : P.underlying t = some (.map k e))
    (z : Value) (hz : ∀ w, (zeroValue e).run P w = .ok z w) (gm : Option Nat) (f : ByteArray → Option Value) (hm : a.eval m = .map gm) (h : MapOpt w P k gm f) (s : ByteArray) (hx : a.eval x = .string s) (hs : s.size ≤ maxLen) (u : Value) (hu : (f s).getD z = u) (ok : Bool) (hok : (f s).isSome = ok)
    (hK : wpList P ops Q rest (a.put (some d) (.tuple #[u, .bool ok])) w) : wpList P ops Q (⟨some d, op, ty, pos, af, none⟩ :: rest) a w := by
  rcases h with ⟨h1, h2⟩ | ⟨b, n, h1, h2⟩
  · subst h1
    rw [h2 s] at hu hok
    refine wpList_map_nil m x t k e hop hk ht z hz hm s hx hs ?_
    subst hu
    subst hok
    exact hK
  · subst h1
    exact wpList_map_ok m x t k e hop hk ht z hz b n f hm h2 s hx hs u hu ok hok hK
theorem wpList_map_set {d : Option Tmp} {op : Op} {ty : TypeId} {pos : String} {af : Array Edge} (m x v : Operand) (t k e : TypeId) (hop : op = Op.mapUpdate t m x v) (hk : P.underlying k = some .string) (ht : P.underlying t = some (.map k e))
    (b n : Nat) (f : ByteArray → Option Value) (hm : a.eval m = .map (some b)) (h : MapIs w P k b n f) (hn : n < maxLen) (s : ByteArray) (hx : a.eval x = .string s) (hs : s.size ≤ maxLen) (u : Value) (hv : a.eval v = u)
    (hK : ∀ w', MapIs w' P k b (n + 1) (fput f s u) → w.grownBy w' (some b) → wpList P ops Q rest (a.put d undef) w') : wpList P ops Q (⟨d, op, ty, pos, af, none⟩ :: rest) a w := by
  subst hop
  obtain ⟨D, h1, h2⟩ := h
  have key : keyOf P k (.string s) = some (kl s) := keyOf_string_mk hk hs
  refine wpList_mapUpdate_own w rfl m x v t rfl k e (Maps.string_keyed hk) ht hR b n D hm h1 hn (.string s) u (kl s) hx hv key (.held u) [] rfl fun w' g1 g2 => hK w' ⟨_, g1, fun y z => ?_⟩ g2
  by_cases hy : y = s
  · subst hy
    rw [fput_same, Maps.atKey_put_same h1.isMap (show WideAt.IsKeyLit (kl y) from trivial)]
    rfl
  · rw [fput_other f u hy, Maps.atKey_put_other (fun e => hy (kl_inj e)), h2]
end
end Go.Proofs.Ytgamenimbkafjaa
