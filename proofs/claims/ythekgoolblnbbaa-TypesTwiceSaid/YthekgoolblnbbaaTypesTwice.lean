/- Proved: for any three types and two texts, to put one type into another for a name and then the third for another name is to put in the first with the third in it, as package types does it. No condition. -/
import Derived.Test.YthekgoolblnbbaaRows
import Derived.Test.YthekgoolblnbbaaB
import Derived.Test.YthekgoolblnbbaaTw
import Derived.WalkKit
import Derived.ProofKit
import Derived.OpenShut
import Derived.Carry
namespace Go.Proofs.Ythekgoolblnbbaa.typesTwice
open Go.ChangeShapes Go.WideShapes Go.ChangeAt Go.RowKit
set_option linter.unusedVariables false
set_option linter.unusedSimpArgs false

theorem own : ownKnob Try.prog.godebug = none := by kernel_rfl
theorem laidOut : laidOutB Try.prog = true := by kernel_rfl
/-- The cells of a value of type api.Type are its heads'. -/
theorem val_of {v : Value} {h : Hd} (ho : ∃ es, v = .agg es) (hc : v.cells.toList = h.cells) : v = h.val := by
  obtain ⟨es, rfl⟩ := ho
  have : es.toList = h.cells := by simpa [Value.cells] using hc
  rw [show es = h.cells.toArray by rw [← this]]
  try rfl

set_option maxRecDepth 100000 in
theorem lifted (os : Os) (started : os.Started) (H : Type) (enc : TypeId × Value → H) :
    ReturnsInHanded {} Try.checked os 7 .any (Rows.typesTwiceSpec.pre6 enc Try.prog Try.f7 Rows.typesTwiceRow.domain false) (Rows.typesTwiceSpec.post enc Try.prog Try.f7 false true false false) := by
  refine returnsInHanded_of_change_sized (C := Try.checked) own started (by kernel_rfl) Try.func7
    (ChangeSpec.witness6 (enc := enc) (C := Try.checked) false ⟨#[], #[(.agg #[.int .i64 0, .string ⟨#[]⟩, .int .i64 0, .slice none 0 0, .slice none 0 0, .slice none 0 0]), (.agg #[.int .i64 0, .string ⟨#[]⟩, .int .i64 0, .slice none 0 0, .slice none 0 0, .slice none 0 0]), (.agg #[.int .i64 0, .string ⟨#[]⟩, .int .i64 0, .slice none 0 0, .slice none 0 0, .slice none 0 0]), .string ⟨#[]⟩, .string ⟨#[]⟩], []⟩ 8 (by kernel_rfl) (by kernel_rfl) (by kernel_rfl) (by kernel_rfl)) ?_
  intro W base args ds gs before hval0 hW hcnd hsz _
  have hval : ∀ (j : Nat) t v, Try.f7.params[j]? = some t → args[j]? = some v → Value.okWide Try.prog W .any base t v := hval0
  have hW' := hW
  obtain ⟨p, q, hA0, hV, rfl, hfz, hnd⟩ := hW
  have hA : DataW.TrodAll enc Try.prog W 0 (fun _ => true) true Try.f7.params.toList args.toList ds p := hA0
  rw [Try.params7] at hA hval hsz
  obtain ⟨v0, vs0, d0, ds0, p0, q0, hargs, rfl, rfl, h0, r0⟩ := trodAll_cons hA
  obtain ⟨v1, vs1, d1, ds1, p1, q1, rfl, rfl, rfl, h1, r1⟩ := trodAll_cons r0
  obtain ⟨v2, vs2, d2, ds2, p2, q2, rfl, rfl, rfl, h2, r2⟩ := trodAll_cons r1
  obtain ⟨v3, vs3, d3, ds3, p3, q3, rfl, rfl, rfl, h3, r3⟩ := trodAll_cons r2
  obtain ⟨v4, vs4, d4, ds4, p4, q4, rfl, rfl, rfl, h4, r4⟩ := trodAll_cons r3
  obtain ⟨rfl, rfl, rfl⟩ := trodAll_nil r4
  obtain rfl : args = #[v0, v1, v2, v3, v4] := by cases args; simp_all
  obtain ⟨rfl, rfl⟩ := trodVars_none hV
  have s0 := h0
  obtain ⟨f0, r0⟩ := h0
  obtain ⟨T0, g0, e0, l0⟩ := open_ty f0 _ _ r0 (fun q hq => by have := List.all_eq_true.1 hsz q (DataW.weights_mem_each (j := 0) (t := 25) rfl rfl q hq); simpa using this)
  obtain rfl := val_of ((okWide_struct Try.underlying25 (hval 0 25 v0 rfl rfl)).imp fun _ h => h.1) e0
  have s1 := h1
  obtain ⟨f1, r1⟩ := h1
  obtain ⟨T1, g1, e1, l1⟩ := open_ty f1 _ _ r1 (fun q hq => by have := List.all_eq_true.1 hsz q (DataW.weights_mem_each (j := 1) (t := 25) rfl rfl q hq); simpa using this)
  obtain rfl := val_of ((okWide_struct Try.underlying25 (hval 1 25 v1 rfl rfl)).imp fun _ h => h.1) e1
  have s2 := h2
  obtain ⟨f2, r2⟩ := h2
  obtain ⟨T2, g2, e2, l2⟩ := open_ty f2 _ _ r2 (fun q hq => by have := List.all_eq_true.1 hsz q (DataW.weights_mem_each (j := 2) (t := 25) rfl rfl q hq); simpa using this)
  obtain rfl := val_of ((okWide_struct Try.underlying25 (hval 2 25 v2 rfl rfl)).imp fun _ h => h.1) e2
  obtain ⟨x3, rfl, rfl, rfl, wx3⟩ := Go.ChangeMaps.open_string Try.underlying9 (hval 3 9 v3 rfl rfl) h3
  have hz3 : x3.size ≤ 140737488351232 := by
    have h1 := sized_string (j := 3) (t := 9) (bytes := x3.data.toList) hsz rfl rfl
    have h2 : x3.data.toList.length = x3.size := rfl
    have h3 : reachBytes = 140737488351232 := by decide
    omega
  obtain ⟨x4, rfl, rfl, rfl, wx4⟩ := Go.ChangeMaps.open_string Try.underlying9 (hval 4 9 v4 rfl rfl) h4
  have hz4 : x4.size ≤ 140737488351232 := by
    have h1 := sized_string (j := 4) (t := 9) (bytes := x4.data.toList) hsz rfl rfl
    have h2 : x4.data.toList.length = x4.size := rfl
    have h3 : reachBytes = 140737488351232 := by decide
    omega
  clear hA0 hval0
  have hlt : ∀ x ∈ p0 ++ (p1 ++ (p2 ++ ([] ++ ([] ++ [])))), x.block < W.heap.size := fun x hx => by simpa using hW'.lt x (by simpa using hx)
  refine (law_TypesTwice f0 f1 f2 T0 T1 T2 g0 g1 g2 W x3 x4 l0 l1 l2 hz3 hz4).mono fun e W' ⟨he, hg⟩ => ?_
  subst he
  refine ⟨_, rfl, _, _, _, [], p0 ++ (p1 ++ (p2 ++ ([] ++ ([] ++ [])))), [], hW', trodAll_mk1 (shut_bool Try.underlying4 _), ?_, rfl, hg.frame _, fun h => by cases h⟩
  exact (trodAll_cons_mk (Below.trod laidOut (by kernel_rfl) (of_decide_eq_true (by kernel_rfl)) s0 hg (fun x hx => hlt x (by simp [hx]))) (trodAll_cons_mk (Below.trod laidOut (by kernel_rfl) (of_decide_eq_true (by kernel_rfl)) s1 hg (fun x hx => hlt x (by simp [hx]))) (trodAll_cons_mk (Below.trod laidOut (by kernel_rfl) (of_decide_eq_true (by kernel_rfl)) s2 hg (fun x hx => hlt x (by simp [hx]))) (trodAll_cons_mk (Go.ChangeMaps.shut_string Try.underlying9 wx3) (trodAll_cons_mk (Go.ChangeMaps.shut_string Try.underlying9 wx4) trodAll_mk0)))))

theorem over : Rows.typesTwiceRow.holds Try.pinned (OpenSpec.ofChange Rows.typesTwiceSpec) :=
  OpenClaim.holds_of_wide 7 Try.f7 rfl rfl rfl rfl rfl rfl rfl ⟨rfl, rfl, rfl, rfl, rfl⟩ rfl rfl rfl rfl rfl (by kernel_rfl) Try.func7 (by kernel_rfl)
    (of_decide_eq_true (by kernel_rfl)) (by unfold Func.isWrapper; first | (rw [if_pos (by decide +kernel)]; kernel_rfl) | (rw [if_neg (by decide +kernel)]; exact ⟨rfl, rfl⟩))
    (fun os started H enc _ => lifted os started H enc)

/-- THE STATEMENT. -/
theorem proved : Rows.TypesTwiceSaid :=
  over
#print axioms proved
end Go.Proofs.Ythekgoolblnbbaa.typesTwice
