/- Proved: a walk of package tree that is left early has met the same nodes so far as Walk does, and tells all of them the next time; what is done to a node that it gave, or to a number, is not seen in the node walked. Conditions: the reading of the argument holds at most 1048576 values and letters (the second form of the statement), and the form of the row: each string and each slice takes at most 2 to the 47 less 4096 bytes. -/
import Derived.Test.YtgamenimbkafjaaRows
import Derived.Test.YtgamenimbkafjaaBU
import Derived.Test.YtgamenimbkafjaaWm
import Derived.WalkKit
import Derived.ProofKit
import Derived.OpenShut
import Derived.Carry
import Derived.JoinedCond
import Derived.Deep.CondSized
namespace Go.Proofs.Ytgamenimbkafjaa.treeLeaves
open Go.ChangeShapes Go.WideShapes Go.ChangeAt Go.RowKit
set_option linter.unusedVariables false
set_option linter.unusedSimpArgs false

theorem own : ownKnob Try.prog.godebug = none := by kernel_rfl
theorem laidOut : laidOutB Try.prog = true := by kernel_rfl
/-- The cells of a value of type api.Node are its heads'. -/
theorem val_of {v : Value} {h : Hn} (ho : ∃ es, v = .agg es) (hc : v.cells.toList = h.cells) : v = h.val := by
  obtain ⟨es, rfl⟩ := ho
  have : es.toList = h.cells := by simpa [Value.cells] using hc
  rw [show es = h.cells.toArray by rw [← this]]
  try rfl

set_option maxRecDepth 100000 in
theorem lifted (os : Os) (started : os.Started) (H : Type) (enc : TypeId × Value → H) (F : Stop.Interp) :
    ReturnsInHanded {} Try.checked os 9 .any ((Rows.OpenSpec.upto Rows.treeLeavesSpec).pre6 enc Try.prog Try.f9 Rows.treeLeavesUptoRow.domain false) (((Rows.OpenSpec.upto Rows.treeLeavesSpec).at F).post enc Try.prog Try.f9 false true false false) := by
  refine returnsInHanded_of_cond_sized (C := Try.checked) (s := Rows.OpenSpec.upto Rows.treeLeavesSpec) (k := Rows.uptoSmall) rfl own started (by kernel_rfl) Try.func9
    (OpenSpec.witness (enc := enc) (C := Try.checked) (s := Rows.OpenSpec.upto Rows.treeLeavesSpec) (k := Rows.uptoSmall) rfl false ⟨#[], #[(.agg #[.int .i64 0, .string ⟨#[]⟩, .int .u64 0, .int .i64 0, .slice none 0 0]), .int .u8 0], []⟩ 8 (by kernel_rfl) (by kernel_rfl) (by kernel_rfl)
      (x := ([.agg [.lit (.int .i64 0), .lit (.string []), .lit (.int .u64 0), .lit (.int .i64 0), .nil], .lit (.int .u8 0)], [], [])) (by kernel_rfl) rfl (by kernel_rfl)) ?_
  intro W base args ds gs before hval0 hW hcnd hk hsz _
  have hval : ∀ (j : Nat) t v, Try.f9.params[j]? = some t → args[j]? = some v → Value.okWide Try.prog W .any base t v := hval0
  have hW' := hW
  obtain ⟨p, q, hA0, hV, rfl, hfz, hnd⟩ := hW
  have hA : DataW.TrodAll enc Try.prog W 0 (fun _ => true) true Try.f9.params.toList args.toList ds p := hA0
  rw [Try.params9] at hA hval hsz
  obtain ⟨v0, v1, d0, d1, p0, p1, rfl, rfl, rfl, h0, h1⟩ := trodAll_two hA
  obtain ⟨rfl, rfl⟩ := trodVars_none hV
  have s0 := h0
  obtain ⟨f0, r0⟩ := h0
  obtain ⟨T0, g0, e0, l0, z0⟩ := open_ndU f0 _ _ r0 (fun q hq => by have := List.all_eq_true.1 hsz q (DataW.weights_mem_each (j := 0) (t := 25) rfl rfl q hq); simpa using this)
  obtain rfl := val_of ((okWide_struct Try.underlying25 (hval 0 25 v0 rfl rfl)).imp fun _ h => h.1) e0
  have s1 := h1
  obtain ⟨x1, rfl, rfl, rfl, wx1⟩ := open_int Try.underlying5 (hval 1 5 v1 rfl rfl) h1
  have hbulk := of_decide_eq_true hk
  simp only [List.append_nil, List.cons_append, List.nil_append, Rows.uptoBulkAll] at hbulk
  have y0 : sizeN f0 T0 ≤ 1048576 := by
    have hz : sizeN f0 T0 ≤ Rows.uptoBulk d0 := z0
    omega
  clear hA0 hval0
  have hlt : ∀ x ∈ p0 ++ [], x.block < W.heap.size := fun x hx => by simpa using hW'.lt x (by simpa using hx)
  refine (law_TreeLeaves f0 T0 g0 W x1 l0 y0).mono fun e W' ⟨he, hg⟩ => ?_
  subst he
  refine ⟨_, rfl, _, _, _, [], p0 ++ [], [], hW', trodAll_mk1 (shut_bool Try.underlying4 _), ?_, rfl, hg.frame _, fun h => by cases h⟩
  exact trodAll_mk2 (Below.trod laidOut (by kernel_rfl) (of_decide_eq_true (by kernel_rfl)) s0 hg (fun x hx => hlt x (by simp [hx]))) (Below.trod laidOut (by kernel_rfl) (of_decide_eq_true (by kernel_rfl)) s1 hg (fun x hx => by cases hx))

theorem over : Rows.treeLeavesUptoRow.holds Try.pinned (Rows.OpenSpec.upto Rows.treeLeavesSpec) :=
  OpenClaim.holds_of_cond 9 Try.f9 rfl rfl rfl rfl rfl rfl rfl ⟨rfl, rfl, rfl, rfl, rfl⟩ rfl rfl rfl rfl rfl (by kernel_rfl) Try.func9 (by kernel_rfl)
    (of_decide_eq_true (by kernel_rfl)) (by unfold Func.isWrapper; first | (rw [if_pos (by decide +kernel)]; kernel_rfl) | (rw [if_neg (by decide +kernel)]; exact ⟨rfl, rfl⟩))
    (fun os started H enc _ F => lifted os started H enc F)

/-- THE STATEMENT. -/
theorem proved : Rows.TreeLeavesUptoSaid :=
  over
#print axioms proved
end Go.Proofs.Ytgamenimbkafjaa.treeLeaves
