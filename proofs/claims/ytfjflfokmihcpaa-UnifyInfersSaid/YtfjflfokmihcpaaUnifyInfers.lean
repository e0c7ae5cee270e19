/- A law of package unify: which type arguments are found, or which pair or parameter is at fault. No condition. -/
import Derived.Test.YtfjflfokmihcpaaRows
import Derived.Test.YtfjflfokmihcpaaB
import Derived.Test.YtfjflfokmihcpaaFj
import Derived.Test.YtfjflfokmihcpaaY3
import Derived.WalkKit
import Derived.ProofKit
import Derived.OpenShut
import Derived.Carry
namespace Go.Proofs.Ytfjflfokmihcpaa.unifyInfers
open Go.ChangeShapes Go.WideShapes Go.ChangeAt Go.RowKit
set_option linter.unusedVariables false
set_option linter.unusedSimpArgs false

theorem own : ownKnob Try.prog.godebug = none := by kernel_rfl
theorem laidOut : laidOutB Try.prog = true := by kernel_rfl
/-- The cells of a value of type api.Type are its heads'. -/
theorem val_of {v : Value} {h : Hd} (ho : ∃ es, v = .agg es) (hc : v.cells.toList = h.cells) : v = h.val := by
  obtain ⟨es, rfl⟩ := ho
  have : es.toList = h.cells := by simpa [Value.cells] using hc
  rw [show es = h.cells.toArray by rw [← this]]
  try rfl

set_option maxRecDepth 100000 in
theorem lifted (os : Os) (started : os.Started) (H : Type) (enc : TypeId × Value → H) :
    ReturnsInHanded {} Try.checked os 4 .any (Rows.unifyInfersSpec.pre6 enc Try.prog Try.f4 Rows.unifyInfersRow.domain false) (Rows.unifyInfersSpec.post enc Try.prog Try.f4 false true false false) := by
  refine returnsInHanded_of_change_sized (C := Try.checked) own started (by kernel_rfl) Try.func4
    (ChangeSpec.witness6 (enc := enc) (C := Try.checked) false ⟨#[], #[.slice none 0 0, .slice none 0 0, .slice none 0 0], []⟩ 8 (by kernel_rfl) (by kernel_rfl) (by kernel_rfl) (by kernel_rfl)) ?_
  intro W base args ds gs before hval0 hW hcnd hsz _
  have hval : ∀ (j : Nat) t v, Try.f4.params[j]? = some t → args[j]? = some v → Value.okWide Try.prog W .any base t v := hval0
  have hW' := hW
  obtain ⟨p, q, hA0, hV, rfl, hfz, hnd⟩ := hW
  have hA : DataW.TrodAll enc Try.prog W 0 (fun _ => true) true Try.f4.params.toList args.toList ds p := hA0
  rw [Try.params4] at hA hval hsz
  obtain ⟨v0, v1, v2, d0, d1, d2, p0, p1, p2, rfl, rfl, rfl, h0, h1, h2⟩ := trodAll_three hA
  obtain ⟨rfl, rfl⟩ := trodVars_none hV
  have s0 := h0
  obtain ⟨ad0, c0, f0, As0, K0, rfl, ha0, hlA0⟩ := open_types (hval 0 23 v0 rfl rfl) h0 (fun q hq => by have := List.all_eq_true.1 hsz q (DataW.weights_mem_each (j := 0) (t := 23) rfl rfl q hq); simpa using this)
  have s1 := h1
  obtain ⟨ad1, c1, f1, As1, K1, rfl, ha1, hlA1⟩ := open_types (hval 1 23 v1 rfl rfl) h1 (fun q hq => by have := List.all_eq_true.1 hsz q (DataW.weights_mem_each (j := 1) (t := 23) rfl rfl q hq); simpa using this)
  have s2 := h2
  obtain ⟨ad2, c2, f2, As2, K2, rfl, ha2, hlA2⟩ := open_types (hval 2 23 v2 rfl rfl) h2 (fun q hq => by have := List.all_eq_true.1 hsz q (DataW.weights_mem_each (j := 2) (t := 23) rfl rfl q hq); simpa using this)
  clear hA0 hval0
  have hlt : ∀ x ∈ p0 ++ (p1 ++ p2), x.block < W.heap.size := fun x hx => by simpa using hW'.lt x (by simpa using hx)
  refine (law_UnifyInfers f0 As0 ad0 c0 K0 f1 As1 ad1 c1 K1 f2 As2 ad2 c2 K2 W ha0 hlA0 ha1 hlA1 ha2 hlA2).mono fun e W' ⟨he, hg⟩ => ?_
  subst he
  refine ⟨_, rfl, _, _, _, [], p0 ++ (p1 ++ p2), [], hW', trodAll_mk1 (shut_bool Try.underlying4 _), ?_, rfl, hg.frame _, fun h => by cases h⟩
  exact trodAll_mk3 (Below.trod laidOut (by kernel_rfl) (of_decide_eq_true (by kernel_rfl)) s0 hg (fun x hx => hlt x (by simp [hx]))) (Below.trod laidOut (by kernel_rfl) (of_decide_eq_true (by kernel_rfl)) s1 hg (fun x hx => hlt x (by simp [hx]))) (Below.trod laidOut (by kernel_rfl) (of_decide_eq_true (by kernel_rfl)) s2 hg (fun x hx => hlt x (by simp [hx])))

theorem over : Rows.unifyInfersRow.holds Try.pinned (OpenSpec.ofChange Rows.unifyInfersSpec) :=
  OpenClaim.holds_of_wide 4 Try.f4 rfl rfl rfl rfl rfl rfl rfl ⟨rfl, rfl, rfl, rfl, rfl⟩ rfl rfl rfl rfl rfl (by kernel_rfl) Try.func4 (by kernel_rfl)
    (of_decide_eq_true (by kernel_rfl)) (by unfold Func.isWrapper; first | (rw [if_pos (by decide +kernel)]; kernel_rfl) | (rw [if_neg (by decide +kernel)]; exact ⟨rfl, rfl⟩))
    (fun os started H enc _ => lifted os started H enc)

/-- THE STATEMENT. -/
theorem proved : Rows.UnifyInfersSaid :=
  over
#print axioms proved
end Go.Proofs.Ytfjflfokmihcpaa.unifyInfers
