/- A law of package unify: types that were put in for parameters are found again, each that stands somewhere. No condition. -/
import Derived.Test.YtfjflfokmihcpaaRows
import Derived.Test.YtfjflfokmihcpaaB
import Derived.Test.YtfjflfokmihcpaaFj
import Derived.Test.YtfjflfokmihcpaaVe
import Derived.WalkKit
import Derived.ProofKit
import Derived.OpenShut
import Derived.Carry
namespace Go.Proofs.Ytfjflfokmihcpaa.unifyBack
open Go.ChangeShapes Go.WideShapes Go.ChangeAt Go.RowKit
set_option linter.unusedVariables false
set_option linter.unusedSimpArgs false

theorem own : ownKnob Try.prog.godebug = none := by kernel_rfl
theorem laidOut : laidOutB Try.prog = true := by kernel_rfl
/-- The cells of a value of type api.Type are its heads'. -/
theorem val_of {v : Value} {h : Hd} (ho : ∃ es, v = .agg es) (hc : v.cells.toList = h.cells) : v = h.val := by
  obtain ⟨es, rfl⟩ := ho
  have : es.toList = h.cells := by simpa [Value.cells] using hc
  rw [show es = h.cells.toArray by rw [← this]]
  try rfl

set_option maxRecDepth 100000 in
theorem lifted (os : Os) (started : os.Started) (H : Type) (enc : TypeId × Value → H) :
    ReturnsInHanded {} Try.checked os 6 .any (Rows.unifyBackSpec.pre6 enc Try.prog Try.f6 Rows.unifyBackRow.domain false) (Rows.unifyBackSpec.post enc Try.prog Try.f6 false true false false) := by
  refine returnsInHanded_of_change_sized (C := Try.checked) own started (by kernel_rfl) Try.func6
    (ChangeSpec.witness6 (enc := enc) (C := Try.checked) false ⟨#[], #[(.agg #[.int .i64 0, .string ⟨#[]⟩, .int .i64 0, .slice none 0 0, .slice none 0 0, .slice none 0 0]), .slice none 0 0, .slice none 0 0], []⟩ 8 (by kernel_rfl) (by kernel_rfl) (by kernel_rfl) (by kernel_rfl)) ?_
  intro W base args ds gs before hval0 hW hcnd hsz _
  have hval : ∀ (j : Nat) t v, Try.f6.params[j]? = some t → args[j]? = some v → Value.okWide Try.prog W .any base t v := hval0
  have hW' := hW
  obtain ⟨p, q, hA0, hV, rfl, hfz, hnd⟩ := hW
  have hA : DataW.TrodAll enc Try.prog W 0 (fun _ => true) true Try.f6.params.toList args.toList ds p := hA0
  rw [Try.params6] at hA hval hsz
  obtain ⟨v0, v1, v2, d0, d1, d2, p0, p1, p2, rfl, rfl, rfl, h0, h1, h2⟩ := trodAll_three hA
  obtain ⟨rfl, rfl⟩ := trodVars_none hV
  have s0 := h0
  obtain ⟨f0, r0⟩ := h0
  obtain ⟨T0, g0, e0, l0⟩ := open_ty f0 _ _ r0 (fun q hq => by have := List.all_eq_true.1 hsz q (DataW.weights_mem_each (j := 0) (t := 42) rfl rfl q hq); simpa using this)
  obtain rfl := val_of ((okWide_struct Try.underlying42 (hval 0 42 v0 rfl rfl)).imp fun _ h => h.1) e0
  have s1 := h1
  obtain ⟨ad1, c1, L1, rfl, hlc1, ht1, hL1, hlL1⟩ := open_names (hval 1 22 v1 rfl rfl) h1 (fun q hq => by have := List.all_eq_true.1 hsz q (DataW.weights_mem_each (j := 1) (t := 22) rfl rfl q hq); simpa using this)
  have s2 := h2
  obtain ⟨ad2, c2, f2, As2, K2, rfl, ha2, hlA2⟩ := open_types (hval 2 23 v2 rfl rfl) h2 (fun q hq => by have := List.all_eq_true.1 hsz q (DataW.weights_mem_each (j := 2) (t := 23) rfl rfl q hq); simpa using this)
  clear hA0 hval0
  have hlt : ∀ x ∈ p0 ++ (p1 ++ p2), x.block < W.heap.size := fun x hx => by simpa using hW'.lt x (by simpa using hx)
  refine (law_UnifyBack f0 T0 g0 L1 ad1 c1 f2 As2 ad2 c2 K2 W l0 ht1 hlc1 hL1 hlL1 ha2 hlA2).mono fun e W' ⟨he, hg⟩ => ?_
  subst he
  refine ⟨_, rfl, _, _, _, [], p0 ++ (p1 ++ p2), [], hW', trodAll_mk1 (shut_bool Try.underlying4 _), ?_, rfl, hg.frame _, fun h => by cases h⟩
  exact trodAll_mk3 (Below.trod laidOut (by kernel_rfl) (of_decide_eq_true (by kernel_rfl)) s0 hg (fun x hx => hlt x (by simp [hx]))) (Below.trod laidOut (by kernel_rfl) (of_decide_eq_true (by kernel_rfl)) s1 hg (fun x hx => hlt x (by simp [hx]))) (Below.trod laidOut (by kernel_rfl) (of_decide_eq_true (by kernel_rfl)) s2 hg (fun x hx => hlt x (by simp [hx])))

theorem over : Rows.unifyBackRow.holds Try.pinned (OpenSpec.ofChange Rows.unifyBackSpec) :=
  OpenClaim.holds_of_wide 6 Try.f6 rfl rfl rfl rfl rfl rfl rfl ⟨rfl, rfl, rfl, rfl, rfl⟩ rfl rfl rfl rfl rfl (by kernel_rfl) Try.func6 (by kernel_rfl)
    (of_decide_eq_true (by kernel_rfl)) (by unfold Func.isWrapper; first | (rw [if_pos (by decide +kernel)]; kernel_rfl) | (rw [if_neg (by decide +kernel)]; exact ⟨rfl, rfl⟩))
    (fun os started H enc _ => lifted os started H enc)

/-- THE STATEMENT. -/
theorem proved : Rows.UnifyBackSaid :=
  over
#print axioms proved
end Go.Proofs.Ytfjflfokmihcpaa.unifyBack
