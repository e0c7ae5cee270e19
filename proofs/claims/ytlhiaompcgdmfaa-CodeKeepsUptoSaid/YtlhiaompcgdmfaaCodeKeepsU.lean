/- CodeKeeps answers true where the module and the bytes hold no more than 2 to the 20 numbers. -/
import Derived.Test.YtlhiaompcgdmfaaRows
import Derived.Test.YtlhiaompcgdmfaaB
import Derived.Test.YtlhiaompcgdmfaaCodeKeeps0
import Derived.WalkKit
import Derived.ProofKit
import Derived.OpenShut
import Derived.Carry
import Derived.JoinedCond
import Derived.Deep.CondSized
namespace Go.Proofs.Ytlhiaompcgdmfaa.codeKeeps
open Go.ChangeShapes Go.WideShapes Go.ChangeAt Go.RowKit
set_option linter.unusedVariables false
set_option linter.unusedSimpArgs false

theorem own : ownKnob Try.prog.godebug = none := by kernel_rfl
theorem laidOut : laidOutB Try.prog = true := by kernel_rfl
/-- A module's value by its cells. -/
theorem val_of {v : Value} {x y : Value} (ho : ∃ es, v = .agg es) (hc : v.cells.toList = [x, y]) : v = .agg #[x, y] := by
  obtain ⟨es, rfl⟩ := ho
  have : es.toList = [x, y] := by simpa [Value.cells] using hc
  rw [show es = #[x, y] by rw [← Array.toList_inj, this]]

set_option maxRecDepth 100000 in
theorem lifted (os : Os) (started : os.Started) (H : Type) (enc : TypeId × Value → H) (F : Stop.Interp) :
    ReturnsInHanded {} Try.checked os 9 .any ((Rows.OpenSpec.upto Rows.codeKeepsSpec).pre6 enc Try.prog Try.f9 Rows.codeKeepsUptoRow.domain false) (((Rows.OpenSpec.upto Rows.codeKeepsSpec).at F).post enc Try.prog Try.f9 false true false false) := by
  refine returnsInHanded_of_cond_sized (C := Try.checked) (s := Rows.OpenSpec.upto Rows.codeKeepsSpec) (k := Rows.uptoSmall) rfl own started (by kernel_rfl) Try.func9
    (OpenSpec.witness (enc := enc) (C := Try.checked) (s := Rows.OpenSpec.upto Rows.codeKeepsSpec) (k := Rows.uptoSmall) rfl false ⟨#[], #[(.agg #[.slice none 0 0, .slice none 0 0]), .slice none 0 0], []⟩ 8 (by kernel_rfl) (by kernel_rfl) (by kernel_rfl)
      (x := ([.agg [.nil, .nil], .nil], [], [])) (by kernel_rfl) rfl (by kernel_rfl)) ?_
  intro W base args ds gs before hval0 hW hcnd hk hsz _
  have hval : ∀ (j : Nat) t v, Try.f9.params[j]? = some t → args[j]? = some v → Value.okWide Try.prog W .any base t v := hval0
  have hW' := hW
  obtain ⟨p, q, hA0, hV, rfl, hfz, hnd⟩ := hW
  have hA : DataW.TrodAll enc Try.prog W 0 (fun _ => true) true Try.f9.params.toList args.toList ds p := hA0
  rw [Try.params9] at hA hval hsz
  obtain ⟨v0, v1, d0, d1, p0, p1, rfl, rfl, rfl, h0, h1⟩ := trodAll_two hA
  obtain ⟨rfl, rfl⟩ := trodVars_none hV
  have hbulk := of_decide_eq_true hk
  simp only [List.append_nil, List.cons_append, List.nil_append, Rows.uptoBulkAll] at hbulk
  have s0 := h0
  obtain ⟨f0, r0⟩ := h0
  obtain ⟨T0, l0, b0⟩ := open_mo r0 (fun q hq => by have := List.all_eq_true.1 hsz q (DataW.weights_mem_each (j := 0) (t := 25) rfl rfl q hq); simpa using this)
  obtain ⟨a0, c0, e0, _⟩ := id l0
  rw [e0] at l0
  obtain rfl := val_of ((okWide_struct Try.underlying25 (hval 0 25 v0 rfl rfl)).imp fun _ h => h.1) e0
  have s1 := h1
  obtain ⟨T1, l1, b1⟩ := open_bytes (hval 1 37 v1 rfl rfl) h1 (fun q hq => by have := List.all_eq_true.1 hsz q (DataW.weights_mem_each (j := 1) (t := 37) rfl rfl q hq); simpa using this)
  have z0 : (itMo T0).length ≤ 1048576 := by
    have hb : (itMo T0).length ≤ Rows.uptoBulk d0 := b0
    omega
  have z1 : T1.length ≤ 1048576 := by omega
  clear hA0 hval0
  have hlt : ∀ x ∈ p0 ++ p1, x.block < W.heap.size := fun x hx => by simpa using hW'.lt x (by simpa using hx)
  refine (law_CodeKeeps T0 a0 c0 T1 v1 W l0 l1 z0 z1).mono fun e W' ⟨he, hg⟩ => ?_
  subst he
  refine ⟨_, rfl, _, _, _, [], p0 ++ p1, [], hW', trodAll_mk1 (shut_bool Try.underlying4 _), ?_, rfl, hg.frame _, fun h => by cases h⟩
  exact trodAll_mk2 (Below.trod laidOut (by kernel_rfl) (of_decide_eq_true (by kernel_rfl)) s0 hg (fun x hx => hlt x (by simp [hx]))) (Below.trod laidOut (by kernel_rfl) (of_decide_eq_true (by kernel_rfl)) s1 hg (fun x hx => hlt x (by simp [hx])))

theorem over : Rows.codeKeepsUptoRow.holds Try.pinned (Rows.OpenSpec.upto Rows.codeKeepsSpec) :=
  OpenClaim.holds_of_cond 9 Try.f9 rfl rfl rfl rfl rfl rfl rfl ⟨rfl, rfl, rfl, rfl, rfl⟩ rfl rfl rfl rfl rfl (by kernel_rfl) Try.func9 (by kernel_rfl)
    (of_decide_eq_true (by kernel_rfl)) (by unfold Func.isWrapper; first | (rw [if_pos (by decide +kernel)]; kernel_rfl) | (rw [if_neg (by decide +kernel)]; exact ⟨rfl, rfl⟩))
    (fun os started H enc _ F => lifted os started H enc F)

/-- THE STATEMENT. -/
theorem proved : Rows.CodeKeepsUptoSaid :=
  over
#print axioms proved
end Go.Proofs.Ytlhiaompcgdmfaa.codeKeeps
