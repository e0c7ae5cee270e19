/- An argument of type mullionref01.Num reads as a sign and a size; a size is between 0 and 2 to the 64. -/
import Derived.Test.YtihchlkoohficaaDoorChecked
import Derived.WalkKit
import Derived.ProofKit
import Derived.OpenShut
import Derived.ShutString
namespace Go.Proofs.YtihchlkoohficaaDoor
open Go.ChangeShapes Go.WideShapes Go.ChangeAt Go.RowKit
set_option linter.unusedVariables false

theorem r_u64 {n : Int} (h : (Lit.int .u64 n).wf = true) : 0 ≤ n ∧ n < 18446744073709551616 := by have := bounds_u64 h; omega
theorem open_num {H : Type} {enc : TypeId × Value → H} {w : World} {base : Nat} {spare : Nat → Bool} {held : Bool} {r : Reach} {b0 : Nat} {v : Value} {d : DataW H} {ps : List MemPlace}
    (hval : Value.okWide Tryd.prog w r b0 24 v) (hd : DataW.Trod enc Tryd.prog w base spare held 24 v d ps) :
    ∃ (b : Bool) (n : Int), v = .agg #[.bool b, .int .u64 n] ∧ (0 ≤ n ∧ n < 18446744073709551616) := by
  obtain ⟨es, rfl, hsz⟩ := okWide_struct Tryd.underlying24 hval
  obtain ⟨fuel, hf⟩ := hd
  obtain ⟨xs, n, rfl, _, hcl, hxl, hfs⟩ := DataW.trod_struct Tryd.underlying24 hf
  have hcl2 : (Value.agg es).cells.toList.length = 2 := hcl.trans (by kernel_rfl)
  have hxl2 : xs.length = 2 := hxl
  have e2 : es.toList.length = 2 := by simpa [Value.cells] using hcl2
  match hes : es.toList, e2 with
  | [c0, c1], _ =>
    match xs, hxl2 with
    | [y0, y1], _ =>
      have kb : Tryd.prog.cellsOf 4 = 1 := by kernel_rfl
      have ku : Tryd.prog.cellsOf 22 = 1 := by kernel_rfl
      have g0 : DataW.trod enc Tryd.prog w base spare held n 4 [c0] = some y0 := by simpa [kb, Value.cells, hes] using hfs 0 _ rfl
      have g1 : DataW.trod enc Tryd.prog w base spare held n 22 [c1] = some y1 := by simpa [ku, kb, Value.cells, hes] using hfs 1 _ rfl
      obtain ⟨b, hb, _⟩ := DataW.trod_bool (by kernel_rfl) g0
      obtain ⟨m, hm, _, wm⟩ := DataW.trod_int (k := .u64) (by kernel_rfl) g1
      refine ⟨b, m, ?_, r_u64 wm⟩
      simp only [List.cons.injEq] at hb hm
      rw [hb.1, hm.1] at hes
      rw [show es = #[.bool b, .int .u64 m] by rw [← Array.toArray_toList (xs := es), hes]]
end Go.Proofs.YtihchlkoohficaaDoor
