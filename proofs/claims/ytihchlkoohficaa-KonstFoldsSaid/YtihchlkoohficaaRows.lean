/-
  No cell of these rows narrows 'for every input' (looked for: loops, veiled, ifaces, maps, wideKeys, modest, calm, conditions, laid).
  DERIVED. THE GIVEN ROWS OF THIS SEAT. 6 by the template 'for every input the law returns true; each argument reads behind the call as it read before'; 0 by the template 'total and deterministic' (their statements: YtihchlkoohficaaTotals.lean).
  GIVEN WITH THE SEED: the statements are not yours to turn. If you find one false, say at which input.
  Laid BY PROGRAM, IN A SANDBOX (cutbox-rows.mjs): the forced cells as the released guide's own fill.sh prints them over the translation d2c5b38bfa6f78c5… (all of the seat's roots in one cut). By AI agents, Wed Nov 11 2026. No macro, syntax, notation, axiom, sorry.
-/
import Derived.Test.YtihchlkoohficaaChecked
import GoSem.Claim
import GoSem.ClaimJoined
import GoSem.ClaimMapViews
import Derived.JoinedTies
import Derived.KernelRfl
namespace Go.Proofs.Ytihchlkoohficaa
/- THE CELL 'sum', in the pinned program and in every row, IS THE sha256 OF THE DUMP (.gsa) THAT YtihchlkoohficaaProg.lean LOADS. Nothing in Lean hashes anything: it is a label: what it is worth is what the hold of that sum in a sandbox is worth. -/
noncomputable def Try.pinned : Pinned := { name := "ytihchlkoohficaa", sum := "d2c5b38bfa6f78c542efa6e74e13fa6768204e8d2315da52420cc8c861246475", checked := Try.checked }
namespace Rows
def none {H : Type} : Left H := { results := [], args := [] }

/-- 'mullionlaw07.KonstFolds': WHATEVER THE INPUT: true; the input reads as it did. -/
def konstFoldsSpec : ChangeSpec := { name := "konstFolds", fn := fun _ => fun
  | [d1, d2, d3] => { results := [.lit (.bool true)], args := [d1, d2, d3] }
  | _ => none }
def konstFoldsRow : OpenClaim := { program := "ytihchlkoohficaa", sum := "d2c5b38bfa6f78c542efa6e74e13fa6768204e8d2315da52420cc8c861246475", func := "mullion/mullionlaw07.KonstFolds", spec := "konstFolds", inPlace := ["math/bits.Add64"], apart := false }
def KonstFoldsSaid : Prop := konstFoldsRow.holds Try.pinned (OpenSpec.ofChange konstFoldsSpec)

/-- ITS FALSE NEIGHBOUR: 'it returns false'. Refute it at one input. -/
def konstFoldsWrong : ChangeSpec := { name := "konstFolds", fn := fun _ => fun
  | [d1, d2, d3] => { results := [.lit (.bool false)], args := [d1, d2, d3] }
  | _ => none }
def KonstFoldsWrongFalsely : Prop := konstFoldsRow.holds Try.pinned (OpenSpec.ofChange konstFoldsWrong)

/-- 'mullionlaw07.KonstOnes': WHATEVER THE INPUT: true; the input reads as it did. -/
def konstOnesSpec : ChangeSpec := { name := "konstOnes", fn := fun _ => fun
  | [d1, d2, d3] => { results := [.lit (.bool true)], args := [d1, d2, d3] }
  | _ => none }
def konstOnesRow : OpenClaim := { program := "ytihchlkoohficaa", sum := "d2c5b38bfa6f78c542efa6e74e13fa6768204e8d2315da52420cc8c861246475", func := "mullion/mullionlaw07.KonstOnes", spec := "konstOnes", inPlace := ["math/bits.Add64"], apart := false }
def KonstOnesSaid : Prop := konstOnesRow.holds Try.pinned (OpenSpec.ofChange konstOnesSpec)

/-- ITS FALSE NEIGHBOUR: 'it returns false'. Refute it at one input. -/
def konstOnesWrong : ChangeSpec := { name := "konstOnes", fn := fun _ => fun
  | [d1, d2, d3] => { results := [.lit (.bool false)], args := [d1, d2, d3] }
  | _ => none }
def KonstOnesWrongFalsely : Prop := konstOnesRow.holds Try.pinned (OpenSpec.ofChange konstOnesWrong)

/-- 'mullionlaw07.KonstBack': WHATEVER THE INPUT: true; the input reads as it did. -/
def konstBackSpec : ChangeSpec := { name := "konstBack", fn := fun _ => fun
  | [d1, d2, d3] => { results := [.lit (.bool true)], args := [d1, d2, d3] }
  | _ => none }
def konstBackRow : OpenClaim := { program := "ytihchlkoohficaa", sum := "d2c5b38bfa6f78c542efa6e74e13fa6768204e8d2315da52420cc8c861246475", func := "mullion/mullionlaw07.KonstBack", spec := "konstBack", inPlace := ["math/bits.Add64"], apart := false }
def KonstBackSaid : Prop := konstBackRow.holds Try.pinned (OpenSpec.ofChange konstBackSpec)

/-- ITS FALSE NEIGHBOUR: 'it returns false'. Refute it at one input. -/
def konstBackWrong : ChangeSpec := { name := "konstBack", fn := fun _ => fun
  | [d1, d2, d3] => { results := [.lit (.bool false)], args := [d1, d2, d3] }
  | _ => none }
def KonstBackWrongFalsely : Prop := konstBackRow.holds Try.pinned (OpenSpec.ofChange konstBackWrong)

/-- 'mullionlaw07.KonstRing': WHATEVER THE INPUT: true; the input reads as it did. -/
def konstRingSpec : ChangeSpec := { name := "konstRing", fn := fun _ => fun
  | [d1, d2] => { results := [.lit (.bool true)], args := [d1, d2] }
  | _ => none }
def konstRingRow : OpenClaim := { program := "ytihchlkoohficaa", sum := "d2c5b38bfa6f78c542efa6e74e13fa6768204e8d2315da52420cc8c861246475", func := "mullion/mullionlaw07.KonstRing", spec := "konstRing", inPlace := ["math/bits.Add64"], apart := false }
def KonstRingSaid : Prop := konstRingRow.holds Try.pinned (OpenSpec.ofChange konstRingSpec)

/-- ITS FALSE NEIGHBOUR: 'it returns false'. Refute it at one input. -/
def konstRingWrong : ChangeSpec := { name := "konstRing", fn := fun _ => fun
  | [d1, d2] => { results := [.lit (.bool false)], args := [d1, d2] }
  | _ => none }
def KonstRingWrongFalsely : Prop := konstRingRow.holds Try.pinned (OpenSpec.ofChange konstRingWrong)

/-- 'mullionlaw07.KonstDivides': WHATEVER THE INPUT: true; the input reads as it did. -/
def konstDividesSpec : ChangeSpec := { name := "konstDivides", fn := fun _ => fun
  | [d1, d2, d3] => { results := [.lit (.bool true)], args := [d1, d2, d3] }
  | _ => none }
def konstDividesRow : OpenClaim := { program := "ytihchlkoohficaa", sum := "d2c5b38bfa6f78c542efa6e74e13fa6768204e8d2315da52420cc8c861246475", func := "mullion/mullionlaw07.KonstDivides", spec := "konstDivides", inPlace := ["math/bits.Add64"], apart := false }
def KonstDividesSaid : Prop := konstDividesRow.holds Try.pinned (OpenSpec.ofChange konstDividesSpec)

/-- ITS FALSE NEIGHBOUR: 'it returns false'. Refute it at one input. -/
def konstDividesWrong : ChangeSpec := { name := "konstDivides", fn := fun _ => fun
  | [d1, d2, d3] => { results := [.lit (.bool false)], args := [d1, d2, d3] }
  | _ => none }
def KonstDividesWrongFalsely : Prop := konstDividesRow.holds Try.pinned (OpenSpec.ofChange konstDividesWrong)

/-- 'mullionlaw07.KonstOrders': WHATEVER THE INPUT: true; the input reads as it did. -/
def konstOrdersSpec : ChangeSpec := { name := "konstOrders", fn := fun _ => fun
  | [d1, d2] => { results := [.lit (.bool true)], args := [d1, d2] }
  | _ => none }
def konstOrdersRow : OpenClaim := { program := "ytihchlkoohficaa", sum := "d2c5b38bfa6f78c542efa6e74e13fa6768204e8d2315da52420cc8c861246475", func := "mullion/mullionlaw07.KonstOrders", spec := "konstOrders", inPlace := ["math/bits.Add64"], apart := false }
def KonstOrdersSaid : Prop := konstOrdersRow.holds Try.pinned (OpenSpec.ofChange konstOrdersSpec)

/-- ITS FALSE NEIGHBOUR: 'it returns false'. Refute it at one input. -/
def konstOrdersWrong : ChangeSpec := { name := "konstOrders", fn := fun _ => fun
  | [d1, d2] => { results := [.lit (.bool false)], args := [d1, d2] }
  | _ => none }
def KonstOrdersWrongFalsely : Prop := konstOrdersRow.holds Try.pinned (OpenSpec.ofChange konstOrdersWrong)

/- THE SECOND FORM. 'bulk': how many values and letters a reading holds, each counted each time it is reached (what is shared counts as often as it is met; a slice's spare places count too). A statement '..UptoSaid' is the law's where the arguments, and the package variables that the reading takes, are together of bulk at most 1048576: NARROWER than '..Said'. Prove '..Said' where nothing that the law and all that it calls make is longer than what came in: it says more and counts as full. Else prove '..UptoSaid'. A law counts once. -/
mutual
def uptoBulk {H : Type} : DataW H → Nat
  | .lit (.string bytes) => bytes.length + 1
  | .lit _ => 1
  | .nil => 1
  | .ptr d => uptoBulk d + 1
  | .slice elems spare => uptoBulkAll elems + uptoBulkAll spare + 1
  | .agg parts => uptoBulkAll parts + 1
  | .iface _ d => uptoBulk d + 1
  | .map entries => uptoBulkEntries entries + 1
  | .held _ => 1
def uptoBulkAll {H : Type} : List (DataW H) → Nat
  | [] => 0
  | d :: r => uptoBulk d + uptoBulkAll r
def uptoBulkEntries {H : Type} : List (Lit × DataW H) → Nat
  | [] => 0
  | x :: r => uptoBulkEntry x + uptoBulkEntries r
def uptoBulkEntry {H : Type} : Lit × DataW H → Nat
  | (.string bytes, d) => bytes.length + uptoBulk d + 1
  | (_, d) => uptoBulk d + 1
 end
def uptoSmall : (H : Type) → List (DataW H) → Bool := fun _ ds => decide (uptoBulkAll ds ≤ 1048576)
def OpenSpec.upto (s : _root_.Go.ChangeSpec) : _root_.Go.OpenSpec := { _root_.Go.OpenSpec.ofChange s with cond := some uptoSmall }

/-- 'mullionlaw07.KonstFolds', WHERE WHAT IT READS IS OF BULK AT MOST 1048576: true; the input reads as it did. -/
def konstFoldsUptoRow : OpenClaim := { program := "ytihchlkoohficaa", sum := "d2c5b38bfa6f78c542efa6e74e13fa6768204e8d2315da52420cc8c861246475", func := "mullion/mullionlaw07.KonstFolds", spec := "konstFolds", inPlace := ["math/bits.Add64"], apart := false, narrowed := true }
def KonstFoldsUptoSaid : Prop := konstFoldsUptoRow.holds Try.pinned (OpenSpec.upto konstFoldsSpec)

/-- 'mullionlaw07.KonstOnes', WHERE WHAT IT READS IS OF BULK AT MOST 1048576: true; the input reads as it did. -/
def konstOnesUptoRow : OpenClaim := { program := "ytihchlkoohficaa", sum := "d2c5b38bfa6f78c542efa6e74e13fa6768204e8d2315da52420cc8c861246475", func := "mullion/mullionlaw07.KonstOnes", spec := "konstOnes", inPlace := ["math/bits.Add64"], apart := false, narrowed := true }
def KonstOnesUptoSaid : Prop := konstOnesUptoRow.holds Try.pinned (OpenSpec.upto konstOnesSpec)

/-- 'mullionlaw07.KonstBack', WHERE WHAT IT READS IS OF BULK AT MOST 1048576: true; the input reads as it did. -/
def konstBackUptoRow : OpenClaim := { program := "ytihchlkoohficaa", sum := "d2c5b38bfa6f78c542efa6e74e13fa6768204e8d2315da52420cc8c861246475", func := "mullion/mullionlaw07.KonstBack", spec := "konstBack", inPlace := ["math/bits.Add64"], apart := false, narrowed := true }
def KonstBackUptoSaid : Prop := konstBackUptoRow.holds Try.pinned (OpenSpec.upto konstBackSpec)

/-- 'mullionlaw07.KonstRing', WHERE WHAT IT READS IS OF BULK AT MOST 1048576: true; the input reads as it did. -/
def konstRingUptoRow : OpenClaim := { program := "ytihchlkoohficaa", sum := "d2c5b38bfa6f78c542efa6e74e13fa6768204e8d2315da52420cc8c861246475", func := "mullion/mullionlaw07.KonstRing", spec := "konstRing", inPlace := ["math/bits.Add64"], apart := false, narrowed := true }
def KonstRingUptoSaid : Prop := konstRingUptoRow.holds Try.pinned (OpenSpec.upto konstRingSpec)

/-- 'mullionlaw07.KonstDivides', WHERE WHAT IT READS IS OF BULK AT MOST 1048576: true; the input reads as it did. -/
def konstDividesUptoRow : OpenClaim := { program := "ytihchlkoohficaa", sum := "d2c5b38bfa6f78c542efa6e74e13fa6768204e8d2315da52420cc8c861246475", func := "mullion/mullionlaw07.KonstDivides", spec := "konstDivides", inPlace := ["math/bits.Add64"], apart := false, narrowed := true }
def KonstDividesUptoSaid : Prop := konstDividesUptoRow.holds Try.pinned (OpenSpec.upto konstDividesSpec)

/-- 'mullionlaw07.KonstOrders', WHERE WHAT IT READS IS OF BULK AT MOST 1048576: true; the input reads as it did. -/
def konstOrdersUptoRow : OpenClaim := { program := "ytihchlkoohficaa", sum := "d2c5b38bfa6f78c542efa6e74e13fa6768204e8d2315da52420cc8c861246475", func := "mullion/mullionlaw07.KonstOrders", spec := "konstOrders", inPlace := ["math/bits.Add64"], apart := false, narrowed := true }
def KonstOrdersUptoSaid : Prop := konstOrdersUptoRow.holds Try.pinned (OpenSpec.upto konstOrdersSpec)

end Rows
end Go.Proofs.Ytihchlkoohficaa
