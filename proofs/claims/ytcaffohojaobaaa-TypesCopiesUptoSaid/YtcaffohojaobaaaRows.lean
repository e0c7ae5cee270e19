/-
  NARROWER THAN 'FOR EVERY INPUT', by the rows' own cells (each row's printed sentence says how): TypesTell: loops · TypesFit: loops · TypesSame: loops · TypesFill: loops · TypesTwice: loops · TypesCopies: loops · TypesNest: loops · TypesRelate: loops.
  DERIVED. THE GIVEN ROWS OF THIS SEAT. 8 by the template 'for every input the law returns true; each argument reads behind the call as it read before'; 0 by the template 'total and deterministic' (their statements: YtcaffohojaobaaaTotals.lean).
  GIVEN WITH THE SEED: the statements are not yours to turn. If you find one false, say at which input.
  Laid BY PROGRAM, IN A SANDBOX (cutbox-rows.mjs): the forced cells as the released guide's own fill.sh prints them over the translation a6fa010aeda69d08… (all of the seat's roots in one cut). By AI agents, Wed Nov 11 2026. No macro, syntax, notation, axiom, sorry.
-/
import Derived.Test.YtcaffohojaobaaaChecked
import GoSem.Claim
import GoSem.ClaimJoined
import GoSem.ClaimMapViews
import Derived.JoinedTies
import Derived.KernelRfl
namespace Go.Proofs.Ytcaffohojaobaaa
/- THE CELL 'sum', in the pinned program and in every row, IS THE sha256 OF THE DUMP (.gsa) THAT YtcaffohojaobaaaProg.lean LOADS. Nothing in Lean hashes anything: it is a label: what it is worth is what the hold of that sum in a sandbox is worth. -/
noncomputable def Try.pinned : Pinned := { name := "ytcaffohojaobaaa", sum := "a6fa010aeda69d08ce8744b1ebacb6fb379b316b1f8009e188ed4a41af409833", checked := Try.checked }
namespace Rows
def none {H : Type} : Left H := { results := [], args := [] }

/-- 'mullionlaw02.TypesTell': WHATEVER THE INPUT: true; the input reads as it did. -/
def typesTellSpec : ChangeSpec := { name := "typesTell", fn := fun _ => fun
  | [d] => { results := [.lit (.bool true)], args := [d] }
  | _ => none }
def typesTellRow : OpenClaim := { program := "ytcaffohojaobaaa", sum := "a6fa010aeda69d08ce8744b1ebacb6fb379b316b1f8009e188ed4a41af409833", func := "mullion/mullionlaw02.TypesTell", spec := "typesTell", inPlace := ["internal/abi.NoEscape"], unfollowed := true, recurses := true, loops := true, apart := false }
def TypesTellSaid : Prop := typesTellRow.holds Try.pinned (OpenSpec.ofChange typesTellSpec)

/-- ITS FALSE NEIGHBOUR: 'it returns false'. Refute it at one input. -/
def typesTellWrong : ChangeSpec := { name := "typesTell", fn := fun _ => fun
  | [d] => { results := [.lit (.bool false)], args := [d] }
  | _ => none }
def TypesTellWrongFalsely : Prop := typesTellRow.holds Try.pinned (OpenSpec.ofChange typesTellWrong)

/-- 'mullionlaw02.TypesFit': WHATEVER THE INPUT: true; the input reads as it did. -/
def typesFitSpec : ChangeSpec := { name := "typesFit", fn := fun _ => fun
  | [d1, d2] => { results := [.lit (.bool true)], args := [d1, d2] }
  | _ => none }
def typesFitRow : OpenClaim := { program := "ytcaffohojaobaaa", sum := "a6fa010aeda69d08ce8744b1ebacb6fb379b316b1f8009e188ed4a41af409833", func := "mullion/mullionlaw02.TypesFit", spec := "typesFit", inPlace := ["internal/abi.NoEscape"], unfollowed := true, recurses := true, loops := true, apart := false }
def TypesFitSaid : Prop := typesFitRow.holds Try.pinned (OpenSpec.ofChange typesFitSpec)

/-- ITS FALSE NEIGHBOUR: 'it returns false'. Refute it at one input. -/
def typesFitWrong : ChangeSpec := { name := "typesFit", fn := fun _ => fun
  | [d1, d2] => { results := [.lit (.bool false)], args := [d1, d2] }
  | _ => none }
def TypesFitWrongFalsely : Prop := typesFitRow.holds Try.pinned (OpenSpec.ofChange typesFitWrong)

/-- 'mullionlaw02.TypesSame': WHATEVER THE INPUT: true; the input reads as it did. -/
def typesSameSpec : ChangeSpec := { name := "typesSame", fn := fun _ => fun
  | [d1, d2] => { results := [.lit (.bool true)], args := [d1, d2] }
  | _ => none }
def typesSameRow : OpenClaim := { program := "ytcaffohojaobaaa", sum := "a6fa010aeda69d08ce8744b1ebacb6fb379b316b1f8009e188ed4a41af409833", func := "mullion/mullionlaw02.TypesSame", spec := "typesSame", inPlace := ["internal/abi.NoEscape"], unfollowed := true, recurses := true, loops := true, apart := false }
def TypesSameSaid : Prop := typesSameRow.holds Try.pinned (OpenSpec.ofChange typesSameSpec)

/-- ITS FALSE NEIGHBOUR: 'it returns false'. Refute it at one input. -/
def typesSameWrong : ChangeSpec := { name := "typesSame", fn := fun _ => fun
  | [d1, d2] => { results := [.lit (.bool false)], args := [d1, d2] }
  | _ => none }
def TypesSameWrongFalsely : Prop := typesSameRow.holds Try.pinned (OpenSpec.ofChange typesSameWrong)

/-- 'mullionlaw02.TypesFill': WHATEVER THE INPUT: true; the input reads as it did. -/
def typesFillSpec : ChangeSpec := { name := "typesFill", fn := fun _ => fun
  | [d1, d2, d3] => { results := [.lit (.bool true)], args := [d1, d2, d3] }
  | _ => none }
def typesFillRow : OpenClaim := { program := "ytcaffohojaobaaa", sum := "a6fa010aeda69d08ce8744b1ebacb6fb379b316b1f8009e188ed4a41af409833", func := "mullion/mullionlaw02.TypesFill", spec := "typesFill", inPlace := ["internal/abi.NoEscape"], unfollowed := true, recurses := true, loops := true, apart := false }
def TypesFillSaid : Prop := typesFillRow.holds Try.pinned (OpenSpec.ofChange typesFillSpec)

/-- ITS FALSE NEIGHBOUR: 'it returns false'. Refute it at one input. -/
def typesFillWrong : ChangeSpec := { name := "typesFill", fn := fun _ => fun
  | [d1, d2, d3] => { results := [.lit (.bool false)], args := [d1, d2, d3] }
  | _ => none }
def TypesFillWrongFalsely : Prop := typesFillRow.holds Try.pinned (OpenSpec.ofChange typesFillWrong)

/-- 'mullionlaw02.TypesTwice': WHATEVER THE INPUT: true; the input reads as it did. -/
def typesTwiceSpec : ChangeSpec := { name := "typesTwice", fn := fun _ => fun
  | [d1, d2, d3, d4, d5] => { results := [.lit (.bool true)], args := [d1, d2, d3, d4, d5] }
  | _ => none }
def typesTwiceRow : OpenClaim := { program := "ytcaffohojaobaaa", sum := "a6fa010aeda69d08ce8744b1ebacb6fb379b316b1f8009e188ed4a41af409833", func := "mullion/mullionlaw02.TypesTwice", spec := "typesTwice", inPlace := ["internal/abi.NoEscape"], unfollowed := true, recurses := true, loops := true, apart := false }
def TypesTwiceSaid : Prop := typesTwiceRow.holds Try.pinned (OpenSpec.ofChange typesTwiceSpec)

/-- ITS FALSE NEIGHBOUR: 'it returns false'. Refute it at one input. -/
def typesTwiceWrong : ChangeSpec := { name := "typesTwice", fn := fun _ => fun
  | [d1, d2, d3, d4, d5] => { results := [.lit (.bool false)], args := [d1, d2, d3, d4, d5] }
  | _ => none }
def TypesTwiceWrongFalsely : Prop := typesTwiceRow.holds Try.pinned (OpenSpec.ofChange typesTwiceWrong)

/-- 'mullionlaw02.TypesCopies': WHATEVER THE INPUT: true; the input reads as it did. -/
def typesCopiesSpec : ChangeSpec := { name := "typesCopies", fn := fun _ => fun
  | [d] => { results := [.lit (.bool true)], args := [d] }
  | _ => none }
def typesCopiesRow : OpenClaim := { program := "ytcaffohojaobaaa", sum := "a6fa010aeda69d08ce8744b1ebacb6fb379b316b1f8009e188ed4a41af409833", func := "mullion/mullionlaw02.TypesCopies", spec := "typesCopies", inPlace := ["internal/abi.NoEscape"], unfollowed := true, recurses := true, loops := true, apart := false }
def TypesCopiesSaid : Prop := typesCopiesRow.holds Try.pinned (OpenSpec.ofChange typesCopiesSpec)

/-- ITS FALSE NEIGHBOUR: 'it returns false'. Refute it at one input. -/
def typesCopiesWrong : ChangeSpec := { name := "typesCopies", fn := fun _ => fun
  | [d] => { results := [.lit (.bool false)], args := [d] }
  | _ => none }
def TypesCopiesWrongFalsely : Prop := typesCopiesRow.holds Try.pinned (OpenSpec.ofChange typesCopiesWrong)

/-- 'mullionlaw02.TypesNest': WHATEVER THE INPUT: true; the input reads as it did. -/
def typesNestSpec : ChangeSpec := { name := "typesNest", fn := fun _ => fun
  | [d] => { results := [.lit (.bool true)], args := [d] }
  | _ => none }
def typesNestRow : OpenClaim := { program := "ytcaffohojaobaaa", sum := "a6fa010aeda69d08ce8744b1ebacb6fb379b316b1f8009e188ed4a41af409833", func := "mullion/mullionlaw02.TypesNest", spec := "typesNest", inPlace := ["internal/abi.NoEscape"], unfollowed := true, recurses := true, loops := true, apart := false }
def TypesNestSaid : Prop := typesNestRow.holds Try.pinned (OpenSpec.ofChange typesNestSpec)

/-- ITS FALSE NEIGHBOUR: 'it returns false'. Refute it at one input. -/
def typesNestWrong : ChangeSpec := { name := "typesNest", fn := fun _ => fun
  | [d] => { results := [.lit (.bool false)], args := [d] }
  | _ => none }
def TypesNestWrongFalsely : Prop := typesNestRow.holds Try.pinned (OpenSpec.ofChange typesNestWrong)

/-- 'mullionlaw02.TypesRelate': WHATEVER THE INPUT: true; the input reads as it did. -/
def typesRelateSpec : ChangeSpec := { name := "typesRelate", fn := fun _ => fun
  | [d1, d2, d3] => { results := [.lit (.bool true)], args := [d1, d2, d3] }
  | _ => none }
def typesRelateRow : OpenClaim := { program := "ytcaffohojaobaaa", sum := "a6fa010aeda69d08ce8744b1ebacb6fb379b316b1f8009e188ed4a41af409833", func := "mullion/mullionlaw02.TypesRelate", spec := "typesRelate", inPlace := ["internal/abi.NoEscape"], unfollowed := true, recurses := true, loops := true, apart := false }
def TypesRelateSaid : Prop := typesRelateRow.holds Try.pinned (OpenSpec.ofChange typesRelateSpec)

/-- ITS FALSE NEIGHBOUR: 'it returns false'. Refute it at one input. -/
def typesRelateWrong : ChangeSpec := { name := "typesRelate", fn := fun _ => fun
  | [d1, d2, d3] => { results := [.lit (.bool false)], args := [d1, d2, d3] }
  | _ => none }
def TypesRelateWrongFalsely : Prop := typesRelateRow.holds Try.pinned (OpenSpec.ofChange typesRelateWrong)

/- THE SECOND FORM. 'bulk': how many values and letters a reading holds, each counted each time it is reached (what is shared counts as often as it is met; a slice's spare places count too). A statement '..UptoSaid' is the law's where the arguments, and the package variables that the reading takes, are together of bulk at most 1048576: NARROWER than '..Said'. Prove '..Said' where nothing that the law and all that it calls make is longer than what came in: it says more and counts as full. Else prove '..UptoSaid'. A law counts once. -/
mutual
def uptoBulk {H : Type} : DataW H → Nat
  | .lit (.string bytes) => bytes.length + 1
  | .lit _ => 1
  | .nil => 1
  | .ptr d => uptoBulk d + 1
  | .slice elems spare => uptoBulkAll elems + uptoBulkAll spare + 1
  | .agg parts => uptoBulkAll parts + 1
  | .iface _ d => uptoBulk d + 1
  | .map entries => uptoBulkEntries entries + 1
  | .held _ => 1
def uptoBulkAll {H : Type} : List (DataW H) → Nat
  | [] => 0
  | d :: r => uptoBulk d + uptoBulkAll r
def uptoBulkEntries {H : Type} : List (Lit × DataW H) → Nat
  | [] => 0
  | x :: r => uptoBulkEntry x + uptoBulkEntries r
def uptoBulkEntry {H : Type} : Lit × DataW H → Nat
  | (.string bytes, d) => bytes.length + uptoBulk d + 1
  | (_, d) => uptoBulk d + 1
 end
def uptoSmall : (H : Type) → List (DataW H) → Bool := fun _ ds => decide (uptoBulkAll ds ≤ 1048576)
def OpenSpec.upto (s : _root_.Go.ChangeSpec) : _root_.Go.OpenSpec := { _root_.Go.OpenSpec.ofChange s with cond := some uptoSmall }

/-- 'mullionlaw02.TypesTell', WHERE WHAT IT READS IS OF BULK AT MOST 1048576: true; the input reads as it did. -/
def typesTellUptoRow : OpenClaim := { program := "ytcaffohojaobaaa", sum := "a6fa010aeda69d08ce8744b1ebacb6fb379b316b1f8009e188ed4a41af409833", func := "mullion/mullionlaw02.TypesTell", spec := "typesTell", inPlace := ["internal/abi.NoEscape"], unfollowed := true, recurses := true, loops := true, apart := false, narrowed := true }
def TypesTellUptoSaid : Prop := typesTellUptoRow.holds Try.pinned (OpenSpec.upto typesTellSpec)

/-- 'mullionlaw02.TypesFit', WHERE WHAT IT READS IS OF BULK AT MOST 1048576: true; the input reads as it did. -/
def typesFitUptoRow : OpenClaim := { program := "ytcaffohojaobaaa", sum := "a6fa010aeda69d08ce8744b1ebacb6fb379b316b1f8009e188ed4a41af409833", func := "mullion/mullionlaw02.TypesFit", spec := "typesFit", inPlace := ["internal/abi.NoEscape"], unfollowed := true, recurses := true, loops := true, apart := false, narrowed := true }
def TypesFitUptoSaid : Prop := typesFitUptoRow.holds Try.pinned (OpenSpec.upto typesFitSpec)

/-- 'mullionlaw02.TypesSame', WHERE WHAT IT READS IS OF BULK AT MOST 1048576: true; the input reads as it did. -/
def typesSameUptoRow : OpenClaim := { program := "ytcaffohojaobaaa", sum := "a6fa010aeda69d08ce8744b1ebacb6fb379b316b1f8009e188ed4a41af409833", func := "mullion/mullionlaw02.TypesSame", spec := "typesSame", inPlace := ["internal/abi.NoEscape"], unfollowed := true, recurses := true, loops := true, apart := false, narrowed := true }
def TypesSameUptoSaid : Prop := typesSameUptoRow.holds Try.pinned (OpenSpec.upto typesSameSpec)

/-- 'mullionlaw02.TypesFill', WHERE WHAT IT READS IS OF BULK AT MOST 1048576: true; the input reads as it did. -/
def typesFillUptoRow : OpenClaim := { program := "ytcaffohojaobaaa", sum := "a6fa010aeda69d08ce8744b1ebacb6fb379b316b1f8009e188ed4a41af409833", func := "mullion/mullionlaw02.TypesFill", spec := "typesFill", inPlace := ["internal/abi.NoEscape"], unfollowed := true, recurses := true, loops := true, apart := false, narrowed := true }
def TypesFillUptoSaid : Prop := typesFillUptoRow.holds Try.pinned (OpenSpec.upto typesFillSpec)

/-- 'mullionlaw02.TypesTwice', WHERE WHAT IT READS IS OF BULK AT MOST 1048576: true; the input reads as it did. -/
def typesTwiceUptoRow : OpenClaim := { program := "ytcaffohojaobaaa", sum := "a6fa010aeda69d08ce8744b1ebacb6fb379b316b1f8009e188ed4a41af409833", func := "mullion/mullionlaw02.TypesTwice", spec := "typesTwice", inPlace := ["internal/abi.NoEscape"], unfollowed := true, recurses := true, loops := true, apart := false, narrowed := true }
def TypesTwiceUptoSaid : Prop := typesTwiceUptoRow.holds Try.pinned (OpenSpec.upto typesTwiceSpec)

/-- 'mullionlaw02.TypesCopies', WHERE WHAT IT READS IS OF BULK AT MOST 1048576: true; the input reads as it did. -/
def typesCopiesUptoRow : OpenClaim := { program := "ytcaffohojaobaaa", sum := "a6fa010aeda69d08ce8744b1ebacb6fb379b316b1f8009e188ed4a41af409833", func := "mullion/mullionlaw02.TypesCopies", spec := "typesCopies", inPlace := ["internal/abi.NoEscape"], unfollowed := true, recurses := true, loops := true, apart := false, narrowed := true }
def TypesCopiesUptoSaid : Prop := typesCopiesUptoRow.holds Try.pinned (OpenSpec.upto typesCopiesSpec)

/-- 'mullionlaw02.TypesNest', WHERE WHAT IT READS IS OF BULK AT MOST 1048576: true; the input reads as it did. -/
def typesNestUptoRow : OpenClaim := { program := "ytcaffohojaobaaa", sum := "a6fa010aeda69d08ce8744b1ebacb6fb379b316b1f8009e188ed4a41af409833", func := "mullion/mullionlaw02.TypesNest", spec := "typesNest", inPlace := ["internal/abi.NoEscape"], unfollowed := true, recurses := true, loops := true, apart := false, narrowed := true }
def TypesNestUptoSaid : Prop := typesNestUptoRow.holds Try.pinned (OpenSpec.upto typesNestSpec)

/-- 'mullionlaw02.TypesRelate', WHERE WHAT IT READS IS OF BULK AT MOST 1048576: true; the input reads as it did. -/
def typesRelateUptoRow : OpenClaim := { program := "ytcaffohojaobaaa", sum := "a6fa010aeda69d08ce8744b1ebacb6fb379b316b1f8009e188ed4a41af409833", func := "mullion/mullionlaw02.TypesRelate", spec := "typesRelate", inPlace := ["internal/abi.NoEscape"], unfollowed := true, recurses := true, loops := true, apart := false, narrowed := true }
def TypesRelateUptoSaid : Prop := typesRelateUptoRow.holds Try.pinned (OpenSpec.upto typesRelateSpec)

end Rows
end Go.Proofs.Ytcaffohojaobaaa
