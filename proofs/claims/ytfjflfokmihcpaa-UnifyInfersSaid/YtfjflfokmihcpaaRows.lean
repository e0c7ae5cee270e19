/-
  NARROWER THAN 'FOR EVERY INPUT', by the rows' own cells (each row's printed sentence says how): UnifyFinds: loops · UnifyInfers: loops · UnifyFits: loops · UnifyBack: loops · UnifyPlain: loops · UnifyKeeps: loops.
  DERIVED. THE GIVEN ROWS OF THIS SEAT. 6 by the template 'for every input the law returns true; each argument reads behind the call as it read before'; 0 by the template 'total and deterministic' (their statements: YtfjflfokmihcpaaTotals.lean).
  GIVEN WITH THE SEED: the statements are not yours to turn. If you find one false, say at which input.
  Laid BY PROGRAM, IN A SANDBOX (cutbox-rows.mjs): the forced cells as the released guide's own fill.sh prints them over the translation 19f064222ec0cb6b… (all of the seat's roots in one cut). By AI agents, Wed Nov 11 2026. No macro, syntax, notation, axiom, sorry.
-/
import Derived.Test.YtfjflfokmihcpaaChecked
import GoSem.Claim
import GoSem.ClaimJoined
import GoSem.ClaimMapViews
import Derived.JoinedTies
import Derived.KernelRfl
namespace Go.Proofs.Ytfjflfokmihcpaa
/- THE CELL 'sum', in the pinned program and in every row, IS THE sha256 OF THE DUMP (.gsa) THAT YtfjflfokmihcpaaProg.lean LOADS. Nothing in Lean hashes anything: it is a label: what it is worth is what the hold of that sum in a sandbox is worth. -/
noncomputable def Try.pinned : Pinned := { name := "ytfjflfokmihcpaa", sum := "19f064222ec0cb6bbec70805e398dd6df3a14077a5053bdf9c334dfca3fc27ca", checked := Try.checked }
namespace Rows
def none {H : Type} : Left H := { results := [], args := [] }

/-- 'mullionlaw08.UnifyFinds': WHATEVER THE INPUT: true; the input reads as it did. -/
def unifyFindsSpec : ChangeSpec := { name := "unifyFinds", fn := fun _ => fun
  | [d1, d2, d3] => { results := [.lit (.bool true)], args := [d1, d2, d3] }
  | _ => none }
def unifyFindsRow : OpenClaim := { program := "ytfjflfokmihcpaa", sum := "19f064222ec0cb6bbec70805e398dd6df3a14077a5053bdf9c334dfca3fc27ca", func := "mullion/mullionlaw08.UnifyFinds", spec := "unifyFinds", unfollowed := true, recurses := true, loops := true, apart := false }
def UnifyFindsSaid : Prop := unifyFindsRow.holds Try.pinned (OpenSpec.ofChange unifyFindsSpec)

/-- ITS FALSE NEIGHBOUR: 'it returns false'. Refute it at one input. -/
def unifyFindsWrong : ChangeSpec := { name := "unifyFinds", fn := fun _ => fun
  | [d1, d2, d3] => { results := [.lit (.bool false)], args := [d1, d2, d3] }
  | _ => none }
def UnifyFindsWrongFalsely : Prop := unifyFindsRow.holds Try.pinned (OpenSpec.ofChange unifyFindsWrong)

/-- 'mullionlaw08.UnifyInfers': WHATEVER THE INPUT: true; the input reads as it did. -/
def unifyInfersSpec : ChangeSpec := { name := "unifyInfers", fn := fun _ => fun
  | [d1, d2, d3] => { results := [.lit (.bool true)], args := [d1, d2, d3] }
  | _ => none }
def unifyInfersRow : OpenClaim := { program := "ytfjflfokmihcpaa", sum := "19f064222ec0cb6bbec70805e398dd6df3a14077a5053bdf9c334dfca3fc27ca", func := "mullion/mullionlaw08.UnifyInfers", spec := "unifyInfers", unfollowed := true, recurses := true, loops := true, apart := false }
def UnifyInfersSaid : Prop := unifyInfersRow.holds Try.pinned (OpenSpec.ofChange unifyInfersSpec)

/-- ITS FALSE NEIGHBOUR: 'it returns false'. Refute it at one input. -/
def unifyInfersWrong : ChangeSpec := { name := "unifyInfers", fn := fun _ => fun
  | [d1, d2, d3] => { results := [.lit (.bool false)], args := [d1, d2, d3] }
  | _ => none }
def UnifyInfersWrongFalsely : Prop := unifyInfersRow.holds Try.pinned (OpenSpec.ofChange unifyInfersWrong)

/-- 'mullionlaw08.UnifyFits': WHATEVER THE INPUT: true; the input reads as it did. -/
def unifyFitsSpec : ChangeSpec := { name := "unifyFits", fn := fun _ => fun
  | [d1, d2, d3] => { results := [.lit (.bool true)], args := [d1, d2, d3] }
  | _ => none }
def unifyFitsRow : OpenClaim := { program := "ytfjflfokmihcpaa", sum := "19f064222ec0cb6bbec70805e398dd6df3a14077a5053bdf9c334dfca3fc27ca", func := "mullion/mullionlaw08.UnifyFits", spec := "unifyFits", unfollowed := true, recurses := true, loops := true, apart := false }
def UnifyFitsSaid : Prop := unifyFitsRow.holds Try.pinned (OpenSpec.ofChange unifyFitsSpec)

/-- ITS FALSE NEIGHBOUR: 'it returns false'. Refute it at one input. -/
def unifyFitsWrong : ChangeSpec := { name := "unifyFits", fn := fun _ => fun
  | [d1, d2, d3] => { results := [.lit (.bool false)], args := [d1, d2, d3] }
  | _ => none }
def UnifyFitsWrongFalsely : Prop := unifyFitsRow.holds Try.pinned (OpenSpec.ofChange unifyFitsWrong)

/-- 'mullionlaw08.UnifyBack': WHATEVER THE INPUT: true; the input reads as it did. -/
def unifyBackSpec : ChangeSpec := { name := "unifyBack", fn := fun _ => fun
  | [d1, d2, d3] => { results := [.lit (.bool true)], args := [d1, d2, d3] }
  | _ => none }
def unifyBackRow : OpenClaim := { program := "ytfjflfokmihcpaa", sum := "19f064222ec0cb6bbec70805e398dd6df3a14077a5053bdf9c334dfca3fc27ca", func := "mullion/mullionlaw08.UnifyBack", spec := "unifyBack", unfollowed := true, recurses := true, loops := true, apart := false }
def UnifyBackSaid : Prop := unifyBackRow.holds Try.pinned (OpenSpec.ofChange unifyBackSpec)

/-- ITS FALSE NEIGHBOUR: 'it returns false'. Refute it at one input. -/
def unifyBackWrong : ChangeSpec := { name := "unifyBack", fn := fun _ => fun
  | [d1, d2, d3] => { results := [.lit (.bool false)], args := [d1, d2, d3] }
  | _ => none }
def UnifyBackWrongFalsely : Prop := unifyBackRow.holds Try.pinned (OpenSpec.ofChange unifyBackWrong)

/-- 'mullionlaw08.UnifyPlain': WHATEVER THE INPUT: true; the input reads as it did. -/
def unifyPlainSpec : ChangeSpec := { name := "unifyPlain", fn := fun _ => fun
  | [d1, d2] => { results := [.lit (.bool true)], args := [d1, d2] }
  | _ => none }
def unifyPlainRow : OpenClaim := { program := "ytfjflfokmihcpaa", sum := "19f064222ec0cb6bbec70805e398dd6df3a14077a5053bdf9c334dfca3fc27ca", func := "mullion/mullionlaw08.UnifyPlain", spec := "unifyPlain", unfollowed := true, recurses := true, loops := true, apart := false }
def UnifyPlainSaid : Prop := unifyPlainRow.holds Try.pinned (OpenSpec.ofChange unifyPlainSpec)

/-- ITS FALSE NEIGHBOUR: 'it returns false'. Refute it at one input. -/
def unifyPlainWrong : ChangeSpec := { name := "unifyPlain", fn := fun _ => fun
  | [d1, d2] => { results := [.lit (.bool false)], args := [d1, d2] }
  | _ => none }
def UnifyPlainWrongFalsely : Prop := unifyPlainRow.holds Try.pinned (OpenSpec.ofChange unifyPlainWrong)

/-- 'mullionlaw08.UnifyKeeps': WHATEVER THE INPUT: true; the input reads as it did. -/
def unifyKeepsSpec : ChangeSpec := { name := "unifyKeeps", fn := fun _ => fun
  | [d1, d2, d3] => { results := [.lit (.bool true)], args := [d1, d2, d3] }
  | _ => none }
def unifyKeepsRow : OpenClaim := { program := "ytfjflfokmihcpaa", sum := "19f064222ec0cb6bbec70805e398dd6df3a14077a5053bdf9c334dfca3fc27ca", func := "mullion/mullionlaw08.UnifyKeeps", spec := "unifyKeeps", unfollowed := true, recurses := true, loops := true, apart := false }
def UnifyKeepsSaid : Prop := unifyKeepsRow.holds Try.pinned (OpenSpec.ofChange unifyKeepsSpec)

/-- ITS FALSE NEIGHBOUR: 'it returns false'. Refute it at one input. -/
def unifyKeepsWrong : ChangeSpec := { name := "unifyKeeps", fn := fun _ => fun
  | [d1, d2, d3] => { results := [.lit (.bool false)], args := [d1, d2, d3] }
  | _ => none }
def UnifyKeepsWrongFalsely : Prop := unifyKeepsRow.holds Try.pinned (OpenSpec.ofChange unifyKeepsWrong)

/- THE SECOND FORM. 'bulk': how many values and letters a reading holds, each counted each time it is reached (what is shared counts as often as it is met; a slice's spare places count too). A statement '..UptoSaid' is the law's where the arguments, and the package variables that the reading takes, are together of bulk at most 1048576: NARROWER than '..Said'. Prove '..Said' where nothing that the law and all that it calls make is longer than what came in: it says more and counts as full. Else prove '..UptoSaid'. A law counts once. -/
mutual
def uptoBulk {H : Type} : DataW H → Nat
  | .lit (.string bytes) => bytes.length + 1
  | .lit _ => 1
  | .nil => 1
  | .ptr d => uptoBulk d + 1
  | .slice elems spare => uptoBulkAll elems + uptoBulkAll spare + 1
  | .agg parts => uptoBulkAll parts + 1
  | .iface _ d => uptoBulk d + 1
  | .map entries => uptoBulkEntries entries + 1
  | .held _ => 1
def uptoBulkAll {H : Type} : List (DataW H) → Nat
  | [] => 0
  | d :: r => uptoBulk d + uptoBulkAll r
def uptoBulkEntries {H : Type} : List (Lit × DataW H) → Nat
  | [] => 0
  | x :: r => uptoBulkEntry x + uptoBulkEntries r
def uptoBulkEntry {H : Type} : Lit × DataW H → Nat
  | (.string bytes, d) => bytes.length + uptoBulk d + 1
  | (_, d) => uptoBulk d + 1
 end
def uptoSmall : (H : Type) → List (DataW H) → Bool := fun _ ds => decide (uptoBulkAll ds ≤ 1048576)
def OpenSpec.upto (s : _root_.Go.ChangeSpec) : _root_.Go.OpenSpec := { _root_.Go.OpenSpec.ofChange s with cond := some uptoSmall }

/-- 'mullionlaw08.UnifyFinds', WHERE WHAT IT READS IS OF BULK AT MOST 1048576: true; the input reads as it did. -/
def unifyFindsUptoRow : OpenClaim := { program := "ytfjflfokmihcpaa", sum := "19f064222ec0cb6bbec70805e398dd6df3a14077a5053bdf9c334dfca3fc27ca", func := "mullion/mullionlaw08.UnifyFinds", spec := "unifyFinds", unfollowed := true, recurses := true, loops := true, apart := false, narrowed := true }
def UnifyFindsUptoSaid : Prop := unifyFindsUptoRow.holds Try.pinned (OpenSpec.upto unifyFindsSpec)

/-- 'mullionlaw08.UnifyInfers', WHERE WHAT IT READS IS OF BULK AT MOST 1048576: true; the input reads as it did. -/
def unifyInfersUptoRow : OpenClaim := { program := "ytfjflfokmihcpaa", sum := "19f064222ec0cb6bbec70805e398dd6df3a14077a5053bdf9c334dfca3fc27ca", func := "mullion/mullionlaw08.UnifyInfers", spec := "unifyInfers", unfollowed := true, recurses := true, loops := true, apart := false, narrowed := true }
def UnifyInfersUptoSaid : Prop := unifyInfersUptoRow.holds Try.pinned (OpenSpec.upto unifyInfersSpec)

/-- 'mullionlaw08.UnifyFits', WHERE WHAT IT READS IS OF BULK AT MOST 1048576: true; the input reads as it did. -/
def unifyFitsUptoRow : OpenClaim := { program := "ytfjflfokmihcpaa", sum := "19f064222ec0cb6bbec70805e398dd6df3a14077a5053bdf9c334dfca3fc27ca", func := "mullion/mullionlaw08.UnifyFits", spec := "unifyFits", unfollowed := true, recurses := true, loops := true, apart := false, narrowed := true }
def UnifyFitsUptoSaid : Prop := unifyFitsUptoRow.holds Try.pinned (OpenSpec.upto unifyFitsSpec)

/-- 'mullionlaw08.UnifyBack', WHERE WHAT IT READS IS OF BULK AT MOST 1048576: true; the input reads as it did. -/
def unifyBackUptoRow : OpenClaim := { program := "ytfjflfokmihcpaa", sum := "19f064222ec0cb6bbec70805e398dd6df3a14077a5053bdf9c334dfca3fc27ca", func := "mullion/mullionlaw08.UnifyBack", spec := "unifyBack", unfollowed := true, recurses := true, loops := true, apart := false, narrowed := true }
def UnifyBackUptoSaid : Prop := unifyBackUptoRow.holds Try.pinned (OpenSpec.upto unifyBackSpec)

/-- 'mullionlaw08.UnifyPlain', WHERE WHAT IT READS IS OF BULK AT MOST 1048576: true; the input reads as it did. -/
def unifyPlainUptoRow : OpenClaim := { program := "ytfjflfokmihcpaa", sum := "19f064222ec0cb6bbec70805e398dd6df3a14077a5053bdf9c334dfca3fc27ca", func := "mullion/mullionlaw08.UnifyPlain", spec := "unifyPlain", unfollowed := true, recurses := true, loops := true, apart := false, narrowed := true }
def UnifyPlainUptoSaid : Prop := unifyPlainUptoRow.holds Try.pinned (OpenSpec.upto unifyPlainSpec)

/-- 'mullionlaw08.UnifyKeeps', WHERE WHAT IT READS IS OF BULK AT MOST 1048576: true; the input reads as it did. -/
def unifyKeepsUptoRow : OpenClaim := { program := "ytfjflfokmihcpaa", sum := "19f064222ec0cb6bbec70805e398dd6df3a14077a5053bdf9c334dfca3fc27ca", func := "mullion/mullionlaw08.UnifyKeeps", spec := "unifyKeeps", unfollowed := true, recurses := true, loops := true, apart := false, narrowed := true }
def UnifyKeepsUptoSaid : Prop := unifyKeepsUptoRow.holds Try.pinned (OpenSpec.upto unifyKeepsSpec)

end Rows
end Go.Proofs.Ytfjflfokmihcpaa
