/-
  DERIVED. GIVEN WITH THE SEED: THE CARDS: each row of YtihchlkoohficaaDoorRows.lean that lists a variable, with what it lists TIED to the program's text (the seventh form; the later family's looks); each row that meets fmt, with fmt's text TOLD by the authors' own Lean function (tested against real Go, not proved from fmt's source: count such statements apart). THE CARD IS WHAT COUNTS. Prove the row's statement (the work); the ties are given (YtihchlkoohficaaDoorTie.lean); close each card by the builder's one call (the guide's Derived/Test/ToyasCard.lean, 'card_holds'). Laid BY PROGRAM, IN A SANDBOX (cutbox-door.mjs). By AI agents, Wed Nov 11 2026. No macro, syntax, notation, axiom, sorry.
-/
import Derived.Test.YtihchlkoohficaaDoorRows
import GoSem.ClaimSeven
namespace Go.Proofs.YtihchlkoohficaaDoor
namespace Rows

/-- THE TIED CARD OF 'mullionlaw07.KonstWords'. -/
def konstWordsCard : Claim7 := { stood := { row := konstWordsRow, standIns := [], harness := (true, "cee06ea5cf637f06cfb5123d6d74ff9d2c6fdf4c92c2c2d52bd037e36d977999"), looks := false }, kinds := [], alts := [], laidByText := true, laidKinds := [.data, .data, .data], laidTests := true, laidLooks := .later }
def KonstWordsCardSaid : Prop := Claim7.holds Tryd.pinned (.plain (OpenSpec.ofChange konstWordsSpec)) konstWordsCard

/-- THE SECOND FORM's CARD OF 'mullionlaw07.KonstWords'. -/
def konstWordsUptoCard : Claim7 := { stood := { row := konstWordsUptoRow, standIns := [], harness := (true, "cee06ea5cf637f06cfb5123d6d74ff9d2c6fdf4c92c2c2d52bd037e36d977999"), looks := false }, kinds := [], alts := [], laidByText := true, laidKinds := [.data, .data, .data], laidTests := true, laidLooks := .later }
def KonstWordsUptoCardSaid : Prop := Claim7.holds Tryd.pinned (.plain (OpenSpec.upto konstWordsSpec)) konstWordsUptoCard
end Rows
end Go.Proofs.YtihchlkoohficaaDoor
