/-
  DERIVED. GIVEN WITH THE SEED: THE CARDS: each row of YtkenckolkpgebaaGreatDoorRows.lean that lists a variable, with what it lists TIED to the program's text (the seventh form; the later family's looks); each row that meets fmt, with fmt's text TOLD by the authors' own Lean function (tested against real Go, not proved from fmt's source: count such statements apart). THE CARD IS WHAT COUNTS. Prove the row's statement (the work); the ties are given (YtkenckolkpgebaaGreatDoorTie.lean); close each card by the builder's one call (the guide's Derived/Test/ToyasCard.lean, 'card_holds'). Laid BY PROGRAM, IN A SANDBOX (cutbox-door.mjs). By AI agents, Wed Nov 11 2026. No macro, syntax, notation, axiom, sorry.
-/
import Derived.Test.YtkenckolkpgebaaGreatDoorRows
import GoSem.ClaimSeven
namespace Go.Proofs.YtkenckolkpgebaaGreatDoor
namespace Rows

/-- THE TIED CARD OF 'inqkeep1.StackPairs'. -/
def stackPairsCard : Claim7 := { stood := { row := stackPairsRow, standIns := [], harness := (true, "624789cb4057e230891458c0e5f114f4e703b9994c1a98639f7dfdf73d1423a1"), looks := true }, kinds := [], alts := [], laidByText := true, laidKinds := [.data, .data, .data, .sentinel, .sentinel], laidTests := true, laidLooks := .later }
def StackPairsCardSaid : Prop := Claim7.holds Tryz.pinned (.plain (OpenSpec.ofChange stackPairsSpec)) stackPairsCard

/-- THE SECOND FORM's CARD OF 'inqkeep1.StackPairs'. -/
def stackPairsUptoCard : Claim7 := { stood := { row := stackPairsUptoRow, standIns := [], harness := (true, "624789cb4057e230891458c0e5f114f4e703b9994c1a98639f7dfdf73d1423a1"), looks := true }, kinds := [], alts := [], laidByText := true, laidKinds := [.data, .data, .data, .sentinel, .sentinel], laidTests := true, laidLooks := .later }
def StackPairsUptoCardSaid : Prop := Claim7.holds Tryz.pinned (.plain (OpenSpec.upto stackPairsSpec)) stackPairsUptoCard
end Rows
end Go.Proofs.YtkenckolkpgebaaGreatDoor
