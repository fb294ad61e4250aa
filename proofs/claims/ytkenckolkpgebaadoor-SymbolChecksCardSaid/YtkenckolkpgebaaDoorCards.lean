/-
  DERIVED. GIVEN WITH THE SEED: THE CARDS: each row of YtkenckolkpgebaaDoorRows.lean that lists a variable, with what it lists TIED to the program's text (the seventh form; the later family's looks); each row that meets fmt, with fmt's text TOLD by the authors' own Lean function (tested against real Go, not proved from fmt's source: count such statements apart). THE CARD IS WHAT COUNTS. Prove the row's statement (the work); the ties are given (YtkenckolkpgebaaDoorTie.lean); close each card by the builder's one call (the guide's Derived/Test/ToyasCard.lean, 'card_holds'). Laid BY PROGRAM, IN A SANDBOX (cutbox-door.mjs). By AI agents, Wed Nov 11 2026. No macro, syntax, notation, axiom, sorry.
-/
import Derived.Test.YtkenckolkpgebaaDoorRows
import GoSem.ClaimSeven
namespace Go.Proofs.YtkenckolkpgebaaDoor
namespace Rows

/-- THE TIED CARD OF 'inqlaw2.SymbolChecks'. -/
def symbolChecksCard : Claim7 := { stood := { row := symbolChecksRow, standIns := [], harness := (true, "9b86a0cec6cba6518163b2fd64bcb4347487ff2297bcc9b3a0161a4d1c3a2f36"), looks := false }, kinds := [], alts := [], laidByText := true, laidKinds := [.data, .pinned], laidTests := true, laidLooks := .later }
def SymbolChecksCardSaid : Prop := Claim7.holds Tryd.pinned (.plain (OpenSpec.ofChange symbolChecksSpec)) symbolChecksCard

/-- THE SECOND FORM's CARD OF 'inqlaw2.SymbolChecks'. -/
def symbolChecksUptoCard : Claim7 := { stood := { row := symbolChecksUptoRow, standIns := [], harness := (true, "9b86a0cec6cba6518163b2fd64bcb4347487ff2297bcc9b3a0161a4d1c3a2f36"), looks := false }, kinds := [], alts := [], laidByText := true, laidKinds := [.data, .pinned], laidTests := true, laidLooks := .later }
def SymbolChecksUptoCardSaid : Prop := Claim7.holds Tryd.pinned (.plain (OpenSpec.upto symbolChecksSpec)) symbolChecksUptoCard
end Rows
end Go.Proofs.YtkenckolkpgebaaDoor
