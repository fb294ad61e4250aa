/-
  DERIVED. GIVEN WITH THE SEED: THE CARDS: each row of YtooilpblbkgloaaGreatDoorRows.lean that lists a variable, with what it lists TIED to the program's text (the seventh form; the later family's looks); each row that meets fmt, with fmt's text TOLD by the authors' own Lean function (tested against real Go, not proved from fmt's source: count such statements apart). THE CARD IS WHAT COUNTS. Prove the row's statement (the work); the ties are given (YtooilpblbkgloaaGreatDoorTie.lean); close each card by the builder's one call (the guide's Derived/Test/ToyasCard.lean, 'card_holds'). Laid BY PROGRAM, IN A SANDBOX (cutbox-door.mjs). By AI agents, Wed Nov 11 2026. No macro, syntax, notation, axiom, sorry.
-/
import Derived.Test.YtooilpblbkgloaaGreatDoorRows
import GoSem.ClaimSeven
namespace Go.Proofs.YtooilpblbkgloaaGreatDoor
namespace Rows

/-- THE TIED CARD OF 'inqlaw1.GroupReads'. -/
def groupReadsCard : Claim7 := { stood := { row := groupReadsRow, standIns := [], harness := (true, "4b2cd1a475daa3c417ff01801195e3fddfc7890dc58ec259abf934c5b910e04d"), looks := true }, kinds := [], alts := [], laidByText := true, laidKinds := [.data, .data, .data, .data, .sentinel, .sentinel, .pinned], laidTests := true, laidLooks := .later }
def GroupReadsCardSaid : Prop := Claim7.holds Tryz.pinned (.plain (OpenSpec.ofChange groupReadsSpec)) groupReadsCard

/-- THE TIED CARD OF 'inqkeep1.GroupCarried'. -/
def groupCarriedCard : Claim7 := { stood := { row := groupCarriedRow, standIns := [], harness := (true, "4b2cd1a475daa3c417ff01801195e3fddfc7890dc58ec259abf934c5b910e04d"), looks := true }, kinds := [], alts := [], laidByText := true, laidKinds := [.data, .data, .data, .data, .sentinel, .sentinel, .pinned], laidTests := true, laidLooks := .later }
def GroupCarriedCardSaid : Prop := Claim7.holds Tryz.pinned (.plain (OpenSpec.ofChange groupCarriedSpec)) groupCarriedCard

/-- THE SECOND FORM's CARD OF 'inqlaw1.GroupReads'. -/
def groupReadsUptoCard : Claim7 := { stood := { row := groupReadsUptoRow, standIns := [], harness := (true, "4b2cd1a475daa3c417ff01801195e3fddfc7890dc58ec259abf934c5b910e04d"), looks := true }, kinds := [], alts := [], laidByText := true, laidKinds := [.data, .data, .data, .data, .sentinel, .sentinel, .pinned], laidTests := true, laidLooks := .later }
def GroupReadsUptoCardSaid : Prop := Claim7.holds Tryz.pinned (.plain (OpenSpec.upto groupReadsSpec)) groupReadsUptoCard

/-- THE SECOND FORM's CARD OF 'inqkeep1.GroupCarried'. -/
def groupCarriedUptoCard : Claim7 := { stood := { row := groupCarriedUptoRow, standIns := [], harness := (true, "4b2cd1a475daa3c417ff01801195e3fddfc7890dc58ec259abf934c5b910e04d"), looks := true }, kinds := [], alts := [], laidByText := true, laidKinds := [.data, .data, .data, .data, .sentinel, .sentinel, .pinned], laidTests := true, laidLooks := .later }
def GroupCarriedUptoCardSaid : Prop := Claim7.holds Tryz.pinned (.plain (OpenSpec.upto groupCarriedSpec)) groupCarriedUptoCard
end Rows
end Go.Proofs.YtooilpblbkgloaaGreatDoor
