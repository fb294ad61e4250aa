/-
  DERIVED. GIVEN WITH THE SEED: THE CARDS: each row of YtnpnoohnkbpokaaGreatDoorRows.lean that lists a variable, with what it lists TIED to the program's text (the seventh form; the later family's looks); each row that meets fmt, with fmt's text TOLD by the authors' own Lean function (tested against real Go, not proved from fmt's source: count such statements apart). THE CARD IS WHAT COUNTS. Prove the row's statement (the work); the ties are given (YtnpnoohnkbpokaaGreatDoorTie.lean); close each card by the builder's one call (the guide's Derived/Test/ToyasCard.lean, 'card_holds'). Laid BY PROGRAM, IN A SANDBOX (cutbox-door.mjs). By AI agents, Wed Nov 11 2026. No macro, syntax, notation, axiom, sorry.
-/
import Derived.Test.YtnpnoohnkbpokaaGreatDoorRows
import GoSem.ClaimSeven
namespace Go.Proofs.YtnpnoohnkbpokaaGreatDoor
namespace Rows

/-- THE TIED CARD OF 'inqlaw2.ReleaseVersions'. -/
def releaseVersionsCard : Claim7 := { stood := { row := releaseVersionsRow, standIns := [], harness := (true, "56a2fb0465148a13ea57e33a300f7d1c054e9791b963b6e33cc32a4bc3c5d2db"), looks := true }, kinds := [], alts := [], laidByText := true, laidKinds := [.data, .data, .data, .data, .sentinel, .sentinel, .pinned], laidTests := true, laidLooks := .later }
def ReleaseVersionsCardSaid : Prop := Claim7.holds Tryz.pinned (.plain (OpenSpec.ofChange releaseVersionsSpec)) releaseVersionsCard

/-- THE SECOND FORM's CARD OF 'inqlaw2.ReleaseVersions'. -/
def releaseVersionsUptoCard : Claim7 := { stood := { row := releaseVersionsUptoRow, standIns := [], harness := (true, "56a2fb0465148a13ea57e33a300f7d1c054e9791b963b6e33cc32a4bc3c5d2db"), looks := true }, kinds := [], alts := [], laidByText := true, laidKinds := [.data, .data, .data, .data, .sentinel, .sentinel, .pinned], laidTests := true, laidLooks := .later }
def ReleaseVersionsUptoCardSaid : Prop := Claim7.holds Tryz.pinned (.plain (OpenSpec.upto releaseVersionsSpec)) releaseVersionsUptoCard
end Rows
end Go.Proofs.YtnpnoohnkbpokaaGreatDoor
