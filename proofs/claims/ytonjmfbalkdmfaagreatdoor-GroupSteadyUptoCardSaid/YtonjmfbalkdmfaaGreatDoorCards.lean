/-
  DERIVED. GIVEN WITH THE SEED: THE CARDS: each row of YtonjmfbalkdmfaaGreatDoorRows.lean that lists a variable, with what it lists TIED to the program's text (the seventh form; the later family's looks); each row that meets fmt, with fmt's text TOLD by the authors' own Lean function (tested against real Go, not proved from fmt's source: count such statements apart). THE CARD IS WHAT COUNTS. Prove the row's statement (the work); the ties are given (YtonjmfbalkdmfaaGreatDoorTie.lean); close each card by the builder's one call (the guide's Derived/Test/ToyasCard.lean, 'card_holds'). Laid BY PROGRAM, IN A SANDBOX (cutbox-door.mjs). By AI agents, Wed Nov 11 2026. No macro, syntax, notation, axiom, sorry.
-/
import Derived.Test.YtonjmfbalkdmfaaGreatDoorRows
import GoSem.ClaimSeven
namespace Go.Proofs.YtonjmfbalkdmfaaGreatDoor
namespace Rows

/-- THE TIED CARD OF 'inqkeep1.GroupSteady'. -/
def groupSteadyCard : Claim7 := { stood := { row := groupSteadyRow, standIns := [], harness := (true, "a4c7cd3f9c5cea77616b3b91ea2bfe55a866ce89558131ccda72f2e76c088956"), looks := false }, kinds := [], alts := [], laidByText := true, laidKinds := [.data, .data, .data, .data, .pinned], laidTests := true, laidLooks := .later }
def GroupSteadyCardSaid : Prop := Claim7.holds Tryz.pinned (.plain (OpenSpec.ofChange groupSteadySpec)) groupSteadyCard

/-- THE SECOND FORM's CARD OF 'inqkeep1.GroupSteady'. -/
def groupSteadyUptoCard : Claim7 := { stood := { row := groupSteadyUptoRow, standIns := [], harness := (true, "a4c7cd3f9c5cea77616b3b91ea2bfe55a866ce89558131ccda72f2e76c088956"), looks := false }, kinds := [], alts := [], laidByText := true, laidKinds := [.data, .data, .data, .data, .pinned], laidTests := true, laidLooks := .later }
def GroupSteadyUptoCardSaid : Prop := Claim7.holds Tryz.pinned (.plain (OpenSpec.upto groupSteadySpec)) groupSteadyUptoCard
end Rows
end Go.Proofs.YtonjmfbalkdmfaaGreatDoor
