/-
  DERIVED. GIVEN WITH THE SEED: THE CARDS: each row of YtnpnoohnkbpokaaDoorRows.lean that lists a variable, with what it lists TIED to the program's text (the seventh form; the later family's looks); each row that meets fmt, with fmt's text TOLD by the authors' own Lean function (tested against real Go, not proved from fmt's source: count such statements apart). THE CARD IS WHAT COUNTS. Prove the row's statement (the work); the ties are given (YtnpnoohnkbpokaaDoorTie.lean); close each card by the builder's one call (the guide's Derived/Test/ToyasCard.lean, 'card_holds'). Laid BY PROGRAM, IN A SANDBOX (cutbox-door.mjs). By AI agents, Wed Nov 11 2026. No macro, syntax, notation, axiom, sorry.
-/
import Derived.Test.YtnpnoohnkbpokaaDoorRows
import GoSem.ClaimSeven
namespace Go.Proofs.YtnpnoohnkbpokaaDoor
namespace Rows

/-- THE TIED CARD OF 'inqlaw2.ReleaseOwners'. -/
def releaseOwnersCard : Claim7 := { stood := { row := releaseOwnersRow, standIns := [], harness := (true, "a5c248955c2a60ae4d8ef68e0d5057baf052a9a5b2ae661e788ebe2452ab911b"), looks := true }, kinds := [], alts := [], laidByText := true, laidKinds := [.data, .pinned], laidTests := true, laidLooks := .later }
def ReleaseOwnersCardSaid : Prop := Claim7.holds Tryd.pinned (.plain (OpenSpec.ofChange releaseOwnersSpec)) releaseOwnersCard

/-- THE TIED CARD OF 'inqkeep2.ReleaseOrder'. -/
def releaseOrderCard : Claim7 := { stood := { row := releaseOrderRow, standIns := [], harness := (true, "a5c248955c2a60ae4d8ef68e0d5057baf052a9a5b2ae661e788ebe2452ab911b"), looks := true }, kinds := [], alts := [], laidByText := true, laidKinds := [.data, .data, .data, .data, .sentinel, .sentinel, .pinned], laidTests := true, laidLooks := .later }
def ReleaseOrderCardSaid : Prop := Claim7.holds Tryd.pinned (.plain (OpenSpec.ofChange releaseOrderSpec)) releaseOrderCard

/-- THE TIED CARD OF 'inqkeep2.ReleaseLast'. -/
def releaseLastCard : Claim7 := { stood := { row := releaseLastRow, standIns := [], harness := (true, "a5c248955c2a60ae4d8ef68e0d5057baf052a9a5b2ae661e788ebe2452ab911b"), looks := true }, kinds := [], alts := [], laidByText := true, laidKinds := [.data, .data, .data, .data, .sentinel, .sentinel, .pinned], laidTests := true, laidLooks := .later }
def ReleaseLastCardSaid : Prop := Claim7.holds Tryd.pinned (.plain (OpenSpec.ofChange releaseLastSpec)) releaseLastCard

/-- THE SECOND FORM's CARD OF 'inqlaw2.ReleaseOwners'. -/
def releaseOwnersUptoCard : Claim7 := { stood := { row := releaseOwnersUptoRow, standIns := [], harness := (true, "a5c248955c2a60ae4d8ef68e0d5057baf052a9a5b2ae661e788ebe2452ab911b"), looks := true }, kinds := [], alts := [], laidByText := true, laidKinds := [.data, .pinned], laidTests := true, laidLooks := .later }
def ReleaseOwnersUptoCardSaid : Prop := Claim7.holds Tryd.pinned (.plain (OpenSpec.upto releaseOwnersSpec)) releaseOwnersUptoCard

/-- THE SECOND FORM's CARD OF 'inqkeep2.ReleaseOrder'. -/
def releaseOrderUptoCard : Claim7 := { stood := { row := releaseOrderUptoRow, standIns := [], harness := (true, "a5c248955c2a60ae4d8ef68e0d5057baf052a9a5b2ae661e788ebe2452ab911b"), looks := true }, kinds := [], alts := [], laidByText := true, laidKinds := [.data, .data, .data, .data, .sentinel, .sentinel, .pinned], laidTests := true, laidLooks := .later }
def ReleaseOrderUptoCardSaid : Prop := Claim7.holds Tryd.pinned (.plain (OpenSpec.upto releaseOrderSpec)) releaseOrderUptoCard

/-- THE SECOND FORM's CARD OF 'inqkeep2.ReleaseLast'. -/
def releaseLastUptoCard : Claim7 := { stood := { row := releaseLastUptoRow, standIns := [], harness := (true, "a5c248955c2a60ae4d8ef68e0d5057baf052a9a5b2ae661e788ebe2452ab911b"), looks := true }, kinds := [], alts := [], laidByText := true, laidKinds := [.data, .data, .data, .data, .sentinel, .sentinel, .pinned], laidTests := true, laidLooks := .later }
def ReleaseLastUptoCardSaid : Prop := Claim7.holds Tryd.pinned (.plain (OpenSpec.upto releaseLastSpec)) releaseLastUptoCard
end Rows
end Go.Proofs.YtnpnoohnkbpokaaDoor
