/-
  DERIVED. GIVEN WITH THE SEED: THE CARDS: each row of YtihnpbhcddapdabGreatDoorRows.lean that lists a variable, with what it lists TIED to the program's text (the seventh form; the later family's looks); each row that meets fmt, with fmt's text TOLD by the authors' own Lean function (tested against real Go, not proved from fmt's source: count such statements apart). THE CARD IS WHAT COUNTS. Prove the row's statement (the work); the ties are given (YtihnpbhcddapdabGreatDoorTie.lean); close each card by the builder's one call (the guide's Derived/Test/ToyasCard.lean, 'card_holds'). Laid BY PROGRAM, IN A SANDBOX (cutbox-door.mjs). By AI agents, Wed Nov 11 2026. No macro, syntax, notation, axiom, sorry.
-/
import Derived.Test.YtihnpbhcddapdabGreatDoorRows
import GoSem.ClaimSeven
namespace Go.Proofs.YtihnpbhcddapdabGreatDoor
namespace Rows

/-- THE TIED CARD OF 'inqkeep1.StackCarried'. -/
def stackCarriedCard : Claim7 := { stood := { row := stackCarriedRow, standIns := [], harness := (true, "f6655e08b7d8be70a6e74d05961ed6aa498cd084a99399cd2345d14ea0a99754"), looks := true }, kinds := [], alts := [], laidByText := true, laidKinds := [.data, .data, .data, .sentinel, .sentinel], laidTests := true, laidLooks := .later }
def StackCarriedCardSaid : Prop := Claim7.holds Tryz.pinned (.plain (OpenSpec.ofChange stackCarriedSpec)) stackCarriedCard

/-- THE TIED CARD OF 'inqkeep1.StackFolds'. -/
def stackFoldsCard : Claim7 := { stood := { row := stackFoldsRow, standIns := [], harness := (true, "f6655e08b7d8be70a6e74d05961ed6aa498cd084a99399cd2345d14ea0a99754"), looks := true }, kinds := [], alts := [], laidByText := true, laidKinds := [.data, .data, .data, .sentinel, .sentinel], laidTests := true, laidLooks := .later }
def StackFoldsCardSaid : Prop := Claim7.holds Tryz.pinned (.plain (OpenSpec.ofChange stackFoldsSpec)) stackFoldsCard

/-- THE TIED CARD OF 'inqkeep1.StackPairs'. -/
def stackPairsCard : Claim7 := { stood := { row := stackPairsRow, standIns := [], harness := (true, "f6655e08b7d8be70a6e74d05961ed6aa498cd084a99399cd2345d14ea0a99754"), looks := true }, kinds := [], alts := [], laidByText := true, laidKinds := [.data, .data, .data, .sentinel, .sentinel], laidTests := true, laidLooks := .later }
def StackPairsCardSaid : Prop := Claim7.holds Tryz.pinned (.plain (OpenSpec.ofChange stackPairsSpec)) stackPairsCard

/-- THE TIED CARD OF 'inqkeep1.StackCutEnds'. -/
def stackCutEndsCard : Claim7 := { stood := { row := stackCutEndsRow, standIns := [], harness := (true, "f6655e08b7d8be70a6e74d05961ed6aa498cd084a99399cd2345d14ea0a99754"), looks := true }, kinds := [], alts := [], laidByText := true, laidKinds := [.data, .data, .data, .sentinel, .sentinel], laidTests := true, laidLooks := .later }
def StackCutEndsCardSaid : Prop := Claim7.holds Tryz.pinned (.plain (OpenSpec.ofChange stackCutEndsSpec)) stackCutEndsCard

/-- THE SECOND FORM's CARD OF 'inqkeep1.StackCarried'. -/
def stackCarriedUptoCard : Claim7 := { stood := { row := stackCarriedUptoRow, standIns := [], harness := (true, "f6655e08b7d8be70a6e74d05961ed6aa498cd084a99399cd2345d14ea0a99754"), looks := true }, kinds := [], alts := [], laidByText := true, laidKinds := [.data, .data, .data, .sentinel, .sentinel], laidTests := true, laidLooks := .later }
def StackCarriedUptoCardSaid : Prop := Claim7.holds Tryz.pinned (.plain (OpenSpec.upto stackCarriedSpec)) stackCarriedUptoCard

/-- THE SECOND FORM's CARD OF 'inqkeep1.StackFolds'. -/
def stackFoldsUptoCard : Claim7 := { stood := { row := stackFoldsUptoRow, standIns := [], harness := (true, "f6655e08b7d8be70a6e74d05961ed6aa498cd084a99399cd2345d14ea0a99754"), looks := true }, kinds := [], alts := [], laidByText := true, laidKinds := [.data, .data, .data, .sentinel, .sentinel], laidTests := true, laidLooks := .later }
def StackFoldsUptoCardSaid : Prop := Claim7.holds Tryz.pinned (.plain (OpenSpec.upto stackFoldsSpec)) stackFoldsUptoCard

/-- THE SECOND FORM's CARD OF 'inqkeep1.StackPairs'. -/
def stackPairsUptoCard : Claim7 := { stood := { row := stackPairsUptoRow, standIns := [], harness := (true, "f6655e08b7d8be70a6e74d05961ed6aa498cd084a99399cd2345d14ea0a99754"), looks := true }, kinds := [], alts := [], laidByText := true, laidKinds := [.data, .data, .data, .sentinel, .sentinel], laidTests := true, laidLooks := .later }
def StackPairsUptoCardSaid : Prop := Claim7.holds Tryz.pinned (.plain (OpenSpec.upto stackPairsSpec)) stackPairsUptoCard

/-- THE SECOND FORM's CARD OF 'inqkeep1.StackCutEnds'. -/
def stackCutEndsUptoCard : Claim7 := { stood := { row := stackCutEndsUptoRow, standIns := [], harness := (true, "f6655e08b7d8be70a6e74d05961ed6aa498cd084a99399cd2345d14ea0a99754"), looks := true }, kinds := [], alts := [], laidByText := true, laidKinds := [.data, .data, .data, .sentinel, .sentinel], laidTests := true, laidLooks := .later }
def StackCutEndsUptoCardSaid : Prop := Claim7.holds Tryz.pinned (.plain (OpenSpec.upto stackCutEndsSpec)) stackCutEndsUptoCard
end Rows
end Go.Proofs.YtihnpbhcddapdabGreatDoor
