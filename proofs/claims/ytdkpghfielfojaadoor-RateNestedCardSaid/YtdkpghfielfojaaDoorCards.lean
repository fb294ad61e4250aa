/-
  DERIVED. GIVEN WITH THE SEED: THE CARDS: each row of YtdkpghfielfojaaDoorRows.lean that lists a variable, with what it lists TIED to the program's text (the seventh form; the later family's looks); each row that meets fmt, with fmt's text TOLD by the authors' own Lean function (tested against real Go, not proved from fmt's source: count such statements apart). THE CARD IS WHAT COUNTS. Prove the row's statement (the work); the ties are given (YtdkpghfielfojaaDoorTie.lean); close each card by the builder's one call (the guide's Derived/Test/ToyasCard.lean, 'card_holds'). Laid BY PROGRAM, IN A SANDBOX (cutbox-door.mjs). By AI agents, Wed Nov 11 2026. No macro, syntax, notation, axiom, sorry.
-/
import Derived.Test.YtdkpghfielfojaaDoorRows
import GoSem.ClaimSeven
namespace Go.Proofs.YtdkpghfielfojaaDoor
namespace Rows

/-- THE TIED CARD OF 'inqlaw1.RateSamples'. -/
def rateSamplesCard : Claim7 := { stood := { row := rateSamplesRow, standIns := [], harness := (true, "b9f42c5b1229749b668505563e9c3d669563512aaf87dfacdae629eee316a213"), looks := true }, kinds := [], alts := [], laidByText := true, laidKinds := [.data, .data, .data, .sentinel, .sentinel], laidTests := true, laidLooks := .later }
def RateSamplesCardSaid : Prop := Claim7.holds Tryd.pinned (.plain (OpenSpec.ofChange rateSamplesSpec)) rateSamplesCard

/-- THE TIED CARD OF 'inqkeep1.RateNested'. -/
def rateNestedCard : Claim7 := { stood := { row := rateNestedRow, standIns := [], harness := (true, "b9f42c5b1229749b668505563e9c3d669563512aaf87dfacdae629eee316a213"), looks := true }, kinds := [], alts := [], laidByText := true, laidKinds := [.data, .data, .data, .sentinel, .sentinel], laidTests := true, laidLooks := .later }
def RateNestedCardSaid : Prop := Claim7.holds Tryd.pinned (.plain (OpenSpec.ofChange rateNestedSpec)) rateNestedCard

/-- THE SECOND FORM's CARD OF 'inqlaw1.RateSamples'. -/
def rateSamplesUptoCard : Claim7 := { stood := { row := rateSamplesUptoRow, standIns := [], harness := (true, "b9f42c5b1229749b668505563e9c3d669563512aaf87dfacdae629eee316a213"), looks := true }, kinds := [], alts := [], laidByText := true, laidKinds := [.data, .data, .data, .sentinel, .sentinel], laidTests := true, laidLooks := .later }
def RateSamplesUptoCardSaid : Prop := Claim7.holds Tryd.pinned (.plain (OpenSpec.upto rateSamplesSpec)) rateSamplesUptoCard

/-- THE SECOND FORM's CARD OF 'inqkeep1.RateNested'. -/
def rateNestedUptoCard : Claim7 := { stood := { row := rateNestedUptoRow, standIns := [], harness := (true, "b9f42c5b1229749b668505563e9c3d669563512aaf87dfacdae629eee316a213"), looks := true }, kinds := [], alts := [], laidByText := true, laidKinds := [.data, .data, .data, .sentinel, .sentinel], laidTests := true, laidLooks := .later }
def RateNestedUptoCardSaid : Prop := Claim7.holds Tryd.pinned (.plain (OpenSpec.upto rateNestedSpec)) rateNestedUptoCard
end Rows
end Go.Proofs.YtdkpghfielfojaaDoor
