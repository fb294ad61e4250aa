/-
  No cell of these rows narrows 'for every input' (looked for: loops, veiled, ifaces, maps, wideKeys, modest, calm, conditions, laid).
  DERIVED. THE GIVEN ROWS OF THIS SEAT. 4 by the template 'for every input the law returns true; each argument reads behind the call as it read before'; 0 by the template 'total and deterministic' (their statements: YtdkpghfielfojaaTotals.lean).
  GIVEN WITH THE SEED: the statements are not yours to turn. If you find one false, say at which input.
  Laid BY PROGRAM, IN A SANDBOX (cutbox-rows.mjs): the forced cells as the released guide's own fill.sh prints them over the translation 4ddc3ee01135fa3a… (all of the seat's roots in one cut). By AI agents, Wed Nov 11 2026. No macro, syntax, notation, axiom, sorry.
-/
import Derived.Test.YtdkpghfielfojaaChecked
import GoSem.Claim
import GoSem.ClaimJoined
import GoSem.ClaimMapViews
import Derived.JoinedTies
import Derived.KernelRfl
namespace Go.Proofs.Ytdkpghfielfojaa
/- THE CELL 'sum', in the pinned program and in every row, IS THE sha256 OF THE DUMP (.gsa) THAT YtdkpghfielfojaaProg.lean LOADS. Nothing in Lean hashes anything: it is a label: what it is worth is what the hold of that sum in a sandbox is worth. -/
noncomputable def Try.pinned : Pinned := { name := "ytdkpghfielfojaa", sum := "4ddc3ee01135fa3ac1a3d9ba6fe65a64e37038947421b5f490f0a017135d900c", checked := Try.checked }
namespace Rows
def none {H : Type} : Left H := { results := [], args := [] }

/-- 'inqlaw1.RateShares': WHATEVER THE INPUT: true; the input reads as it did. -/
def rateSharesSpec : ChangeSpec := { name := "rateShares", fn := fun _ => fun
  | [d1, d2, d3] => { results := [.lit (.bool true)], args := [d1, d2, d3] }
  | _ => none }
def rateSharesRow : OpenClaim := { program := "ytdkpghfielfojaa", sum := "4ddc3ee01135fa3ac1a3d9ba6fe65a64e37038947421b5f490f0a017135d900c", func := "inquest/inqlaw1.RateShares", spec := "rateShares", inPlace := ["internal/bytealg.IndexByteString"], unfollowed := true, recurses := true, apart := false }
def RateSharesSaid : Prop := rateSharesRow.holds Try.pinned (OpenSpec.ofChange rateSharesSpec)

/-- ITS FALSE NEIGHBOUR: 'it returns false'. Refute it at one input. -/
def rateSharesWrong : ChangeSpec := { name := "rateShares", fn := fun _ => fun
  | [d1, d2, d3] => { results := [.lit (.bool false)], args := [d1, d2, d3] }
  | _ => none }
def RateSharesWrongFalsely : Prop := rateSharesRow.holds Try.pinned (OpenSpec.ofChange rateSharesWrong)

/-- 'inqlaw1.RateSpikes': WHATEVER THE INPUT: true; the input reads as it did. -/
def rateSpikesSpec : ChangeSpec := { name := "rateSpikes", fn := fun _ => fun
  | [d1, d2, d3] => { results := [.lit (.bool true)], args := [d1, d2, d3] }
  | _ => none }
def rateSpikesRow : OpenClaim := { program := "ytdkpghfielfojaa", sum := "4ddc3ee01135fa3ac1a3d9ba6fe65a64e37038947421b5f490f0a017135d900c", func := "inquest/inqlaw1.RateSpikes", spec := "rateSpikes", unfollowed := true, recurses := true, apart := false }
def RateSpikesSaid : Prop := rateSpikesRow.holds Try.pinned (OpenSpec.ofChange rateSpikesSpec)

/-- ITS FALSE NEIGHBOUR: 'it returns false'. Refute it at one input. -/
def rateSpikesWrong : ChangeSpec := { name := "rateSpikes", fn := fun _ => fun
  | [d1, d2, d3] => { results := [.lit (.bool false)], args := [d1, d2, d3] }
  | _ => none }
def RateSpikesWrongFalsely : Prop := rateSpikesRow.holds Try.pinned (OpenSpec.ofChange rateSpikesWrong)

/-- 'inqkeep1.RatePours': WHATEVER THE INPUT: true; the input reads as it did. -/
def ratePoursSpec : ChangeSpec := { name := "ratePours", fn := fun _ => fun
  | [d1, d2, d3, d4, d5] => { results := [.lit (.bool true)], args := [d1, d2, d3, d4, d5] }
  | _ => none }
def ratePoursRow : OpenClaim := { program := "ytdkpghfielfojaa", sum := "4ddc3ee01135fa3ac1a3d9ba6fe65a64e37038947421b5f490f0a017135d900c", func := "inquest/inqkeep1.RatePours", spec := "ratePours", apart := false }
def RatePoursSaid : Prop := ratePoursRow.holds Try.pinned (OpenSpec.ofChange ratePoursSpec)

/-- ITS FALSE NEIGHBOUR: 'it returns false'. Refute it at one input. -/
def ratePoursWrong : ChangeSpec := { name := "ratePours", fn := fun _ => fun
  | [d1, d2, d3, d4, d5] => { results := [.lit (.bool false)], args := [d1, d2, d3, d4, d5] }
  | _ => none }
def RatePoursWrongFalsely : Prop := ratePoursRow.holds Try.pinned (OpenSpec.ofChange ratePoursWrong)

/-- 'inqkeep1.RateFair': WHATEVER THE INPUT: true; the input reads as it did. -/
def rateFairSpec : ChangeSpec := { name := "rateFair", fn := fun _ => fun
  | [d1, d2] => { results := [.lit (.bool true)], args := [d1, d2] }
  | _ => none }
def rateFairRow : OpenClaim := { program := "ytdkpghfielfojaa", sum := "4ddc3ee01135fa3ac1a3d9ba6fe65a64e37038947421b5f490f0a017135d900c", func := "inquest/inqkeep1.RateFair", spec := "rateFair", unfollowed := true, recurses := true, apart := false }
def RateFairSaid : Prop := rateFairRow.holds Try.pinned (OpenSpec.ofChange rateFairSpec)

/-- ITS FALSE NEIGHBOUR: 'it returns false'. Refute it at one input. -/
def rateFairWrong : ChangeSpec := { name := "rateFair", fn := fun _ => fun
  | [d1, d2] => { results := [.lit (.bool false)], args := [d1, d2] }
  | _ => none }
def RateFairWrongFalsely : Prop := rateFairRow.holds Try.pinned (OpenSpec.ofChange rateFairWrong)

/- THE SECOND FORM. 'bulk': how many values and letters a reading holds, each counted each time it is reached (what is shared counts as often as it is met; a slice's spare places count too). A statement '..UptoSaid' is the law's where the arguments, and the package variables that the reading takes, are together of bulk at most 1048576: NARROWER than '..Said'. Prove '..Said' where nothing that the law and all that it calls make is longer than what came in: it says more and counts as full. Else prove '..UptoSaid'. A law counts once. -/
mutual
def uptoBulk {H : Type} : DataW H → Nat
  | .lit (.string bytes) => bytes.length + 1
  | .lit _ => 1
  | .nil => 1
  | .ptr d => uptoBulk d + 1
  | .slice elems spare => uptoBulkAll elems + uptoBulkAll spare + 1
  | .agg parts => uptoBulkAll parts + 1
  | .iface _ d => uptoBulk d + 1
  | .map entries => uptoBulkEntries entries + 1
  | .held _ => 1
def uptoBulkAll {H : Type} : List (DataW H) → Nat
  | [] => 0
  | d :: r => uptoBulk d + uptoBulkAll r
def uptoBulkEntries {H : Type} : List (Lit × DataW H) → Nat
  | [] => 0
  | x :: r => uptoBulkEntry x + uptoBulkEntries r
def uptoBulkEntry {H : Type} : Lit × DataW H → Nat
  | (.string bytes, d) => bytes.length + uptoBulk d + 1
  | (_, d) => uptoBulk d + 1
 end
def uptoSmall : (H : Type) → List (DataW H) → Bool := fun _ ds => decide (uptoBulkAll ds ≤ 1048576)
def OpenSpec.upto (s : _root_.Go.ChangeSpec) : _root_.Go.OpenSpec := { _root_.Go.OpenSpec.ofChange s with cond := some uptoSmall }

/-- 'inqlaw1.RateShares', WHERE WHAT IT READS IS OF BULK AT MOST 1048576: true; the input reads as it did. -/
def rateSharesUptoRow : OpenClaim := { program := "ytdkpghfielfojaa", sum := "4ddc3ee01135fa3ac1a3d9ba6fe65a64e37038947421b5f490f0a017135d900c", func := "inquest/inqlaw1.RateShares", spec := "rateShares", inPlace := ["internal/bytealg.IndexByteString"], unfollowed := true, recurses := true, apart := false, narrowed := true }
def RateSharesUptoSaid : Prop := rateSharesUptoRow.holds Try.pinned (OpenSpec.upto rateSharesSpec)

/-- 'inqlaw1.RateSpikes', WHERE WHAT IT READS IS OF BULK AT MOST 1048576: true; the input reads as it did. -/
def rateSpikesUptoRow : OpenClaim := { program := "ytdkpghfielfojaa", sum := "4ddc3ee01135fa3ac1a3d9ba6fe65a64e37038947421b5f490f0a017135d900c", func := "inquest/inqlaw1.RateSpikes", spec := "rateSpikes", unfollowed := true, recurses := true, apart := false, narrowed := true }
def RateSpikesUptoSaid : Prop := rateSpikesUptoRow.holds Try.pinned (OpenSpec.upto rateSpikesSpec)

/-- 'inqkeep1.RatePours', WHERE WHAT IT READS IS OF BULK AT MOST 1048576: true; the input reads as it did. -/
def ratePoursUptoRow : OpenClaim := { program := "ytdkpghfielfojaa", sum := "4ddc3ee01135fa3ac1a3d9ba6fe65a64e37038947421b5f490f0a017135d900c", func := "inquest/inqkeep1.RatePours", spec := "ratePours", apart := false, narrowed := true }
def RatePoursUptoSaid : Prop := ratePoursUptoRow.holds Try.pinned (OpenSpec.upto ratePoursSpec)

/-- 'inqkeep1.RateFair', WHERE WHAT IT READS IS OF BULK AT MOST 1048576: true; the input reads as it did. -/
def rateFairUptoRow : OpenClaim := { program := "ytdkpghfielfojaa", sum := "4ddc3ee01135fa3ac1a3d9ba6fe65a64e37038947421b5f490f0a017135d900c", func := "inquest/inqkeep1.RateFair", spec := "rateFair", unfollowed := true, recurses := true, apart := false, narrowed := true }
def RateFairUptoSaid : Prop := rateFairUptoRow.holds Try.pinned (OpenSpec.upto rateFairSpec)

end Rows
end Go.Proofs.Ytdkpghfielfojaa
