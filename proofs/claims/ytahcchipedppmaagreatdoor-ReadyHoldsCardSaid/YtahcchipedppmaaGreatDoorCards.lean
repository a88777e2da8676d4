/-
  DERIVED. GIVEN WITH THE SEED: THE CARDS: each row of YtahcchipedppmaaGreatDoorRows.lean that lists a variable, with what it lists TIED to the program's text (the seventh form; the later family's looks); each row that meets fmt, with fmt's text TOLD by the authors' own Lean function (tested against real Go, not proved from fmt's source: count such statements apart). THE CARD IS WHAT COUNTS. Prove the row's statement (the work); the ties are given (YtahcchipedppmaaGreatDoorTie.lean); close each card by the builder's one call (the guide's Derived/Test/ToyasCard.lean, 'card_holds'). Laid BY PROGRAM, IN A SANDBOX (cutbox-door.mjs). By AI agents, Wed Nov 11 2026. No macro, syntax, notation, axiom, sorry.
-/
import Derived.Test.YtahcchipedppmaaGreatDoorRows
import GoSem.ClaimSeven
namespace Go.Proofs.YtahcchipedppmaaGreatDoor
namespace Rows

/-- THE TIED CARD OF 'ferrylaw09.ReadyHolds'. -/
def readyHoldsCard : Claim7 := { stood := { row := readyHoldsRow, standIns := [], harness := (true, "3a3440e4b6befaa43fc7aab2a6048007e90c1d3edf2c68bc82e0f787131f9af0"), looks := true }, kinds := [], alts := [], laidByText := true, laidKinds := [.handle, .sentinel, .sentinel, .sentinel, .sentinel, .sentinel, .sentinel, .sentinel, .sentinel, .sentinel, .sentinel, .sentinel, .sentinel, .sentinel, .sentinel, .sentinel, .sentinel, .sentinel, .sentinel, .sentinel, .sentinel], laidTests := true, laidLooks := .later }
def ReadyHoldsCardSaid : Prop := Claim7.holds Tryz.pinned (.plain (OpenSpec.ofChange readyHoldsSpec)) readyHoldsCard

/-- THE SECOND FORM's CARD OF 'ferrylaw09.ReadyHolds'. -/
def readyHoldsUptoCard : Claim7 := { stood := { row := readyHoldsUptoRow, standIns := [], harness := (true, "3a3440e4b6befaa43fc7aab2a6048007e90c1d3edf2c68bc82e0f787131f9af0"), looks := true }, kinds := [], alts := [], laidByText := true, laidKinds := [.handle, .sentinel, .sentinel, .sentinel, .sentinel, .sentinel, .sentinel, .sentinel, .sentinel, .sentinel, .sentinel, .sentinel, .sentinel, .sentinel, .sentinel, .sentinel, .sentinel, .sentinel, .sentinel, .sentinel, .sentinel], laidTests := true, laidLooks := .later }
def ReadyHoldsUptoCardSaid : Prop := Claim7.holds Tryz.pinned (.plain (OpenSpec.upto readyHoldsSpec)) readyHoldsUptoCard
end Rows
end Go.Proofs.YtahcchipedppmaaGreatDoor
