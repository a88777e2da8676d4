/-
  DERIVED. GIVEN WITH THE SEED: THE CARDS: each row of YtgbckpojoagbnaaGreatDoorRows.lean that lists a variable, with what it lists TIED to the program's text (the seventh form; the later family's looks); each row that meets fmt, with fmt's text TOLD by the authors' own Lean function (tested against real Go, not proved from fmt's source: count such statements apart). THE CARD IS WHAT COUNTS. Prove the row's statement (the work); the ties are given (YtgbckpojoagbnaaGreatDoorTie.lean); close each card by the builder's one call (the guide's Derived/Test/ToyasCard.lean, 'card_holds'). Laid BY PROGRAM, IN A SANDBOX (cutbox-door.mjs). By AI agents, Wed Nov 11 2026. No macro, syntax, notation, axiom, sorry.
-/
import Derived.Test.YtgbckpojoagbnaaGreatDoorRows
import GoSem.ClaimSeven
namespace Go.Proofs.YtgbckpojoagbnaaGreatDoor
namespace Rows

/-- THE TIED CARD OF 'ferrylaw09.ReadyMoves'. -/
def readyMovesCard : Claim7 := { stood := { row := readyMovesRow, standIns := [], harness := (true, "2fb609dc6796c3ccf280536d123c6cb5244e4e613ec1d8fd11785cc905b2b92b"), looks := true }, kinds := [], alts := [], laidByText := true, laidKinds := [.handle, .sentinel, .sentinel, .sentinel, .sentinel, .sentinel, .sentinel, .sentinel, .sentinel, .sentinel, .sentinel, .sentinel, .sentinel, .sentinel, .sentinel, .sentinel, .sentinel, .sentinel, .sentinel, .sentinel, .sentinel], laidTests := true, laidLooks := .later }
def ReadyMovesCardSaid : Prop := Claim7.holds Tryz.pinned (.plain (OpenSpec.ofChange readyMovesSpec)) readyMovesCard

/-- THE SECOND FORM's CARD OF 'ferrylaw09.ReadyMoves'. -/
def readyMovesUptoCard : Claim7 := { stood := { row := readyMovesUptoRow, standIns := [], harness := (true, "2fb609dc6796c3ccf280536d123c6cb5244e4e613ec1d8fd11785cc905b2b92b"), looks := true }, kinds := [], alts := [], laidByText := true, laidKinds := [.handle, .sentinel, .sentinel, .sentinel, .sentinel, .sentinel, .sentinel, .sentinel, .sentinel, .sentinel, .sentinel, .sentinel, .sentinel, .sentinel, .sentinel, .sentinel, .sentinel, .sentinel, .sentinel, .sentinel, .sentinel], laidTests := true, laidLooks := .later }
def ReadyMovesUptoCardSaid : Prop := Claim7.holds Tryz.pinned (.plain (OpenSpec.upto readyMovesSpec)) readyMovesUptoCard
end Rows
end Go.Proofs.YtgbckpojoagbnaaGreatDoor
