/-
  DERIVED. GIVEN WITH THE SEED: THE CARDS: each row of YthbcfhnpefeggaaDoorRows.lean that lists a variable, with what it lists TIED to the program's text (the seventh form; the later family's looks); each row that meets fmt, with fmt's text TOLD by the authors' own Lean function (tested against real Go, not proved from fmt's source: count such statements apart). THE CARD IS WHAT COUNTS. Prove the row's statement (the work); the ties are given (YthbcfhnpefeggaaDoorTie.lean); close each card by the builder's one call (the guide's Derived/Test/ToyasCard.lean, 'card_holds'). Laid BY PROGRAM, IN A SANDBOX (cutbox-door.mjs). By AI agents, Wed Nov 11 2026. No macro, syntax, notation, axiom, sorry.
-/
import Derived.Test.YthbcfhnpefeggaaDoorRows
import GoSem.ClaimSeven
namespace Go.Proofs.YthbcfhnpefeggaaDoor
namespace Rows

/-- THE TIED CARD OF 'ferrylaw09.ReadyBlocks'. -/
def readyBlocksCard : Claim7 := { stood := { row := readyBlocksRow, standIns := [], harness := (true, "d6ef0203b9539f3eabf8df33ad263d3cccaf059e88bf12393f75433d094931f7"), looks := false }, kinds := [], alts := [], laidByText := true, laidKinds := [.sentinel, .sentinel, .sentinel], laidTests := true, laidLooks := .later }
def ReadyBlocksCardSaid : Prop := Claim7.holds Tryd.pinned (.plain (OpenSpec.ofChange readyBlocksSpec)) readyBlocksCard

/-- THE SECOND FORM's CARD OF 'ferrylaw09.ReadyBlocks'. -/
def readyBlocksUptoCard : Claim7 := { stood := { row := readyBlocksUptoRow, standIns := [], harness := (true, "d6ef0203b9539f3eabf8df33ad263d3cccaf059e88bf12393f75433d094931f7"), looks := false }, kinds := [], alts := [], laidByText := true, laidKinds := [.sentinel, .sentinel, .sentinel], laidTests := true, laidLooks := .later }
def ReadyBlocksUptoCardSaid : Prop := Claim7.holds Tryd.pinned (.plain (OpenSpec.upto readyBlocksSpec)) readyBlocksUptoCard
end Rows
end Go.Proofs.YthbcfhnpefeggaaDoor
