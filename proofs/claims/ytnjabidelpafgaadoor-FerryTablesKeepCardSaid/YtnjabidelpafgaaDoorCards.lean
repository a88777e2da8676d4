/-
  DERIVED. GIVEN WITH THE SEED: THE CARDS: each row of YtnjabidelpafgaaDoorRows.lean that lists a variable, with what it lists TIED to the program's text (the seventh form; the later family's looks); each row that meets fmt, with fmt's text TOLD by the authors' own Lean function (tested against real Go, not proved from fmt's source: count such statements apart). THE CARD IS WHAT COUNTS. Prove the row's statement (the work); the ties are given (YtnjabidelpafgaaDoorTie.lean); close each card by the builder's one call (the guide's Derived/Test/ToyasCard.lean, 'card_holds'). Laid BY PROGRAM, IN A SANDBOX (cutbox-door.mjs). By AI agents, Wed Nov 11 2026. No macro, syntax, notation, axiom, sorry.
-/
import Derived.Test.YtnjabidelpafgaaDoorRows
import GoSem.ClaimSeven
namespace Go.Proofs.YtnjabidelpafgaaDoor
namespace Rows

/-- THE TIED CARD OF 'ferrytop.FerryTablesKeep'. -/
def ferryTablesKeepCard : Claim7 := { stood := { row := ferryTablesKeepRow, standIns := [], harness := (true, "06a062440c319040ba4646c64c01a5d3e20dbcfe8a107678e62fc10384ae5774"), looks := false }, kinds := [], alts := [], laidByText := true, laidKinds := [.sentinel, .sentinel, .sentinel], laidTests := true, laidLooks := .later }
def FerryTablesKeepCardSaid : Prop := Claim7.holds Tryd.pinned (.plain (OpenSpec.ofChange ferryTablesKeepSpec)) ferryTablesKeepCard

/-- THE SECOND FORM's CARD OF 'ferrytop.FerryTablesKeep'. -/
def ferryTablesKeepUptoCard : Claim7 := { stood := { row := ferryTablesKeepUptoRow, standIns := [], harness := (true, "06a062440c319040ba4646c64c01a5d3e20dbcfe8a107678e62fc10384ae5774"), looks := false }, kinds := [], alts := [], laidByText := true, laidKinds := [.sentinel, .sentinel, .sentinel], laidTests := true, laidLooks := .later }
def FerryTablesKeepUptoCardSaid : Prop := Claim7.holds Tryd.pinned (.plain (OpenSpec.upto ferryTablesKeepSpec)) ferryTablesKeepUptoCard
end Rows
end Go.Proofs.YtnjabidelpafgaaDoor
