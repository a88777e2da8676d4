/-
  DERIVED. GIVEN WITH THE SEED: THE CARDS: each row of YtgcodajiehfloaaDoorRows.lean that lists a variable, with what it lists TIED to the program's text (the seventh form; the later family's looks); each row that meets fmt, with fmt's text TOLD by the authors' own Lean function (tested against real Go, not proved from fmt's source: count such statements apart). THE CARD IS WHAT COUNTS. Prove the row's statement (the work); the ties are given (YtgcodajiehfloaaDoorTie.lean); close each card by the builder's one call (the guide's Derived/Test/ToyasCard.lean, 'card_holds'). Laid BY PROGRAM, IN A SANDBOX (cutbox-door.mjs). By AI agents, Wed Nov 11 2026. No macro, syntax, notation, axiom, sorry.
-/
import Derived.Test.YtgcodajiehfloaaDoorRows
import GoSem.ClaimSeven
namespace Go.Proofs.YtgcodajiehfloaaDoor
namespace Rows

/-- THE TIED CARD OF 'ferrylaw07.PortFrames'. -/
def portFramesCard : Claim7 := { stood := { row := portFramesRow, standIns := [], harness := (true, "a8a321321b4a170c3e5626ed0d2c8d659c19ea8610845e3849daee48c5385bef"), looks := true }, kinds := [], alts := [], laidByText := true, laidKinds := [.handle, .sentinel, .sentinel, .sentinel, .sentinel, .sentinel, .sentinel, .sentinel, .sentinel, .sentinel, .sentinel, .sentinel, .sentinel, .sentinel, .sentinel, .sentinel, .sentinel, .sentinel, .sentinel, .sentinel, .sentinel], laidTests := true, laidLooks := .later }
def PortFramesCardSaid : Prop := Claim7.holds Tryd.pinned (.plain (OpenSpec.ofChange portFramesSpec)) portFramesCard

/-- THE TIED CARD OF 'ferrylaw07.PortLoses'. -/
def portLosesCard : Claim7 := { stood := { row := portLosesRow, standIns := [], harness := (true, "a8a321321b4a170c3e5626ed0d2c8d659c19ea8610845e3849daee48c5385bef"), looks := true }, kinds := [], alts := [], laidByText := true, laidKinds := [.handle, .sentinel, .sentinel, .sentinel, .sentinel, .sentinel, .sentinel, .sentinel, .sentinel, .sentinel, .sentinel, .sentinel, .sentinel, .sentinel, .sentinel, .sentinel, .sentinel, .sentinel, .sentinel, .sentinel, .sentinel], laidTests := true, laidLooks := .later }
def PortLosesCardSaid : Prop := Claim7.holds Tryd.pinned (.plain (OpenSpec.ofChange portLosesSpec)) portLosesCard

/-- THE SECOND FORM's CARD OF 'ferrylaw07.PortFrames'. -/
def portFramesUptoCard : Claim7 := { stood := { row := portFramesUptoRow, standIns := [], harness := (true, "a8a321321b4a170c3e5626ed0d2c8d659c19ea8610845e3849daee48c5385bef"), looks := true }, kinds := [], alts := [], laidByText := true, laidKinds := [.handle, .sentinel, .sentinel, .sentinel, .sentinel, .sentinel, .sentinel, .sentinel, .sentinel, .sentinel, .sentinel, .sentinel, .sentinel, .sentinel, .sentinel, .sentinel, .sentinel, .sentinel, .sentinel, .sentinel, .sentinel], laidTests := true, laidLooks := .later }
def PortFramesUptoCardSaid : Prop := Claim7.holds Tryd.pinned (.plain (OpenSpec.upto portFramesSpec)) portFramesUptoCard

/-- THE SECOND FORM's CARD OF 'ferrylaw07.PortLoses'. -/
def portLosesUptoCard : Claim7 := { stood := { row := portLosesUptoRow, standIns := [], harness := (true, "a8a321321b4a170c3e5626ed0d2c8d659c19ea8610845e3849daee48c5385bef"), looks := true }, kinds := [], alts := [], laidByText := true, laidKinds := [.handle, .sentinel, .sentinel, .sentinel, .sentinel, .sentinel, .sentinel, .sentinel, .sentinel, .sentinel, .sentinel, .sentinel, .sentinel, .sentinel, .sentinel, .sentinel, .sentinel, .sentinel, .sentinel, .sentinel, .sentinel], laidTests := true, laidLooks := .later }
def PortLosesUptoCardSaid : Prop := Claim7.holds Tryd.pinned (.plain (OpenSpec.upto portLosesSpec)) portLosesUptoCard
end Rows
end Go.Proofs.YtgcodajiehfloaaDoor
