/-
  DERIVED. GIVEN WITH THE SEED: THE CARDS: each row of YtfggpdddoaageabDoorRows.lean that lists a variable, with what it lists TIED to the program's text (the seventh form; the later family's looks); each row that meets fmt, with fmt's text TOLD by the authors' own Lean function (tested against real Go, not proved from fmt's source: count such statements apart). THE CARD IS WHAT COUNTS. Prove the row's statement (the work); the ties are given (YtfggpdddoaageabDoorTie.lean); close each card by the builder's one call (the guide's Derived/Test/ToyasCard.lean, 'card_holds'). Laid BY PROGRAM, IN A SANDBOX (cutbox-door.mjs). By AI agents, Wed Nov 11 2026. No macro, syntax, notation, axiom, sorry.
-/
import Derived.Test.YtfggpdddoaageabDoorRows
import GoSem.ClaimSeven
namespace Go.Proofs.YtfggpdddoaageabDoor
namespace Rows

/-- THE TIED CARD OF 'ferrylaw01.CrcPieces'. -/
def crcPiecesCard : Claim7 := { stood := { row := crcPiecesRow, standIns := [], harness := (true, "a948b23945b37aaab3529edab5d62b03d533842b5161fde4cfe323b9b651a946"), looks := true }, kinds := [], alts := [], laidByText := true, laidKinds := [.sentinel], laidTests := true, laidLooks := .later }
def CrcPiecesCardSaid : Prop := Claim7.holds Tryd.pinned (.plain (OpenSpec.ofChange crcPiecesSpec)) crcPiecesCard

/-- THE TIED CARD OF 'ferrylaw01.CrcMoves'. -/
def crcMovesCard : Claim7 := { stood := { row := crcMovesRow, standIns := [], harness := (true, "a948b23945b37aaab3529edab5d62b03d533842b5161fde4cfe323b9b651a946"), looks := true }, kinds := [], alts := [], laidByText := true, laidKinds := [.handle, .sentinel, .sentinel, .sentinel, .sentinel, .sentinel, .sentinel, .sentinel, .sentinel, .sentinel, .sentinel, .sentinel, .sentinel, .sentinel, .sentinel, .sentinel, .sentinel, .sentinel, .sentinel, .sentinel, .sentinel], laidTests := true, laidLooks := .later }
def CrcMovesCardSaid : Prop := Claim7.holds Tryd.pinned (.plain (OpenSpec.ofChange crcMovesSpec)) crcMovesCard

/-- THE TIED CARD OF 'ferrylaw01.CrcThere'. -/
def crcThereCard : Claim7 := { stood := { row := crcThereRow, standIns := [], harness := (true, "a948b23945b37aaab3529edab5d62b03d533842b5161fde4cfe323b9b651a946"), looks := true }, kinds := [], alts := [], laidByText := true, laidKinds := [.sentinel, .sentinel], laidTests := true, laidLooks := .later }
def CrcThereCardSaid : Prop := Claim7.holds Tryd.pinned (.plain (OpenSpec.ofChange crcThereSpec)) crcThereCard

/-- THE TIED CARD OF 'ferrylaw01.CrcTold'. -/
def crcToldCard : Claim7 := { stood := { row := crcToldRow, standIns := [], harness := (true, "a948b23945b37aaab3529edab5d62b03d533842b5161fde4cfe323b9b651a946"), looks := true }, kinds := [], alts := [], laidByText := true, laidKinds := [.handle, .sentinel, .sentinel, .sentinel, .sentinel, .sentinel, .sentinel, .sentinel, .sentinel, .sentinel, .sentinel, .sentinel, .sentinel, .sentinel, .sentinel, .sentinel, .sentinel, .sentinel, .sentinel, .sentinel, .sentinel], laidTests := true, laidLooks := .later }
def CrcToldCardSaid : Prop := Claim7.holds Tryd.pinned (.plain (OpenSpec.ofChange crcToldSpec)) crcToldCard

/-- THE TIED CARD OF 'ferrylaw01.CrcBack'. -/
def crcBackCard : Claim7 := { stood := { row := crcBackRow, standIns := [], harness := (true, "a948b23945b37aaab3529edab5d62b03d533842b5161fde4cfe323b9b651a946"), looks := true }, kinds := [], alts := [], laidByText := true, laidKinds := [.handle, .sentinel, .sentinel, .sentinel, .sentinel, .sentinel, .sentinel, .sentinel, .sentinel, .sentinel, .sentinel, .sentinel, .sentinel, .sentinel, .sentinel, .sentinel, .sentinel, .sentinel, .sentinel, .sentinel, .sentinel], laidTests := true, laidLooks := .later }
def CrcBackCardSaid : Prop := Claim7.holds Tryd.pinned (.plain (OpenSpec.ofChange crcBackSpec)) crcBackCard

/-- THE SECOND FORM's CARD OF 'ferrylaw01.CrcPieces'. -/
def crcPiecesUptoCard : Claim7 := { stood := { row := crcPiecesUptoRow, standIns := [], harness := (true, "a948b23945b37aaab3529edab5d62b03d533842b5161fde4cfe323b9b651a946"), looks := true }, kinds := [], alts := [], laidByText := true, laidKinds := [.sentinel], laidTests := true, laidLooks := .later }
def CrcPiecesUptoCardSaid : Prop := Claim7.holds Tryd.pinned (.plain (OpenSpec.upto crcPiecesSpec)) crcPiecesUptoCard

/-- THE SECOND FORM's CARD OF 'ferrylaw01.CrcMoves'. -/
def crcMovesUptoCard : Claim7 := { stood := { row := crcMovesUptoRow, standIns := [], harness := (true, "a948b23945b37aaab3529edab5d62b03d533842b5161fde4cfe323b9b651a946"), looks := true }, kinds := [], alts := [], laidByText := true, laidKinds := [.handle, .sentinel, .sentinel, .sentinel, .sentinel, .sentinel, .sentinel, .sentinel, .sentinel, .sentinel, .sentinel, .sentinel, .sentinel, .sentinel, .sentinel, .sentinel, .sentinel, .sentinel, .sentinel, .sentinel, .sentinel], laidTests := true, laidLooks := .later }
def CrcMovesUptoCardSaid : Prop := Claim7.holds Tryd.pinned (.plain (OpenSpec.upto crcMovesSpec)) crcMovesUptoCard

/-- THE SECOND FORM's CARD OF 'ferrylaw01.CrcThere'. -/
def crcThereUptoCard : Claim7 := { stood := { row := crcThereUptoRow, standIns := [], harness := (true, "a948b23945b37aaab3529edab5d62b03d533842b5161fde4cfe323b9b651a946"), looks := true }, kinds := [], alts := [], laidByText := true, laidKinds := [.sentinel, .sentinel], laidTests := true, laidLooks := .later }
def CrcThereUptoCardSaid : Prop := Claim7.holds Tryd.pinned (.plain (OpenSpec.upto crcThereSpec)) crcThereUptoCard

/-- THE SECOND FORM's CARD OF 'ferrylaw01.CrcTold'. -/
def crcToldUptoCard : Claim7 := { stood := { row := crcToldUptoRow, standIns := [], harness := (true, "a948b23945b37aaab3529edab5d62b03d533842b5161fde4cfe323b9b651a946"), looks := true }, kinds := [], alts := [], laidByText := true, laidKinds := [.handle, .sentinel, .sentinel, .sentinel, .sentinel, .sentinel, .sentinel, .sentinel, .sentinel, .sentinel, .sentinel, .sentinel, .sentinel, .sentinel, .sentinel, .sentinel, .sentinel, .sentinel, .sentinel, .sentinel, .sentinel], laidTests := true, laidLooks := .later }
def CrcToldUptoCardSaid : Prop := Claim7.holds Tryd.pinned (.plain (OpenSpec.upto crcToldSpec)) crcToldUptoCard

/-- THE SECOND FORM's CARD OF 'ferrylaw01.CrcBack'. -/
def crcBackUptoCard : Claim7 := { stood := { row := crcBackUptoRow, standIns := [], harness := (true, "a948b23945b37aaab3529edab5d62b03d533842b5161fde4cfe323b9b651a946"), looks := true }, kinds := [], alts := [], laidByText := true, laidKinds := [.handle, .sentinel, .sentinel, .sentinel, .sentinel, .sentinel, .sentinel, .sentinel, .sentinel, .sentinel, .sentinel, .sentinel, .sentinel, .sentinel, .sentinel, .sentinel, .sentinel, .sentinel, .sentinel, .sentinel, .sentinel], laidTests := true, laidLooks := .later }
def CrcBackUptoCardSaid : Prop := Claim7.holds Tryd.pinned (.plain (OpenSpec.upto crcBackSpec)) crcBackUptoCard
end Rows
end Go.Proofs.YtfggpdddoaageabDoor
