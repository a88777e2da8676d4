/-
  DERIVED. GIVEN WITH THE SEED: THE CARDS: each row of YtldnoabbnlfknabDoorRows.lean that lists a variable, with what it lists TIED to the program's text (the seventh form; the later family's looks); each row that meets fmt, with fmt's text TOLD by the authors' own Lean function (tested against real Go, not proved from fmt's source: count such statements apart). THE CARD IS WHAT COUNTS. Prove the row's statement (the work); the ties are given (YtldnoabbnlfknabDoorTie.lean); close each card by the builder's one call (the guide's Derived/Test/ToyasCard.lean, 'card_holds'). Laid BY PROGRAM, IN A SANDBOX (cutbox-door.mjs). By AI agents, Wed Nov 11 2026. No macro, syntax, notation, axiom, sorry.
-/
import Derived.Test.YtldnoabbnlfknabDoorRows
import GoSem.ClaimSeven
namespace Go.Proofs.YtldnoabbnlfknabDoor
namespace Rows

/-- THE TIED CARD OF 'ferrylaw09.ReadyFires'. -/
def readyFiresCard : Claim7 := { stood := { row := readyFiresRow, standIns := [], harness := (true, "77bfcb4839b5e2c4a5ccc8673a4c0f8b955eb9f6f8d67863d9cf9701cde9ee51"), looks := true }, kinds := [], alts := [], laidByText := true, laidKinds := [.handle, .sentinel, .sentinel, .sentinel, .sentinel, .sentinel, .sentinel, .sentinel, .sentinel, .sentinel, .sentinel, .sentinel, .sentinel, .sentinel, .sentinel, .sentinel, .sentinel, .sentinel, .sentinel, .sentinel, .sentinel], laidTests := true, laidLooks := .later }
def ReadyFiresCardSaid : Prop := Claim7.holds Tryd.pinned (.plain (OpenSpec.ofChange readyFiresSpec)) readyFiresCard

/-- THE TIED CARD OF 'ferrylaw09.ReadyStates'. -/
def readyStatesCard : Claim7 := { stood := { row := readyStatesRow, standIns := [], harness := (true, "77bfcb4839b5e2c4a5ccc8673a4c0f8b955eb9f6f8d67863d9cf9701cde9ee51"), looks := true }, kinds := [], alts := [], laidByText := true, laidKinds := [.sentinel, .sentinel, .sentinel], laidTests := true, laidLooks := .later }
def ReadyStatesCardSaid : Prop := Claim7.holds Tryd.pinned (.plain (OpenSpec.ofChange readyStatesSpec)) readyStatesCard

/-- THE TIED CARD OF 'ferrylaw09.ReadyLends'. -/
def readyLendsCard : Claim7 := { stood := { row := readyLendsRow, standIns := [], harness := (true, "77bfcb4839b5e2c4a5ccc8673a4c0f8b955eb9f6f8d67863d9cf9701cde9ee51"), looks := true }, kinds := [], alts := [], laidByText := true, laidKinds := [.sentinel, .sentinel, .sentinel], laidTests := true, laidLooks := .later }
def ReadyLendsCardSaid : Prop := Claim7.holds Tryd.pinned (.plain (OpenSpec.ofChange readyLendsSpec)) readyLendsCard

/-- THE TIED CARD OF 'ferrytop.FerryTablesKeep'. -/
def ferryTablesKeepCard : Claim7 := { stood := { row := ferryTablesKeepRow, standIns := [], harness := (true, "77bfcb4839b5e2c4a5ccc8673a4c0f8b955eb9f6f8d67863d9cf9701cde9ee51"), looks := true }, kinds := [], alts := [], laidByText := true, laidKinds := [.sentinel, .sentinel, .sentinel], laidTests := true, laidLooks := .later }
def FerryTablesKeepCardSaid : Prop := Claim7.holds Tryd.pinned (.plain (OpenSpec.ofChange ferryTablesKeepSpec)) ferryTablesKeepCard

/-- THE TIED CARD OF 'ferrytop.FerryQueuesInOrder'. -/
def ferryQueuesInOrderCard : Claim7 := { stood := { row := ferryQueuesInOrderRow, standIns := [], harness := (true, "77bfcb4839b5e2c4a5ccc8673a4c0f8b955eb9f6f8d67863d9cf9701cde9ee51"), looks := true }, kinds := [], alts := [], laidByText := true, laidKinds := [.sentinel, .sentinel, .sentinel, .sentinel, .sentinel, .sentinel, .sentinel], laidTests := true, laidLooks := .later }
def FerryQueuesInOrderCardSaid : Prop := Claim7.holds Tryd.pinned (.plain (OpenSpec.ofChange ferryQueuesInOrderSpec)) ferryQueuesInOrderCard

/-- THE SECOND FORM's CARD OF 'ferrylaw09.ReadyFires'. -/
def readyFiresUptoCard : Claim7 := { stood := { row := readyFiresUptoRow, standIns := [], harness := (true, "77bfcb4839b5e2c4a5ccc8673a4c0f8b955eb9f6f8d67863d9cf9701cde9ee51"), looks := true }, kinds := [], alts := [], laidByText := true, laidKinds := [.handle, .sentinel, .sentinel, .sentinel, .sentinel, .sentinel, .sentinel, .sentinel, .sentinel, .sentinel, .sentinel, .sentinel, .sentinel, .sentinel, .sentinel, .sentinel, .sentinel, .sentinel, .sentinel, .sentinel, .sentinel], laidTests := true, laidLooks := .later }
def ReadyFiresUptoCardSaid : Prop := Claim7.holds Tryd.pinned (.plain (OpenSpec.upto readyFiresSpec)) readyFiresUptoCard

/-- THE SECOND FORM's CARD OF 'ferrylaw09.ReadyStates'. -/
def readyStatesUptoCard : Claim7 := { stood := { row := readyStatesUptoRow, standIns := [], harness := (true, "77bfcb4839b5e2c4a5ccc8673a4c0f8b955eb9f6f8d67863d9cf9701cde9ee51"), looks := true }, kinds := [], alts := [], laidByText := true, laidKinds := [.sentinel, .sentinel, .sentinel], laidTests := true, laidLooks := .later }
def ReadyStatesUptoCardSaid : Prop := Claim7.holds Tryd.pinned (.plain (OpenSpec.upto readyStatesSpec)) readyStatesUptoCard

/-- THE SECOND FORM's CARD OF 'ferrylaw09.ReadyLends'. -/
def readyLendsUptoCard : Claim7 := { stood := { row := readyLendsUptoRow, standIns := [], harness := (true, "77bfcb4839b5e2c4a5ccc8673a4c0f8b955eb9f6f8d67863d9cf9701cde9ee51"), looks := true }, kinds := [], alts := [], laidByText := true, laidKinds := [.sentinel, .sentinel, .sentinel], laidTests := true, laidLooks := .later }
def ReadyLendsUptoCardSaid : Prop := Claim7.holds Tryd.pinned (.plain (OpenSpec.upto readyLendsSpec)) readyLendsUptoCard

/-- THE SECOND FORM's CARD OF 'ferrytop.FerryTablesKeep'. -/
def ferryTablesKeepUptoCard : Claim7 := { stood := { row := ferryTablesKeepUptoRow, standIns := [], harness := (true, "77bfcb4839b5e2c4a5ccc8673a4c0f8b955eb9f6f8d67863d9cf9701cde9ee51"), looks := true }, kinds := [], alts := [], laidByText := true, laidKinds := [.sentinel, .sentinel, .sentinel], laidTests := true, laidLooks := .later }
def FerryTablesKeepUptoCardSaid : Prop := Claim7.holds Tryd.pinned (.plain (OpenSpec.upto ferryTablesKeepSpec)) ferryTablesKeepUptoCard

/-- THE SECOND FORM's CARD OF 'ferrytop.FerryQueuesInOrder'. -/
def ferryQueuesInOrderUptoCard : Claim7 := { stood := { row := ferryQueuesInOrderUptoRow, standIns := [], harness := (true, "77bfcb4839b5e2c4a5ccc8673a4c0f8b955eb9f6f8d67863d9cf9701cde9ee51"), looks := true }, kinds := [], alts := [], laidByText := true, laidKinds := [.sentinel, .sentinel, .sentinel, .sentinel, .sentinel, .sentinel, .sentinel], laidTests := true, laidLooks := .later }
def FerryQueuesInOrderUptoCardSaid : Prop := Claim7.holds Tryd.pinned (.plain (OpenSpec.upto ferryQueuesInOrderSpec)) ferryQueuesInOrderUptoCard
end Rows
end Go.Proofs.YtldnoabbnlfknabDoor
