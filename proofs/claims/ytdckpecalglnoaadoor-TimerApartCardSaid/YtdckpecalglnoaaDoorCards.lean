/-
  DERIVED. GIVEN WITH THE SEED: THE CARDS: each row of YtdckpecalglnoaaDoorRows.lean that lists a variable, with what it lists TIED to the program's text (the seventh form; the later family's looks); each row that meets fmt, with fmt's text TOLD by the authors' own Lean function (tested against real Go, not proved from fmt's source: count such statements apart). THE CARD IS WHAT COUNTS. Prove the row's statement (the work); the ties are given (YtdckpecalglnoaaDoorTie.lean); close each card by the builder's one call (the guide's Derived/Test/ToyasCard.lean, 'card_holds'). Laid BY PROGRAM, IN A SANDBOX (cutbox-door.mjs). By AI agents, Wed Nov 11 2026. No macro, syntax, notation, axiom, sorry.
-/
import Derived.Test.YtdckpecalglnoaaDoorRows
import GoSem.ClaimSeven
namespace Go.Proofs.YtdckpecalglnoaaDoor
namespace Rows

/-- THE TIED CARD OF 'ferrylaw08.TimerPlays'. -/
def timerPlaysCard : Claim7 := { stood := { row := timerPlaysRow, standIns := [], harness := (true, "db2096d4d0777dc514204b058b3332666375d6953a6ef9071a606620ef92e854"), looks := true }, kinds := [], alts := [], laidByText := true, laidKinds := [.handle, .sentinel, .sentinel, .sentinel, .sentinel, .sentinel, .sentinel, .sentinel, .sentinel, .sentinel, .sentinel, .sentinel, .sentinel, .sentinel, .sentinel, .sentinel, .sentinel, .sentinel, .sentinel, .sentinel, .sentinel], laidTests := true, laidLooks := .later }
def TimerPlaysCardSaid : Prop := Claim7.holds Tryd.pinned (.plain (OpenSpec.ofChange timerPlaysSpec)) timerPlaysCard

/-- THE TIED CARD OF 'ferrylaw08.TimerSteps'. -/
def timerStepsCard : Claim7 := { stood := { row := timerStepsRow, standIns := [], harness := (true, "db2096d4d0777dc514204b058b3332666375d6953a6ef9071a606620ef92e854"), looks := true }, kinds := [], alts := [], laidByText := true, laidKinds := [.sentinel, .sentinel, .sentinel], laidTests := true, laidLooks := .later }
def TimerStepsCardSaid : Prop := Claim7.holds Tryd.pinned (.plain (OpenSpec.ofChange timerStepsSpec)) timerStepsCard

/-- THE TIED CARD OF 'ferrylaw08.TimerRelative'. -/
def timerRelativeCard : Claim7 := { stood := { row := timerRelativeRow, standIns := [], harness := (true, "db2096d4d0777dc514204b058b3332666375d6953a6ef9071a606620ef92e854"), looks := true }, kinds := [], alts := [], laidByText := true, laidKinds := [.sentinel, .sentinel, .sentinel], laidTests := true, laidLooks := .later }
def TimerRelativeCardSaid : Prop := Claim7.holds Tryd.pinned (.plain (OpenSpec.ofChange timerRelativeSpec)) timerRelativeCard

/-- THE TIED CARD OF 'ferrylaw08.TimerOne'. -/
def timerOneCard : Claim7 := { stood := { row := timerOneRow, standIns := [], harness := (true, "db2096d4d0777dc514204b058b3332666375d6953a6ef9071a606620ef92e854"), looks := true }, kinds := [], alts := [], laidByText := true, laidKinds := [.sentinel, .sentinel, .sentinel], laidTests := true, laidLooks := .later }
def TimerOneCardSaid : Prop := Claim7.holds Tryd.pinned (.plain (OpenSpec.ofChange timerOneSpec)) timerOneCard

/-- THE TIED CARD OF 'ferrylaw08.TimerApart'. -/
def timerApartCard : Claim7 := { stood := { row := timerApartRow, standIns := [], harness := (true, "db2096d4d0777dc514204b058b3332666375d6953a6ef9071a606620ef92e854"), looks := true }, kinds := [], alts := [], laidByText := true, laidKinds := [.handle, .sentinel, .sentinel, .sentinel, .sentinel, .sentinel, .sentinel, .sentinel, .sentinel, .sentinel, .sentinel, .sentinel, .sentinel, .sentinel, .sentinel, .sentinel, .sentinel, .sentinel, .sentinel, .sentinel, .sentinel], laidTests := true, laidLooks := .later }
def TimerApartCardSaid : Prop := Claim7.holds Tryd.pinned (.plain (OpenSpec.ofChange timerApartSpec)) timerApartCard

/-- THE SECOND FORM's CARD OF 'ferrylaw08.TimerPlays'. -/
def timerPlaysUptoCard : Claim7 := { stood := { row := timerPlaysUptoRow, standIns := [], harness := (true, "db2096d4d0777dc514204b058b3332666375d6953a6ef9071a606620ef92e854"), looks := true }, kinds := [], alts := [], laidByText := true, laidKinds := [.handle, .sentinel, .sentinel, .sentinel, .sentinel, .sentinel, .sentinel, .sentinel, .sentinel, .sentinel, .sentinel, .sentinel, .sentinel, .sentinel, .sentinel, .sentinel, .sentinel, .sentinel, .sentinel, .sentinel, .sentinel], laidTests := true, laidLooks := .later }
def TimerPlaysUptoCardSaid : Prop := Claim7.holds Tryd.pinned (.plain (OpenSpec.upto timerPlaysSpec)) timerPlaysUptoCard

/-- THE SECOND FORM's CARD OF 'ferrylaw08.TimerSteps'. -/
def timerStepsUptoCard : Claim7 := { stood := { row := timerStepsUptoRow, standIns := [], harness := (true, "db2096d4d0777dc514204b058b3332666375d6953a6ef9071a606620ef92e854"), looks := true }, kinds := [], alts := [], laidByText := true, laidKinds := [.sentinel, .sentinel, .sentinel], laidTests := true, laidLooks := .later }
def TimerStepsUptoCardSaid : Prop := Claim7.holds Tryd.pinned (.plain (OpenSpec.upto timerStepsSpec)) timerStepsUptoCard

/-- THE SECOND FORM's CARD OF 'ferrylaw08.TimerRelative'. -/
def timerRelativeUptoCard : Claim7 := { stood := { row := timerRelativeUptoRow, standIns := [], harness := (true, "db2096d4d0777dc514204b058b3332666375d6953a6ef9071a606620ef92e854"), looks := true }, kinds := [], alts := [], laidByText := true, laidKinds := [.sentinel, .sentinel, .sentinel], laidTests := true, laidLooks := .later }
def TimerRelativeUptoCardSaid : Prop := Claim7.holds Tryd.pinned (.plain (OpenSpec.upto timerRelativeSpec)) timerRelativeUptoCard

/-- THE SECOND FORM's CARD OF 'ferrylaw08.TimerOne'. -/
def timerOneUptoCard : Claim7 := { stood := { row := timerOneUptoRow, standIns := [], harness := (true, "db2096d4d0777dc514204b058b3332666375d6953a6ef9071a606620ef92e854"), looks := true }, kinds := [], alts := [], laidByText := true, laidKinds := [.sentinel, .sentinel, .sentinel], laidTests := true, laidLooks := .later }
def TimerOneUptoCardSaid : Prop := Claim7.holds Tryd.pinned (.plain (OpenSpec.upto timerOneSpec)) timerOneUptoCard

/-- THE SECOND FORM's CARD OF 'ferrylaw08.TimerApart'. -/
def timerApartUptoCard : Claim7 := { stood := { row := timerApartUptoRow, standIns := [], harness := (true, "db2096d4d0777dc514204b058b3332666375d6953a6ef9071a606620ef92e854"), looks := true }, kinds := [], alts := [], laidByText := true, laidKinds := [.handle, .sentinel, .sentinel, .sentinel, .sentinel, .sentinel, .sentinel, .sentinel, .sentinel, .sentinel, .sentinel, .sentinel, .sentinel, .sentinel, .sentinel, .sentinel, .sentinel, .sentinel, .sentinel, .sentinel, .sentinel], laidTests := true, laidLooks := .later }
def TimerApartUptoCardSaid : Prop := Claim7.holds Tryd.pinned (.plain (OpenSpec.upto timerApartSpec)) timerApartUptoCard
end Rows
end Go.Proofs.YtdckpecalglnoaaDoor
