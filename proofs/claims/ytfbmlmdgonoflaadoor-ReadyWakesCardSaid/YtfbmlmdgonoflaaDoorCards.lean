/-
  DERIVED. GIVEN WITH THE SEED: THE CARDS: each row of YtfbmlmdgonoflaaDoorRows.lean that lists a variable, with what it lists TIED to the program's text (the seventh form; the later family's looks); each row that meets fmt, with fmt's text TOLD by the authors' own Lean function (tested against real Go, not proved from fmt's source: count such statements apart). THE CARD IS WHAT COUNTS. Prove the row's statement (the work); the ties are given (YtfbmlmdgonoflaaDoorTie.lean); close each card by the builder's one call (the guide's Derived/Test/ToyasCard.lean, 'card_holds'). Laid BY PROGRAM, IN A SANDBOX (cutbox-door.mjs). By AI agents, Wed Nov 11 2026. No macro, syntax, notation, axiom, sorry.
-/
import Derived.Test.YtfbmlmdgonoflaaDoorRows
import GoSem.ClaimSeven
namespace Go.Proofs.YtfbmlmdgonoflaaDoor
namespace Rows

/-- THE TIED CARD OF 'ferrylaw09.ReadyWakes'. -/
def readyWakesCard : Claim7 := { stood := { row := readyWakesRow, standIns := [], harness := (true, "5a4fc77a815d37558344f2c9ecce057d51c91acef739ed56624b0b1aca56dfee"), looks := true }, kinds := [], alts := [], laidByText := true, laidKinds := [.handle, .sentinel, .sentinel, .sentinel, .sentinel, .sentinel, .sentinel, .sentinel, .sentinel, .sentinel, .sentinel, .sentinel, .sentinel, .sentinel, .sentinel, .sentinel, .sentinel, .sentinel, .sentinel, .sentinel, .sentinel], laidTests := true, laidLooks := .later }
def ReadyWakesCardSaid : Prop := Claim7.holds Tryd.pinned (.plain (OpenSpec.ofChange readyWakesSpec)) readyWakesCard

/-- THE SECOND FORM's CARD OF 'ferrylaw09.ReadyWakes'. -/
def readyWakesUptoCard : Claim7 := { stood := { row := readyWakesUptoRow, standIns := [], harness := (true, "5a4fc77a815d37558344f2c9ecce057d51c91acef739ed56624b0b1aca56dfee"), looks := true }, kinds := [], alts := [], laidByText := true, laidKinds := [.handle, .sentinel, .sentinel, .sentinel, .sentinel, .sentinel, .sentinel, .sentinel, .sentinel, .sentinel, .sentinel, .sentinel, .sentinel, .sentinel, .sentinel, .sentinel, .sentinel, .sentinel, .sentinel, .sentinel, .sentinel], laidTests := true, laidLooks := .later }
def ReadyWakesUptoCardSaid : Prop := Claim7.holds Tryd.pinned (.plain (OpenSpec.upto readyWakesSpec)) readyWakesUptoCard
end Rows
end Go.Proofs.YtfbmlmdgonoflaaDoor
