/-
  DERIVED. GIVEN WITH THE SEED: THE CARDS: each row of YtcfkngkenkbkaaaDoorRows.lean that lists a variable, with what it lists TIED to the program's text (the seventh form; the later family's looks); each row that meets fmt, with fmt's text TOLD by the authors' own Lean function (tested against real Go, not proved from fmt's source: count such statements apart). THE CARD IS WHAT COUNTS. Prove the row's statement (the work); the ties are given (YtcfkngkenkbkaaaDoorTie.lean); close each card by the builder's one call (the guide's Derived/Test/ToyasCard.lean, 'card_holds'). Laid BY PROGRAM, IN A SANDBOX (cutbox-door.mjs). By AI agents, Wed Nov 11 2026. No macro, syntax, notation, axiom, sorry.
-/
import Derived.Test.YtcfkngkenkbkaaaDoorRows
import GoSem.ClaimSeven
namespace Go.Proofs.YtcfkngkenkbkaaaDoor
namespace Rows

/-- THE TIED CARD OF 'ferrylaw09.ReadyForms'. -/
def readyFormsCard : Claim7 := { stood := { row := readyFormsRow, standIns := [], harness := (true, "1517fff49906f35ff13723ce78dcbd0fee066d23b3293348211f0c49c95b2071"), looks := true }, kinds := [], alts := [], laidByText := true, laidKinds := [.handle, .sentinel, .sentinel, .sentinel, .sentinel, .sentinel, .sentinel, .sentinel, .sentinel, .sentinel, .sentinel, .sentinel, .sentinel, .sentinel, .sentinel, .sentinel, .sentinel, .sentinel, .sentinel, .sentinel, .sentinel], laidTests := true, laidLooks := .later }
def ReadyFormsCardSaid : Prop := Claim7.holds Tryd.pinned (.plain (OpenSpec.ofChange readyFormsSpec)) readyFormsCard

/-- THE TIED CARD OF 'ferrylaw09.ReadyWakes'. -/
def readyWakesCard : Claim7 := { stood := { row := readyWakesRow, standIns := [], harness := (true, "1517fff49906f35ff13723ce78dcbd0fee066d23b3293348211f0c49c95b2071"), looks := true }, kinds := [], alts := [], laidByText := true, laidKinds := [.handle, .sentinel, .sentinel, .sentinel, .sentinel, .sentinel, .sentinel, .sentinel, .sentinel, .sentinel, .sentinel, .sentinel, .sentinel, .sentinel, .sentinel, .sentinel, .sentinel, .sentinel, .sentinel, .sentinel, .sentinel], laidTests := true, laidLooks := .later }
def ReadyWakesCardSaid : Prop := Claim7.holds Tryd.pinned (.plain (OpenSpec.ofChange readyWakesSpec)) readyWakesCard

/-- THE TIED CARD OF 'ferrylaw09.ReadyTurns'. -/
def readyTurnsCard : Claim7 := { stood := { row := readyTurnsRow, standIns := [], harness := (true, "1517fff49906f35ff13723ce78dcbd0fee066d23b3293348211f0c49c95b2071"), looks := true }, kinds := [], alts := [], laidByText := true, laidKinds := [.sentinel, .sentinel, .sentinel], laidTests := true, laidLooks := .later }
def ReadyTurnsCardSaid : Prop := Claim7.holds Tryd.pinned (.plain (OpenSpec.ofChange readyTurnsSpec)) readyTurnsCard

/-- THE TIED CARD OF 'ferrylaw09.ReadyBlocks'. -/
def readyBlocksCard : Claim7 := { stood := { row := readyBlocksRow, standIns := [], harness := (true, "1517fff49906f35ff13723ce78dcbd0fee066d23b3293348211f0c49c95b2071"), looks := true }, kinds := [], alts := [], laidByText := true, laidKinds := [.sentinel, .sentinel, .sentinel], laidTests := true, laidLooks := .later }
def ReadyBlocksCardSaid : Prop := Claim7.holds Tryd.pinned (.plain (OpenSpec.ofChange readyBlocksSpec)) readyBlocksCard

/-- THE TIED CARD OF 'ferrylaw09.ReadyFires'. -/
def readyFiresCard : Claim7 := { stood := { row := readyFiresRow, standIns := [], harness := (true, "1517fff49906f35ff13723ce78dcbd0fee066d23b3293348211f0c49c95b2071"), looks := true }, kinds := [], alts := [], laidByText := true, laidKinds := [.handle, .sentinel, .sentinel, .sentinel, .sentinel, .sentinel, .sentinel, .sentinel, .sentinel, .sentinel, .sentinel, .sentinel, .sentinel, .sentinel, .sentinel, .sentinel, .sentinel, .sentinel, .sentinel, .sentinel, .sentinel], laidTests := true, laidLooks := .later }
def ReadyFiresCardSaid : Prop := Claim7.holds Tryd.pinned (.plain (OpenSpec.ofChange readyFiresSpec)) readyFiresCard

/-- THE SECOND FORM's CARD OF 'ferrylaw09.ReadyForms'. -/
def readyFormsUptoCard : Claim7 := { stood := { row := readyFormsUptoRow, standIns := [], harness := (true, "1517fff49906f35ff13723ce78dcbd0fee066d23b3293348211f0c49c95b2071"), looks := true }, kinds := [], alts := [], laidByText := true, laidKinds := [.handle, .sentinel, .sentinel, .sentinel, .sentinel, .sentinel, .sentinel, .sentinel, .sentinel, .sentinel, .sentinel, .sentinel, .sentinel, .sentinel, .sentinel, .sentinel, .sentinel, .sentinel, .sentinel, .sentinel, .sentinel], laidTests := true, laidLooks := .later }
def ReadyFormsUptoCardSaid : Prop := Claim7.holds Tryd.pinned (.plain (OpenSpec.upto readyFormsSpec)) readyFormsUptoCard

/-- THE SECOND FORM's CARD OF 'ferrylaw09.ReadyWakes'. -/
def readyWakesUptoCard : Claim7 := { stood := { row := readyWakesUptoRow, standIns := [], harness := (true, "1517fff49906f35ff13723ce78dcbd0fee066d23b3293348211f0c49c95b2071"), looks := true }, kinds := [], alts := [], laidByText := true, laidKinds := [.handle, .sentinel, .sentinel, .sentinel, .sentinel, .sentinel, .sentinel, .sentinel, .sentinel, .sentinel, .sentinel, .sentinel, .sentinel, .sentinel, .sentinel, .sentinel, .sentinel, .sentinel, .sentinel, .sentinel, .sentinel], laidTests := true, laidLooks := .later }
def ReadyWakesUptoCardSaid : Prop := Claim7.holds Tryd.pinned (.plain (OpenSpec.upto readyWakesSpec)) readyWakesUptoCard

/-- THE SECOND FORM's CARD OF 'ferrylaw09.ReadyTurns'. -/
def readyTurnsUptoCard : Claim7 := { stood := { row := readyTurnsUptoRow, standIns := [], harness := (true, "1517fff49906f35ff13723ce78dcbd0fee066d23b3293348211f0c49c95b2071"), looks := true }, kinds := [], alts := [], laidByText := true, laidKinds := [.sentinel, .sentinel, .sentinel], laidTests := true, laidLooks := .later }
def ReadyTurnsUptoCardSaid : Prop := Claim7.holds Tryd.pinned (.plain (OpenSpec.upto readyTurnsSpec)) readyTurnsUptoCard

/-- THE SECOND FORM's CARD OF 'ferrylaw09.ReadyBlocks'. -/
def readyBlocksUptoCard : Claim7 := { stood := { row := readyBlocksUptoRow, standIns := [], harness := (true, "1517fff49906f35ff13723ce78dcbd0fee066d23b3293348211f0c49c95b2071"), looks := true }, kinds := [], alts := [], laidByText := true, laidKinds := [.sentinel, .sentinel, .sentinel], laidTests := true, laidLooks := .later }
def ReadyBlocksUptoCardSaid : Prop := Claim7.holds Tryd.pinned (.plain (OpenSpec.upto readyBlocksSpec)) readyBlocksUptoCard

/-- THE SECOND FORM's CARD OF 'ferrylaw09.ReadyFires'. -/
def readyFiresUptoCard : Claim7 := { stood := { row := readyFiresUptoRow, standIns := [], harness := (true, "1517fff49906f35ff13723ce78dcbd0fee066d23b3293348211f0c49c95b2071"), looks := true }, kinds := [], alts := [], laidByText := true, laidKinds := [.handle, .sentinel, .sentinel, .sentinel, .sentinel, .sentinel, .sentinel, .sentinel, .sentinel, .sentinel, .sentinel, .sentinel, .sentinel, .sentinel, .sentinel, .sentinel, .sentinel, .sentinel, .sentinel, .sentinel, .sentinel], laidTests := true, laidLooks := .later }
def ReadyFiresUptoCardSaid : Prop := Claim7.holds Tryd.pinned (.plain (OpenSpec.upto readyFiresSpec)) readyFiresUptoCard
end Rows
end Go.Proofs.YtcfkngkenkbkaaaDoor
