/-
  DERIVED. GIVEN WITH THE SEED: THE CARDS: each row of YtleeallnfmafnaaDoorRows.lean that lists a variable, with what it lists TIED to the program's text (the seventh form; the later family's looks); each row that meets fmt, with fmt's text TOLD by the authors' own Lean function (tested against real Go, not proved from fmt's source: count such statements apart). THE CARD IS WHAT COUNTS. Prove the row's statement (the work); the ties are given (YtleeallnfmafnaaDoorTie.lean); close each card by the builder's one call (the guide's Derived/Test/ToyasCard.lean, 'card_holds'). Laid BY PROGRAM, IN A SANDBOX (cutbox-door.mjs). By AI agents, Wed Nov 11 2026. No macro, syntax, notation, axiom, sorry.
-/
import Derived.Test.YtleeallnfmafnaaDoorRows
import GoSem.ClaimSeven
namespace Go.Proofs.YtleeallnfmafnaaDoor
namespace Rows

/-- THE TIED CARD OF 'ferrylaw09.ReadyStates'. -/
def readyStatesCard : Claim7 := { stood := { row := readyStatesRow, standIns := [], harness := (true, "efb19a3a649333e9e007bd914d9bf16289b72b4138a0f0ca07bd07b86087b342"), looks := false }, kinds := [], alts := [], laidByText := true, laidKinds := [.sentinel, .sentinel, .sentinel], laidTests := true, laidLooks := .later }
def ReadyStatesCardSaid : Prop := Claim7.holds Tryd.pinned (.plain (OpenSpec.ofChange readyStatesSpec)) readyStatesCard

/-- THE SECOND FORM's CARD OF 'ferrylaw09.ReadyStates'. -/
def readyStatesUptoCard : Claim7 := { stood := { row := readyStatesUptoRow, standIns := [], harness := (true, "efb19a3a649333e9e007bd914d9bf16289b72b4138a0f0ca07bd07b86087b342"), looks := false }, kinds := [], alts := [], laidByText := true, laidKinds := [.sentinel, .sentinel, .sentinel], laidTests := true, laidLooks := .later }
def ReadyStatesUptoCardSaid : Prop := Claim7.holds Tryd.pinned (.plain (OpenSpec.upto readyStatesSpec)) readyStatesUptoCard
end Rows
end Go.Proofs.YtleeallnfmafnaaDoor
