/-
  DERIVED. GIVEN WITH THE SEED: THE CARDS: each row of YthmibakcjhappaaDoorRows.lean that lists a variable, with what it lists TIED to the program's text (the seventh form; the later family's looks); each row that meets fmt, with fmt's text TOLD by the authors' own Lean function (tested against real Go, not proved from fmt's source: count such statements apart). THE CARD IS WHAT COUNTS. Prove the row's statement (the work); the ties are given (YthmibakcjhappaaDoorTie.lean); close each card by the builder's one call (the guide's Derived/Test/ToyasCard.lean, 'card_holds'). Laid BY PROGRAM, IN A SANDBOX (cutbox-door.mjs). By AI agents, Wed Nov 11 2026. No macro, syntax, notation, axiom, sorry.
-/
import Derived.Test.YthmibakcjhappaaDoorRows
import GoSem.ClaimSeven
namespace Go.Proofs.YthmibakcjhappaaDoor
namespace Rows

/-- THE TIED CARD OF 'ferrylaw03.AluDoes'. -/
def aluDoesCard : Claim7 := { stood := { row := aluDoesRow, standIns := [], harness := (true, "fad23c98a25b22dd9f6a01eb8d2f913cf7f4e0f8d3c5828d323ee083194dd880"), looks := true }, kinds := [], alts := [], laidByText := true, laidKinds := [.handle, .sentinel, .sentinel, .sentinel, .sentinel, .sentinel, .sentinel, .sentinel, .sentinel, .sentinel, .sentinel, .sentinel, .sentinel, .sentinel, .sentinel, .sentinel, .sentinel, .sentinel, .sentinel, .sentinel, .sentinel], laidTests := true, laidLooks := .later }
def AluDoesCardSaid : Prop := Claim7.holds Tryd.pinned (.plain (OpenSpec.ofChange aluDoesSpec)) aluDoesCard

/-- THE TIED CARD OF 'ferrylaw03.AluCuts'. -/
def aluCutsCard : Claim7 := { stood := { row := aluCutsRow, standIns := [], harness := (true, "fad23c98a25b22dd9f6a01eb8d2f913cf7f4e0f8d3c5828d323ee083194dd880"), looks := true }, kinds := [], alts := [], laidByText := true, laidKinds := [.handle, .sentinel, .sentinel, .sentinel, .sentinel, .sentinel, .sentinel, .sentinel, .sentinel, .sentinel, .sentinel, .sentinel, .sentinel, .sentinel, .sentinel, .sentinel, .sentinel, .sentinel, .sentinel, .sentinel, .sentinel], laidTests := true, laidLooks := .later }
def AluCutsCardSaid : Prop := Claim7.holds Tryd.pinned (.plain (OpenSpec.ofChange aluCutsSpec)) aluCutsCard

/-- THE TIED CARD OF 'ferrylaw03.AluWides'. -/
def aluWidesCard : Claim7 := { stood := { row := aluWidesRow, standIns := [], harness := (true, "fad23c98a25b22dd9f6a01eb8d2f913cf7f4e0f8d3c5828d323ee083194dd880"), looks := true }, kinds := [], alts := [], laidByText := true, laidKinds := [.handle, .sentinel, .sentinel, .sentinel, .sentinel, .sentinel, .sentinel, .sentinel, .sentinel, .sentinel, .sentinel, .sentinel, .sentinel, .sentinel, .sentinel, .sentinel, .sentinel, .sentinel, .sentinel, .sentinel, .sentinel], laidTests := true, laidLooks := .later }
def AluWidesCardSaid : Prop := Claim7.holds Tryd.pinned (.plain (OpenSpec.ofChange aluWidesSpec)) aluWidesCard

/-- THE SECOND FORM's CARD OF 'ferrylaw03.AluDoes'. -/
def aluDoesUptoCard : Claim7 := { stood := { row := aluDoesUptoRow, standIns := [], harness := (true, "fad23c98a25b22dd9f6a01eb8d2f913cf7f4e0f8d3c5828d323ee083194dd880"), looks := true }, kinds := [], alts := [], laidByText := true, laidKinds := [.handle, .sentinel, .sentinel, .sentinel, .sentinel, .sentinel, .sentinel, .sentinel, .sentinel, .sentinel, .sentinel, .sentinel, .sentinel, .sentinel, .sentinel, .sentinel, .sentinel, .sentinel, .sentinel, .sentinel, .sentinel], laidTests := true, laidLooks := .later }
def AluDoesUptoCardSaid : Prop := Claim7.holds Tryd.pinned (.plain (OpenSpec.upto aluDoesSpec)) aluDoesUptoCard

/-- THE SECOND FORM's CARD OF 'ferrylaw03.AluCuts'. -/
def aluCutsUptoCard : Claim7 := { stood := { row := aluCutsUptoRow, standIns := [], harness := (true, "fad23c98a25b22dd9f6a01eb8d2f913cf7f4e0f8d3c5828d323ee083194dd880"), looks := true }, kinds := [], alts := [], laidByText := true, laidKinds := [.handle, .sentinel, .sentinel, .sentinel, .sentinel, .sentinel, .sentinel, .sentinel, .sentinel, .sentinel, .sentinel, .sentinel, .sentinel, .sentinel, .sentinel, .sentinel, .sentinel, .sentinel, .sentinel, .sentinel, .sentinel], laidTests := true, laidLooks := .later }
def AluCutsUptoCardSaid : Prop := Claim7.holds Tryd.pinned (.plain (OpenSpec.upto aluCutsSpec)) aluCutsUptoCard

/-- THE SECOND FORM's CARD OF 'ferrylaw03.AluWides'. -/
def aluWidesUptoCard : Claim7 := { stood := { row := aluWidesUptoRow, standIns := [], harness := (true, "fad23c98a25b22dd9f6a01eb8d2f913cf7f4e0f8d3c5828d323ee083194dd880"), looks := true }, kinds := [], alts := [], laidByText := true, laidKinds := [.handle, .sentinel, .sentinel, .sentinel, .sentinel, .sentinel, .sentinel, .sentinel, .sentinel, .sentinel, .sentinel, .sentinel, .sentinel, .sentinel, .sentinel, .sentinel, .sentinel, .sentinel, .sentinel, .sentinel, .sentinel], laidTests := true, laidLooks := .later }
def AluWidesUptoCardSaid : Prop := Claim7.holds Tryd.pinned (.plain (OpenSpec.upto aluWidesSpec)) aluWidesUptoCard
end Rows
end Go.Proofs.YthmibakcjhappaaDoor
