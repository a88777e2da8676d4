/-
  DERIVED. GIVEN WITH THE SEED: THE CARDS: each row of YtgnkmenjjmfcfaaDoorRows.lean that lists a variable, with what it lists TIED to the program's text (the seventh form; the later family's looks); each row that meets fmt, with fmt's text TOLD by the authors' own Lean function (tested against real Go, not proved from fmt's source: count such statements apart). THE CARD IS WHAT COUNTS. Prove the row's statement (the work); the ties are given (YtgnkmenjjmfcfaaDoorTie.lean); close each card by the builder's one call (the guide's Derived/Test/ToyasCard.lean, 'card_holds'). Laid BY PROGRAM, IN A SANDBOX (cutbox-door.mjs). By AI agents, Wed Nov 11 2026. No macro, syntax, notation, axiom, sorry.
-/
import Derived.Test.YtgnkmenjjmfcfaaDoorRows
import GoSem.ClaimSeven
namespace Go.Proofs.YtgnkmenjjmfcfaaDoor
namespace Rows

/-- THE TIED CARD OF 'ferrylaw21.LinkAnswers'. -/
def linkAnswersCard : Claim7 := { stood := { row := linkAnswersRow, standIns := [], harness := (true, "e3fffc5dc7d429b59765f115ceaaa04d244dfb80d9414c2091901968a7577a8f"), looks := true }, kinds := [], alts := [], laidByText := true, laidKinds := [.handle, .sentinel, .sentinel, .sentinel, .sentinel, .sentinel, .sentinel, .sentinel, .sentinel, .sentinel, .sentinel, .sentinel, .sentinel, .sentinel, .sentinel, .sentinel, .sentinel, .sentinel, .sentinel, .sentinel, .sentinel], laidTests := true, laidLooks := .later }
def LinkAnswersCardSaid : Prop := Claim7.holds Tryd.pinned (.plain (OpenSpec.ofChange linkAnswersSpec)) linkAnswersCard

/-- THE TIED CARD OF 'ferrylaw21.LinkNear'. -/
def linkNearCard : Claim7 := { stood := { row := linkNearRow, standIns := [], harness := (true, "e3fffc5dc7d429b59765f115ceaaa04d244dfb80d9414c2091901968a7577a8f"), looks := true }, kinds := [], alts := [], laidByText := true, laidKinds := [.sentinel, .sentinel, .sentinel, .sentinel, .sentinel, .sentinel, .sentinel, .sentinel, .sentinel, .sentinel, .sentinel, .sentinel, .sentinel, .sentinel, .sentinel, .sentinel, .sentinel, .sentinel, .sentinel, .sentinel], laidTests := true, laidLooks := .later }
def LinkNearCardSaid : Prop := Claim7.holds Tryd.pinned (.plain (OpenSpec.ofChange linkNearSpec)) linkNearCard

/-- THE TIED CARD OF 'ferrylaw21.LinkOnce'. -/
def linkOnceCard : Claim7 := { stood := { row := linkOnceRow, standIns := [], harness := (true, "e3fffc5dc7d429b59765f115ceaaa04d244dfb80d9414c2091901968a7577a8f"), looks := true }, kinds := [], alts := [], laidByText := true, laidKinds := [.sentinel, .sentinel, .sentinel, .sentinel, .sentinel, .sentinel, .sentinel, .sentinel, .sentinel, .sentinel, .sentinel, .sentinel, .sentinel, .sentinel, .sentinel, .sentinel, .sentinel, .sentinel, .sentinel, .sentinel], laidTests := true, laidLooks := .later }
def LinkOnceCardSaid : Prop := Claim7.holds Tryd.pinned (.plain (OpenSpec.ofChange linkOnceSpec)) linkOnceCard

/-- THE TIED CARD OF 'ferrylaw21.LinkMemory'. -/
def linkMemoryCard : Claim7 := { stood := { row := linkMemoryRow, standIns := [], harness := (true, "e3fffc5dc7d429b59765f115ceaaa04d244dfb80d9414c2091901968a7577a8f"), looks := true }, kinds := [], alts := [], laidByText := true, laidKinds := [.handle, .sentinel, .sentinel, .sentinel, .sentinel, .sentinel, .sentinel, .sentinel, .sentinel, .sentinel, .sentinel, .sentinel, .sentinel, .sentinel, .sentinel, .sentinel, .sentinel, .sentinel, .sentinel, .sentinel, .sentinel], laidTests := true, laidLooks := .later }
def LinkMemoryCardSaid : Prop := Claim7.holds Tryd.pinned (.plain (OpenSpec.ofChange linkMemorySpec)) linkMemoryCard

/-- THE SECOND FORM's CARD OF 'ferrylaw21.LinkAnswers'. -/
def linkAnswersUptoCard : Claim7 := { stood := { row := linkAnswersUptoRow, standIns := [], harness := (true, "e3fffc5dc7d429b59765f115ceaaa04d244dfb80d9414c2091901968a7577a8f"), looks := true }, kinds := [], alts := [], laidByText := true, laidKinds := [.handle, .sentinel, .sentinel, .sentinel, .sentinel, .sentinel, .sentinel, .sentinel, .sentinel, .sentinel, .sentinel, .sentinel, .sentinel, .sentinel, .sentinel, .sentinel, .sentinel, .sentinel, .sentinel, .sentinel, .sentinel], laidTests := true, laidLooks := .later }
def LinkAnswersUptoCardSaid : Prop := Claim7.holds Tryd.pinned (.plain (OpenSpec.upto linkAnswersSpec)) linkAnswersUptoCard

/-- THE SECOND FORM's CARD OF 'ferrylaw21.LinkNear'. -/
def linkNearUptoCard : Claim7 := { stood := { row := linkNearUptoRow, standIns := [], harness := (true, "e3fffc5dc7d429b59765f115ceaaa04d244dfb80d9414c2091901968a7577a8f"), looks := true }, kinds := [], alts := [], laidByText := true, laidKinds := [.sentinel, .sentinel, .sentinel, .sentinel, .sentinel, .sentinel, .sentinel, .sentinel, .sentinel, .sentinel, .sentinel, .sentinel, .sentinel, .sentinel, .sentinel, .sentinel, .sentinel, .sentinel, .sentinel, .sentinel], laidTests := true, laidLooks := .later }
def LinkNearUptoCardSaid : Prop := Claim7.holds Tryd.pinned (.plain (OpenSpec.upto linkNearSpec)) linkNearUptoCard

/-- THE SECOND FORM's CARD OF 'ferrylaw21.LinkOnce'. -/
def linkOnceUptoCard : Claim7 := { stood := { row := linkOnceUptoRow, standIns := [], harness := (true, "e3fffc5dc7d429b59765f115ceaaa04d244dfb80d9414c2091901968a7577a8f"), looks := true }, kinds := [], alts := [], laidByText := true, laidKinds := [.sentinel, .sentinel, .sentinel, .sentinel, .sentinel, .sentinel, .sentinel, .sentinel, .sentinel, .sentinel, .sentinel, .sentinel, .sentinel, .sentinel, .sentinel, .sentinel, .sentinel, .sentinel, .sentinel, .sentinel], laidTests := true, laidLooks := .later }
def LinkOnceUptoCardSaid : Prop := Claim7.holds Tryd.pinned (.plain (OpenSpec.upto linkOnceSpec)) linkOnceUptoCard

/-- THE SECOND FORM's CARD OF 'ferrylaw21.LinkMemory'. -/
def linkMemoryUptoCard : Claim7 := { stood := { row := linkMemoryUptoRow, standIns := [], harness := (true, "e3fffc5dc7d429b59765f115ceaaa04d244dfb80d9414c2091901968a7577a8f"), looks := true }, kinds := [], alts := [], laidByText := true, laidKinds := [.handle, .sentinel, .sentinel, .sentinel, .sentinel, .sentinel, .sentinel, .sentinel, .sentinel, .sentinel, .sentinel, .sentinel, .sentinel, .sentinel, .sentinel, .sentinel, .sentinel, .sentinel, .sentinel, .sentinel, .sentinel], laidTests := true, laidLooks := .later }
def LinkMemoryUptoCardSaid : Prop := Claim7.holds Tryd.pinned (.plain (OpenSpec.upto linkMemorySpec)) linkMemoryUptoCard
end Rows
end Go.Proofs.YtgnkmenjjmfcfaaDoor
