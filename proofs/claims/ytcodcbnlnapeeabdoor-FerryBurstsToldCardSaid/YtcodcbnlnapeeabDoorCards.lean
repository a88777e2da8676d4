/-
  DERIVED. GIVEN WITH THE SEED: THE CARDS: each row of YtcodcbnlnapeeabDoorRows.lean that lists a variable, with what it lists TIED to the program's text (the seventh form; the later family's looks); each row that meets fmt, with fmt's text TOLD by the authors' own Lean function (tested against real Go, not proved from fmt's source: count such statements apart). THE CARD IS WHAT COUNTS. Prove the row's statement (the work); the ties are given (YtcodcbnlnapeeabDoorTie.lean); close each card by the builder's one call (the guide's Derived/Test/ToyasCard.lean, 'card_holds'). Laid BY PROGRAM, IN A SANDBOX (cutbox-door.mjs). By AI agents, Wed Nov 11 2026. No macro, syntax, notation, axiom, sorry.
-/
import Derived.Test.YtcodcbnlnapeeabDoorRows
import GoSem.ClaimSeven
namespace Go.Proofs.YtcodcbnlnapeeabDoor
namespace Rows

/-- THE TIED CARD OF 'ferrylaw02.WireStays'. -/
def wireStaysCard : Claim7 := { stood := { row := wireStaysRow, standIns := [], harness := (true, "3d5f7490e2bea9a2af8c71cc59cbbb5be177b68b7724950ef1575516a7d7da60"), looks := true }, kinds := [], alts := [], laidByText := true, laidKinds := [.handle, .sentinel, .sentinel, .sentinel, .sentinel, .sentinel, .sentinel, .sentinel, .sentinel, .sentinel, .sentinel, .sentinel, .sentinel, .sentinel, .sentinel, .sentinel, .sentinel, .sentinel, .sentinel, .sentinel, .sentinel], laidTests := true, laidLooks := .later }
def WireStaysCardSaid : Prop := Claim7.holds Tryd.pinned (.plain (OpenSpec.ofChange wireStaysSpec)) wireStaysCard

/-- THE TIED CARD OF 'ferrylaw02.WireMemory'. -/
def wireMemoryCard : Claim7 := { stood := { row := wireMemoryRow, standIns := [], harness := (true, "3d5f7490e2bea9a2af8c71cc59cbbb5be177b68b7724950ef1575516a7d7da60"), looks := true }, kinds := [], alts := [], laidByText := true, laidKinds := [.handle, .sentinel, .sentinel, .sentinel, .sentinel, .sentinel, .sentinel, .sentinel, .sentinel, .sentinel, .sentinel, .sentinel, .sentinel, .sentinel, .sentinel, .sentinel, .sentinel, .sentinel, .sentinel, .sentinel, .sentinel], laidTests := true, laidLooks := .later }
def WireMemoryCardSaid : Prop := Claim7.holds Tryd.pinned (.plain (OpenSpec.ofChange wireMemorySpec)) wireMemoryCard

/-- THE TIED CARD OF 'ferrytop.FerryBurstsTold'. -/
def ferryBurstsToldCard : Claim7 := { stood := { row := ferryBurstsToldRow, standIns := [], harness := (true, "3d5f7490e2bea9a2af8c71cc59cbbb5be177b68b7724950ef1575516a7d7da60"), looks := true }, kinds := [], alts := [], laidByText := true, laidKinds := [.sentinel, .sentinel, .sentinel, .sentinel, .sentinel, .sentinel, .sentinel, .sentinel, .sentinel, .sentinel, .sentinel, .sentinel, .sentinel, .sentinel, .sentinel, .sentinel, .sentinel, .sentinel, .sentinel, .sentinel], laidTests := true, laidLooks := .later }
def FerryBurstsToldCardSaid : Prop := Claim7.holds Tryd.pinned (.plain (OpenSpec.ofChange ferryBurstsToldSpec)) ferryBurstsToldCard

/-- THE SECOND FORM's CARD OF 'ferrylaw02.WireStays'. -/
def wireStaysUptoCard : Claim7 := { stood := { row := wireStaysUptoRow, standIns := [], harness := (true, "3d5f7490e2bea9a2af8c71cc59cbbb5be177b68b7724950ef1575516a7d7da60"), looks := true }, kinds := [], alts := [], laidByText := true, laidKinds := [.handle, .sentinel, .sentinel, .sentinel, .sentinel, .sentinel, .sentinel, .sentinel, .sentinel, .sentinel, .sentinel, .sentinel, .sentinel, .sentinel, .sentinel, .sentinel, .sentinel, .sentinel, .sentinel, .sentinel, .sentinel], laidTests := true, laidLooks := .later }
def WireStaysUptoCardSaid : Prop := Claim7.holds Tryd.pinned (.plain (OpenSpec.upto wireStaysSpec)) wireStaysUptoCard

/-- THE SECOND FORM's CARD OF 'ferrylaw02.WireMemory'. -/
def wireMemoryUptoCard : Claim7 := { stood := { row := wireMemoryUptoRow, standIns := [], harness := (true, "3d5f7490e2bea9a2af8c71cc59cbbb5be177b68b7724950ef1575516a7d7da60"), looks := true }, kinds := [], alts := [], laidByText := true, laidKinds := [.handle, .sentinel, .sentinel, .sentinel, .sentinel, .sentinel, .sentinel, .sentinel, .sentinel, .sentinel, .sentinel, .sentinel, .sentinel, .sentinel, .sentinel, .sentinel, .sentinel, .sentinel, .sentinel, .sentinel, .sentinel], laidTests := true, laidLooks := .later }
def WireMemoryUptoCardSaid : Prop := Claim7.holds Tryd.pinned (.plain (OpenSpec.upto wireMemorySpec)) wireMemoryUptoCard

/-- THE SECOND FORM's CARD OF 'ferrytop.FerryBurstsTold'. -/
def ferryBurstsToldUptoCard : Claim7 := { stood := { row := ferryBurstsToldUptoRow, standIns := [], harness := (true, "3d5f7490e2bea9a2af8c71cc59cbbb5be177b68b7724950ef1575516a7d7da60"), looks := true }, kinds := [], alts := [], laidByText := true, laidKinds := [.sentinel, .sentinel, .sentinel, .sentinel, .sentinel, .sentinel, .sentinel, .sentinel, .sentinel, .sentinel, .sentinel, .sentinel, .sentinel, .sentinel, .sentinel, .sentinel, .sentinel, .sentinel, .sentinel, .sentinel], laidTests := true, laidLooks := .later }
def FerryBurstsToldUptoCardSaid : Prop := Claim7.holds Tryd.pinned (.plain (OpenSpec.upto ferryBurstsToldSpec)) ferryBurstsToldUptoCard
end Rows
end Go.Proofs.YtcodcbnlnapeeabDoor
