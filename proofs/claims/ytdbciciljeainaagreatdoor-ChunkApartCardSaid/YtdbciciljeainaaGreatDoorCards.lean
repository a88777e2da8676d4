/-
  DERIVED. GIVEN WITH THE SEED: THE CARDS: each row of YtdbciciljeainaaGreatDoorRows.lean that lists a variable, with what it lists TIED to the program's text (the seventh form; the later family's looks); each row that meets fmt, with fmt's text TOLD by the authors' own Lean function (tested against real Go, not proved from fmt's source: count such statements apart). THE CARD IS WHAT COUNTS. Prove the row's statement (the work); the ties are given (YtdbciciljeainaaGreatDoorTie.lean); close each card by the builder's one call (the guide's Derived/Test/ToyasCard.lean, 'card_holds'). Laid BY PROGRAM, IN A SANDBOX (cutbox-door.mjs). By AI agents, Wed Nov 11 2026. No macro, syntax, notation, axiom, sorry.
-/
import Derived.Test.YtdbciciljeainaaGreatDoorRows
import GoSem.ClaimSeven
namespace Go.Proofs.YtdbciciljeainaaGreatDoor
namespace Rows

/-- THE TIED CARD OF 'ferrylaw20.ChunkStages'. -/
def chunkStagesCard : Claim7 := { stood := { row := chunkStagesRow, standIns := [], harness := (true, "aee44dfecca517a7716b1eeb82d2a69dad8fb8eec7daf0a951f10c3586421f5d"), looks := true }, kinds := [], alts := [], laidByText := true, laidKinds := [.handle, .sentinel, .sentinel, .sentinel, .sentinel, .sentinel, .sentinel, .sentinel, .sentinel, .sentinel, .sentinel, .sentinel, .sentinel, .sentinel, .sentinel, .sentinel, .sentinel, .sentinel, .sentinel, .sentinel, .sentinel], laidTests := true, laidLooks := .later }
def ChunkStagesCardSaid : Prop := Claim7.holds Tryz.pinned (.plain (OpenSpec.ofChange chunkStagesSpec)) chunkStagesCard

/-- THE TIED CARD OF 'ferrylaw20.ChunkApart'. -/
def chunkApartCard : Claim7 := { stood := { row := chunkApartRow, standIns := [], harness := (true, "aee44dfecca517a7716b1eeb82d2a69dad8fb8eec7daf0a951f10c3586421f5d"), looks := true }, kinds := [], alts := [], laidByText := true, laidKinds := [.handle, .sentinel, .sentinel, .sentinel, .sentinel, .sentinel, .sentinel, .sentinel, .sentinel, .sentinel, .sentinel, .sentinel, .sentinel, .sentinel, .sentinel, .sentinel, .sentinel, .sentinel, .sentinel, .sentinel, .sentinel], laidTests := true, laidLooks := .later }
def ChunkApartCardSaid : Prop := Claim7.holds Tryz.pinned (.plain (OpenSpec.ofChange chunkApartSpec)) chunkApartCard

/-- THE SECOND FORM's CARD OF 'ferrylaw20.ChunkStages'. -/
def chunkStagesUptoCard : Claim7 := { stood := { row := chunkStagesUptoRow, standIns := [], harness := (true, "aee44dfecca517a7716b1eeb82d2a69dad8fb8eec7daf0a951f10c3586421f5d"), looks := true }, kinds := [], alts := [], laidByText := true, laidKinds := [.handle, .sentinel, .sentinel, .sentinel, .sentinel, .sentinel, .sentinel, .sentinel, .sentinel, .sentinel, .sentinel, .sentinel, .sentinel, .sentinel, .sentinel, .sentinel, .sentinel, .sentinel, .sentinel, .sentinel, .sentinel], laidTests := true, laidLooks := .later }
def ChunkStagesUptoCardSaid : Prop := Claim7.holds Tryz.pinned (.plain (OpenSpec.upto chunkStagesSpec)) chunkStagesUptoCard

/-- THE SECOND FORM's CARD OF 'ferrylaw20.ChunkApart'. -/
def chunkApartUptoCard : Claim7 := { stood := { row := chunkApartUptoRow, standIns := [], harness := (true, "aee44dfecca517a7716b1eeb82d2a69dad8fb8eec7daf0a951f10c3586421f5d"), looks := true }, kinds := [], alts := [], laidByText := true, laidKinds := [.handle, .sentinel, .sentinel, .sentinel, .sentinel, .sentinel, .sentinel, .sentinel, .sentinel, .sentinel, .sentinel, .sentinel, .sentinel, .sentinel, .sentinel, .sentinel, .sentinel, .sentinel, .sentinel, .sentinel, .sentinel], laidTests := true, laidLooks := .later }
def ChunkApartUptoCardSaid : Prop := Claim7.holds Tryz.pinned (.plain (OpenSpec.upto chunkApartSpec)) chunkApartUptoCard
end Rows
end Go.Proofs.YtdbciciljeainaaGreatDoor
