/-
  DERIVED. GIVEN WITH THE SEED: THE CARDS: each row of YtlbcdcclelbdiaaDoorRows.lean that lists a variable, with what it lists TIED to the program's text (the seventh form; the later family's looks); each row that meets fmt, with fmt's text TOLD by the authors' own Lean function (tested against real Go, not proved from fmt's source: count such statements apart). THE CARD IS WHAT COUNTS. Prove the row's statement (the work); the ties are given (YtlbcdcclelbdiaaDoorTie.lean); close each card by the builder's one call (the guide's Derived/Test/ToyasCard.lean, 'card_holds'). Laid BY PROGRAM, IN A SANDBOX (cutbox-door.mjs). By AI agents, Wed Nov 11 2026. No macro, syntax, notation, axiom, sorry.
-/
import Derived.Test.YtlbcdcclelbdiaaDoorRows
import GoSem.ClaimSeven
namespace Go.Proofs.YtlbcdcclelbdiaaDoor
namespace Rows

/-- THE TIED CARD OF 'ferrylaw06.CoreFetches'. -/
def coreFetchesCard : Claim7 := { stood := { row := coreFetchesRow, standIns := [], harness := (true, "c261a62b0fad59c283389a0eab349ffde6687a349785f00b42b7b3afb0c2e52b"), looks := false }, kinds := [], alts := [], laidByText := true, laidKinds := [.sentinel, .sentinel, .sentinel, .data], laidTests := true, laidLooks := .later }
def CoreFetchesCardSaid : Prop := Claim7.holds Tryd.pinned (.plain (OpenSpec.ofChange coreFetchesSpec)) coreFetchesCard

/-- THE SECOND FORM's CARD OF 'ferrylaw06.CoreFetches'. -/
def coreFetchesUptoCard : Claim7 := { stood := { row := coreFetchesUptoRow, standIns := [], harness := (true, "c261a62b0fad59c283389a0eab349ffde6687a349785f00b42b7b3afb0c2e52b"), looks := false }, kinds := [], alts := [], laidByText := true, laidKinds := [.sentinel, .sentinel, .sentinel, .data], laidTests := true, laidLooks := .later }
def CoreFetchesUptoCardSaid : Prop := Claim7.holds Tryd.pinned (.plain (OpenSpec.upto coreFetchesSpec)) coreFetchesUptoCard
end Rows
end Go.Proofs.YtlbcdcclelbdiaaDoor
