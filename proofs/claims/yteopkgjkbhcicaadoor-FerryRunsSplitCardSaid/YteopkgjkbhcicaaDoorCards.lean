/-
  DERIVED. GIVEN WITH THE SEED: THE CARDS: each row of YteopkgjkbhcicaaDoorRows.lean that lists a variable, with what it lists TIED to the program's text (the seventh form; the later family's looks); each row that meets fmt, with fmt's text TOLD by the authors' own Lean function (tested against real Go, not proved from fmt's source: count such statements apart). THE CARD IS WHAT COUNTS. Prove the row's statement (the work); the ties are given (YteopkgjkbhcicaaDoorTie.lean); close each card by the builder's one call (the guide's Derived/Test/ToyasCard.lean, 'card_holds'). Laid BY PROGRAM, IN A SANDBOX (cutbox-door.mjs). By AI agents, Wed Nov 11 2026. No macro, syntax, notation, axiom, sorry.
-/
import Derived.Test.YteopkgjkbhcicaaDoorRows
import GoSem.ClaimSeven
namespace Go.Proofs.YteopkgjkbhcicaaDoor
namespace Rows

/-- THE TIED CARD OF 'ferrylaw06.CoreSplits'. -/
def coreSplitsCard : Claim7 := { stood := { row := coreSplitsRow, standIns := [], harness := (true, "8809deff09599b9dadb1da376ce304b390e2526a5762cf464c95f51d534ce6c3"), looks := false }, kinds := [], alts := [], laidByText := true, laidKinds := [.sentinel, .sentinel, .sentinel, .sentinel, .data], laidTests := true, laidLooks := .later }
def CoreSplitsCardSaid : Prop := Claim7.holds Tryd.pinned (.plain (OpenSpec.ofChange coreSplitsSpec)) coreSplitsCard

/-- THE TIED CARD OF 'ferrylaw06.CoreWalks'. -/
def coreWalksCard : Claim7 := { stood := { row := coreWalksRow, standIns := [], harness := (true, "8809deff09599b9dadb1da376ce304b390e2526a5762cf464c95f51d534ce6c3"), looks := false }, kinds := [], alts := [], laidByText := true, laidKinds := [.sentinel, .sentinel, .sentinel, .sentinel, .data], laidTests := true, laidLooks := .later }
def CoreWalksCardSaid : Prop := Claim7.holds Tryd.pinned (.plain (OpenSpec.ofChange coreWalksSpec)) coreWalksCard

/-- THE TIED CARD OF 'ferrylaw06.CoreGuards'. -/
def coreGuardsCard : Claim7 := { stood := { row := coreGuardsRow, standIns := [], harness := (true, "8809deff09599b9dadb1da376ce304b390e2526a5762cf464c95f51d534ce6c3"), looks := false }, kinds := [], alts := [], laidByText := true, laidKinds := [.sentinel, .sentinel, .sentinel, .sentinel, .data], laidTests := true, laidLooks := .later }
def CoreGuardsCardSaid : Prop := Claim7.holds Tryd.pinned (.plain (OpenSpec.ofChange coreGuardsSpec)) coreGuardsCard

/-- THE TIED CARD OF 'ferrylaw06.CoreMarks'. -/
def coreMarksCard : Claim7 := { stood := { row := coreMarksRow, standIns := [], harness := (true, "8809deff09599b9dadb1da376ce304b390e2526a5762cf464c95f51d534ce6c3"), looks := false }, kinds := [], alts := [], laidByText := true, laidKinds := [.sentinel, .sentinel, .sentinel, .sentinel, .data], laidTests := true, laidLooks := .later }
def CoreMarksCardSaid : Prop := Claim7.holds Tryd.pinned (.plain (OpenSpec.ofChange coreMarksSpec)) coreMarksCard

/-- THE TIED CARD OF 'ferrytop.FerryRunsSplit'. -/
def ferryRunsSplitCard : Claim7 := { stood := { row := ferryRunsSplitRow, standIns := [], harness := (true, "8809deff09599b9dadb1da376ce304b390e2526a5762cf464c95f51d534ce6c3"), looks := false }, kinds := [], alts := [], laidByText := true, laidKinds := [.sentinel, .sentinel, .sentinel, .sentinel, .sentinel, .sentinel, .data], laidTests := true, laidLooks := .later }
def FerryRunsSplitCardSaid : Prop := Claim7.holds Tryd.pinned (.plain (OpenSpec.ofChange ferryRunsSplitSpec)) ferryRunsSplitCard

/-- THE SECOND FORM's CARD OF 'ferrylaw06.CoreSplits'. -/
def coreSplitsUptoCard : Claim7 := { stood := { row := coreSplitsUptoRow, standIns := [], harness := (true, "8809deff09599b9dadb1da376ce304b390e2526a5762cf464c95f51d534ce6c3"), looks := false }, kinds := [], alts := [], laidByText := true, laidKinds := [.sentinel, .sentinel, .sentinel, .sentinel, .data], laidTests := true, laidLooks := .later }
def CoreSplitsUptoCardSaid : Prop := Claim7.holds Tryd.pinned (.plain (OpenSpec.upto coreSplitsSpec)) coreSplitsUptoCard

/-- THE SECOND FORM's CARD OF 'ferrylaw06.CoreWalks'. -/
def coreWalksUptoCard : Claim7 := { stood := { row := coreWalksUptoRow, standIns := [], harness := (true, "8809deff09599b9dadb1da376ce304b390e2526a5762cf464c95f51d534ce6c3"), looks := false }, kinds := [], alts := [], laidByText := true, laidKinds := [.sentinel, .sentinel, .sentinel, .sentinel, .data], laidTests := true, laidLooks := .later }
def CoreWalksUptoCardSaid : Prop := Claim7.holds Tryd.pinned (.plain (OpenSpec.upto coreWalksSpec)) coreWalksUptoCard

/-- THE SECOND FORM's CARD OF 'ferrylaw06.CoreGuards'. -/
def coreGuardsUptoCard : Claim7 := { stood := { row := coreGuardsUptoRow, standIns := [], harness := (true, "8809deff09599b9dadb1da376ce304b390e2526a5762cf464c95f51d534ce6c3"), looks := false }, kinds := [], alts := [], laidByText := true, laidKinds := [.sentinel, .sentinel, .sentinel, .sentinel, .data], laidTests := true, laidLooks := .later }
def CoreGuardsUptoCardSaid : Prop := Claim7.holds Tryd.pinned (.plain (OpenSpec.upto coreGuardsSpec)) coreGuardsUptoCard

/-- THE SECOND FORM's CARD OF 'ferrylaw06.CoreMarks'. -/
def coreMarksUptoCard : Claim7 := { stood := { row := coreMarksUptoRow, standIns := [], harness := (true, "8809deff09599b9dadb1da376ce304b390e2526a5762cf464c95f51d534ce6c3"), looks := false }, kinds := [], alts := [], laidByText := true, laidKinds := [.sentinel, .sentinel, .sentinel, .sentinel, .data], laidTests := true, laidLooks := .later }
def CoreMarksUptoCardSaid : Prop := Claim7.holds Tryd.pinned (.plain (OpenSpec.upto coreMarksSpec)) coreMarksUptoCard

/-- THE SECOND FORM's CARD OF 'ferrytop.FerryRunsSplit'. -/
def ferryRunsSplitUptoCard : Claim7 := { stood := { row := ferryRunsSplitUptoRow, standIns := [], harness := (true, "8809deff09599b9dadb1da376ce304b390e2526a5762cf464c95f51d534ce6c3"), looks := false }, kinds := [], alts := [], laidByText := true, laidKinds := [.sentinel, .sentinel, .sentinel, .sentinel, .sentinel, .sentinel, .data], laidTests := true, laidLooks := .later }
def FerryRunsSplitUptoCardSaid : Prop := Claim7.holds Tryd.pinned (.plain (OpenSpec.upto ferryRunsSplitSpec)) ferryRunsSplitUptoCard
end Rows
end Go.Proofs.YteopkgjkbhcicaaDoor
