/-
  DERIVED. GIVEN WITH THE SEED: THE CARDS: each row of YtnopclacchoijaaDoorRows.lean that lists a variable, with what it lists TIED to the program's text (the seventh form; the later family's looks); each row that meets fmt, with fmt's text TOLD by the authors' own Lean function (tested against real Go, not proved from fmt's source: count such statements apart). THE CARD IS WHAT COUNTS. Prove the row's statement (the work); the ties are given (YtnopclacchoijaaDoorTie.lean); close each card by the builder's one call (the guide's Derived/Test/ToyasCard.lean, 'card_holds'). Laid BY PROGRAM, IN A SANDBOX (cutbox-door.mjs). By AI agents, Wed Nov 11 2026. No macro, syntax, notation, axiom, sorry.
-/
import Derived.Test.YtnopclacchoijaaDoorRows
import GoSem.ClaimSeven
namespace Go.Proofs.YtnopclacchoijaaDoor
namespace Rows

/-- THE TIED CARD OF 'ferrylaw22.XferSends'. -/
def xferSendsCard : Claim7 := { stood := { row := xferSendsRow, standIns := [], harness := (true, "862dc69f4b5e4cca0228692cf83715b4350250072ca5655cb6f8670633455e86"), looks := true }, kinds := [], alts := [], laidByText := true, laidKinds := [.handle, .sentinel, .sentinel, .sentinel, .sentinel, .sentinel, .sentinel, .sentinel, .sentinel, .sentinel, .sentinel, .sentinel, .sentinel, .sentinel, .sentinel, .sentinel, .sentinel, .sentinel, .sentinel, .sentinel, .sentinel], laidTests := true, laidLooks := .later }
def XferSendsCardSaid : Prop := Claim7.holds Tryd.pinned (.plain (OpenSpec.ofChange xferSendsSpec)) xferSendsCard

/-- THE TIED CARD OF 'ferrylaw22.XferStarts'. -/
def xferStartsCard : Claim7 := { stood := { row := xferStartsRow, standIns := [], harness := (true, "862dc69f4b5e4cca0228692cf83715b4350250072ca5655cb6f8670633455e86"), looks := true }, kinds := [], alts := [], laidByText := true, laidKinds := [.handle, .sentinel, .sentinel, .sentinel, .sentinel, .sentinel, .sentinel, .sentinel, .sentinel, .sentinel, .sentinel, .sentinel, .sentinel, .sentinel, .sentinel, .sentinel, .sentinel, .sentinel, .sentinel, .sentinel, .sentinel], laidTests := true, laidLooks := .later }
def XferStartsCardSaid : Prop := Claim7.holds Tryd.pinned (.plain (OpenSpec.ofChange xferStartsSpec)) xferStartsCard

/-- THE TIED CARD OF 'ferrylaw22.XferTakes'. -/
def xferTakesCard : Claim7 := { stood := { row := xferTakesRow, standIns := [], harness := (true, "862dc69f4b5e4cca0228692cf83715b4350250072ca5655cb6f8670633455e86"), looks := true }, kinds := [], alts := [], laidByText := true, laidKinds := [.handle, .sentinel, .sentinel, .sentinel, .sentinel, .sentinel, .sentinel, .sentinel, .sentinel, .sentinel, .sentinel, .sentinel, .sentinel, .sentinel, .sentinel, .sentinel, .sentinel, .sentinel, .sentinel, .sentinel, .sentinel], laidTests := true, laidLooks := .later }
def XferTakesCardSaid : Prop := Claim7.holds Tryd.pinned (.plain (OpenSpec.ofChange xferTakesSpec)) xferTakesCard

/-- THE TIED CARD OF 'ferrylaw22.XferComes'. -/
def xferComesCard : Claim7 := { stood := { row := xferComesRow, standIns := [], harness := (true, "862dc69f4b5e4cca0228692cf83715b4350250072ca5655cb6f8670633455e86"), looks := true }, kinds := [], alts := [], laidByText := true, laidKinds := [.sentinel, .sentinel, .sentinel, .sentinel, .sentinel, .sentinel, .sentinel], laidTests := true, laidLooks := .later }
def XferComesCardSaid : Prop := Claim7.holds Tryd.pinned (.plain (OpenSpec.ofChange xferComesSpec)) xferComesCard

/-- THE TIED CARD OF 'ferrylaw22.XferArrives'. -/
def xferArrivesCard : Claim7 := { stood := { row := xferArrivesRow, standIns := [], harness := (true, "862dc69f4b5e4cca0228692cf83715b4350250072ca5655cb6f8670633455e86"), looks := true }, kinds := [], alts := [], laidByText := true, laidKinds := [.sentinel, .sentinel, .sentinel, .sentinel, .sentinel, .sentinel, .sentinel], laidTests := true, laidLooks := .later }
def XferArrivesCardSaid : Prop := Claim7.holds Tryd.pinned (.plain (OpenSpec.ofChange xferArrivesSpec)) xferArrivesCard

/-- THE TIED CARD OF 'ferrylaw22.XferKeeps'. -/
def xferKeepsCard : Claim7 := { stood := { row := xferKeepsRow, standIns := [], harness := (true, "862dc69f4b5e4cca0228692cf83715b4350250072ca5655cb6f8670633455e86"), looks := true }, kinds := [], alts := [], laidByText := true, laidKinds := [.sentinel, .sentinel, .sentinel, .sentinel, .sentinel, .sentinel, .sentinel], laidTests := true, laidLooks := .later }
def XferKeepsCardSaid : Prop := Claim7.holds Tryd.pinned (.plain (OpenSpec.ofChange xferKeepsSpec)) xferKeepsCard

/-- THE SECOND FORM's CARD OF 'ferrylaw22.XferSends'. -/
def xferSendsUptoCard : Claim7 := { stood := { row := xferSendsUptoRow, standIns := [], harness := (true, "862dc69f4b5e4cca0228692cf83715b4350250072ca5655cb6f8670633455e86"), looks := true }, kinds := [], alts := [], laidByText := true, laidKinds := [.handle, .sentinel, .sentinel, .sentinel, .sentinel, .sentinel, .sentinel, .sentinel, .sentinel, .sentinel, .sentinel, .sentinel, .sentinel, .sentinel, .sentinel, .sentinel, .sentinel, .sentinel, .sentinel, .sentinel, .sentinel], laidTests := true, laidLooks := .later }
def XferSendsUptoCardSaid : Prop := Claim7.holds Tryd.pinned (.plain (OpenSpec.upto xferSendsSpec)) xferSendsUptoCard

/-- THE SECOND FORM's CARD OF 'ferrylaw22.XferStarts'. -/
def xferStartsUptoCard : Claim7 := { stood := { row := xferStartsUptoRow, standIns := [], harness := (true, "862dc69f4b5e4cca0228692cf83715b4350250072ca5655cb6f8670633455e86"), looks := true }, kinds := [], alts := [], laidByText := true, laidKinds := [.handle, .sentinel, .sentinel, .sentinel, .sentinel, .sentinel, .sentinel, .sentinel, .sentinel, .sentinel, .sentinel, .sentinel, .sentinel, .sentinel, .sentinel, .sentinel, .sentinel, .sentinel, .sentinel, .sentinel, .sentinel], laidTests := true, laidLooks := .later }
def XferStartsUptoCardSaid : Prop := Claim7.holds Tryd.pinned (.plain (OpenSpec.upto xferStartsSpec)) xferStartsUptoCard

/-- THE SECOND FORM's CARD OF 'ferrylaw22.XferTakes'. -/
def xferTakesUptoCard : Claim7 := { stood := { row := xferTakesUptoRow, standIns := [], harness := (true, "862dc69f4b5e4cca0228692cf83715b4350250072ca5655cb6f8670633455e86"), looks := true }, kinds := [], alts := [], laidByText := true, laidKinds := [.handle, .sentinel, .sentinel, .sentinel, .sentinel, .sentinel, .sentinel, .sentinel, .sentinel, .sentinel, .sentinel, .sentinel, .sentinel, .sentinel, .sentinel, .sentinel, .sentinel, .sentinel, .sentinel, .sentinel, .sentinel], laidTests := true, laidLooks := .later }
def XferTakesUptoCardSaid : Prop := Claim7.holds Tryd.pinned (.plain (OpenSpec.upto xferTakesSpec)) xferTakesUptoCard

/-- THE SECOND FORM's CARD OF 'ferrylaw22.XferComes'. -/
def xferComesUptoCard : Claim7 := { stood := { row := xferComesUptoRow, standIns := [], harness := (true, "862dc69f4b5e4cca0228692cf83715b4350250072ca5655cb6f8670633455e86"), looks := true }, kinds := [], alts := [], laidByText := true, laidKinds := [.sentinel, .sentinel, .sentinel, .sentinel, .sentinel, .sentinel, .sentinel], laidTests := true, laidLooks := .later }
def XferComesUptoCardSaid : Prop := Claim7.holds Tryd.pinned (.plain (OpenSpec.upto xferComesSpec)) xferComesUptoCard

/-- THE SECOND FORM's CARD OF 'ferrylaw22.XferArrives'. -/
def xferArrivesUptoCard : Claim7 := { stood := { row := xferArrivesUptoRow, standIns := [], harness := (true, "862dc69f4b5e4cca0228692cf83715b4350250072ca5655cb6f8670633455e86"), looks := true }, kinds := [], alts := [], laidByText := true, laidKinds := [.sentinel, .sentinel, .sentinel, .sentinel, .sentinel, .sentinel, .sentinel], laidTests := true, laidLooks := .later }
def XferArrivesUptoCardSaid : Prop := Claim7.holds Tryd.pinned (.plain (OpenSpec.upto xferArrivesSpec)) xferArrivesUptoCard

/-- THE SECOND FORM's CARD OF 'ferrylaw22.XferKeeps'. -/
def xferKeepsUptoCard : Claim7 := { stood := { row := xferKeepsUptoRow, standIns := [], harness := (true, "862dc69f4b5e4cca0228692cf83715b4350250072ca5655cb6f8670633455e86"), looks := true }, kinds := [], alts := [], laidByText := true, laidKinds := [.sentinel, .sentinel, .sentinel, .sentinel, .sentinel, .sentinel, .sentinel], laidTests := true, laidLooks := .later }
def XferKeepsUptoCardSaid : Prop := Claim7.holds Tryd.pinned (.plain (OpenSpec.upto xferKeepsSpec)) xferKeepsUptoCard
end Rows
end Go.Proofs.YtnopclacchoijaaDoor
