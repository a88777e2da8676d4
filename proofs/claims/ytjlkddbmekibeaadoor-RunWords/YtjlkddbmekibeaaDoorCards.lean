/-
  DERIVED. GIVEN WITH THE SEED: THE CARDS: each row of YtjlkddbmekibeaaDoorRows.lean that lists a variable, with what it lists TIED to the program's text (the seventh form; the later family's looks); each row that meets fmt, with fmt's text TOLD by the authors' own Lean function (tested against real Go, not proved from fmt's source: count such statements apart). THE CARD IS WHAT COUNTS. Prove the row's statement (the work); the ties are given (YtjlkddbmekibeaaDoorTie.lean); close each card by the builder's one call (the guide's Derived/Test/ToyasCard.lean, 'card_holds'). Laid BY PROGRAM, IN A SANDBOX (cutbox-door.mjs). By AI agents, Wed Nov 11 2026. No macro, syntax, notation, axiom, sorry.
-/
import Derived.Test.YtjlkddbmekibeaaDoorRows
import GoSem.ClaimSeven
namespace Go.Proofs.YtjlkddbmekibeaaDoor
namespace Rows

/-- THE TIED CARD OF 'ferrylaw27.RunWords'. -/
def runWordsCard : Claim7 := { stood := { row := runWordsRow, standIns := [], harness := (true, "35ea29bb92d805a49283717d256b7362197105f705ae8904fcd1fcdd8a98d441"), looks := false }, kinds := [], alts := [], laidByText := true, laidKinds := [.data, .data, .data], laidTests := true, laidLooks := .later }
def RunWordsCardSaid : Prop := Claim7.holds Tryd.pinned (.plain (OpenSpec.ofChange runWordsSpec)) runWordsCard

/-- THE SECOND FORM's CARD OF 'ferrylaw27.RunWords'. -/
def runWordsUptoCard : Claim7 := { stood := { row := runWordsUptoRow, standIns := [], harness := (true, "35ea29bb92d805a49283717d256b7362197105f705ae8904fcd1fcdd8a98d441"), looks := false }, kinds := [], alts := [], laidByText := true, laidKinds := [.data, .data, .data], laidTests := true, laidLooks := .later }
def RunWordsUptoCardSaid : Prop := Claim7.holds Tryd.pinned (.plain (OpenSpec.upto runWordsSpec)) runWordsUptoCard
end Rows
end Go.Proofs.YtjlkddbmekibeaaDoor
