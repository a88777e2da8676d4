/-
  NARROWER THAN 'FOR EVERY INPUT', by the rows' own cells (each row's printed sentence says how): FerryTablesKeep: laid.
  DERIVED. THE GIVEN ROWS OF THIS SEAT. 1 by the template 'for every input the law returns true; each argument reads behind the call as it read before'; 0 by the template 'total and deterministic' (their statements: YtnjabidelpafgaaDoorTotals.lean).
  GIVEN WITH THE SEED: the statements are not yours to turn. If you find one false, say at which input.
  Laid BY PROGRAM, IN A SANDBOX (cutbox-rows.mjs): the forced cells as the released guide's own fill.sh prints them over the translation 599daad5492724d5… (all of the seat's roots in one cut). By AI agents, Wed Nov 11 2026. No macro, syntax, notation, axiom, sorry.
-/
import Derived.Test.YtnjabidelpafgaaDoorChecked
import GoSem.Claim
import GoSem.ClaimJoined
import GoSem.ClaimMapViews
import Derived.JoinedTies
import Derived.KernelRfl
namespace Go.Proofs.YtnjabidelpafgaaDoor
/- THE CELL 'sum', in the pinned program and in every row, IS THE sha256 OF THE DUMP (.gsa) THAT YtnjabidelpafgaaDoorProg.lean LOADS. Nothing in Lean hashes anything: it is a label: what it is worth is what the hold of that sum in a sandbox is worth. -/
noncomputable def Tryd.pinned : Pinned := { name := "ytnjabidelpafgaadoor", sum := "599daad5492724d58984519bf7e1d4624e653ecda417b91af14da58bdc405d85", checked := Tryd.checked }
namespace Rows
def none {H : Type} : Left H := { results := [], args := [] }

/- WHAT THE LISTED PACKAGE-LEVEL VARIABLES READ AS WHEN THE CALL BEGINS. Each datum BY PROGRAM (the guide's laid-datum.mjs) off the statement by which the dump's own 'gosem.cut.vars' lays the variable. In a bare row this is a premise. The card (YtnjabidelpafgaaDoorCards.lean) ties it to the program's text. -/
def laid_ferry_api_ErrState {H : Type} : DataW H := .iface "*errors.errorString" (.ptr (.agg [.lit (.string [116, 104, 101, 32, 115, 116, 97, 116, 101, 32, 98, 114, 101, 97, 107, 115, 32, 97, 32, 114, 117, 108, 101])]))
def laid_ferry_api_ErrArg {H : Type} : DataW H := .iface "*errors.errorString" (.ptr (.agg [.lit (.string [97, 32, 119, 114, 111, 110, 103, 32, 97, 114, 103, 117, 109, 101, 110, 116])]))
def laid_ferry_api_ErrNone {H : Type} : DataW H := .iface "*errors.errorString" (.ptr (.agg [.lit (.string [116, 104, 101, 114, 101, 32, 105, 115, 32, 110, 111, 110, 101])]))

/-- 'ferrytop.FerryTablesKeep': WHATEVER THE INPUT: true; the input reads as it did. -/
def ferryTablesKeepSpec : ChangeSpec := { name := "ferryTablesKeep", fn := fun _ => fun
  | [d1, d2] => { results := [.lit (.bool true)], args := [d1, d2] }
  | _ => none }
def ferryTablesKeepRow : OpenClaim := { program := "ytnjabidelpafgaadoor", sum := "599daad5492724d58984519bf7e1d4624e653ecda417b91af14da58bdc405d85", func := "ferry/ferrytop.FerryTablesKeep", spec := "ferryTablesKeep", unfollowed := true, recurses := true, named := ["ferry/api.ErrArg", "ferry/api.ErrState", "ferry/api.ErrNone"], apart := false, laid := [("ferry/api.ErrState", laid_ferry_api_ErrState), ("ferry/api.ErrArg", laid_ferry_api_ErrArg), ("ferry/api.ErrNone", laid_ferry_api_ErrNone)] }
def FerryTablesKeepSaid : Prop := ferryTablesKeepRow.holds Tryd.pinned (OpenSpec.ofChange ferryTablesKeepSpec)

/-- ITS FALSE NEIGHBOUR: 'it returns false'. Refute it at one input. -/
def ferryTablesKeepWrong : ChangeSpec := { name := "ferryTablesKeep", fn := fun _ => fun
  | [d1, d2] => { results := [.lit (.bool false)], args := [d1, d2] }
  | _ => none }
def FerryTablesKeepWrongFalsely : Prop := ferryTablesKeepRow.holds Tryd.pinned (OpenSpec.ofChange ferryTablesKeepWrong)

/- THE SECOND FORM. 'bulk': how many values and letters a reading holds, each counted each time it is reached (what is shared counts as often as it is met; a slice's spare places count too). A statement '..UptoSaid' is the law's where the arguments, and the package variables that the reading takes, are together of bulk at most 1048576: NARROWER than '..Said'. Prove '..Said' where nothing that the law and all that it calls make is longer than what came in: it says more and counts as full. Else prove '..UptoSaid'. A law counts once. -/
mutual
def uptoBulk {H : Type} : DataW H → Nat
  | .lit (.string bytes) => bytes.length + 1
  | .lit _ => 1
  | .nil => 1
  | .ptr d => uptoBulk d + 1
  | .slice elems spare => uptoBulkAll elems + uptoBulkAll spare + 1
  | .agg parts => uptoBulkAll parts + 1
  | .iface _ d => uptoBulk d + 1
  | .map entries => uptoBulkEntries entries + 1
  | .held _ => 1
def uptoBulkAll {H : Type} : List (DataW H) → Nat
  | [] => 0
  | d :: r => uptoBulk d + uptoBulkAll r
def uptoBulkEntries {H : Type} : List (Lit × DataW H) → Nat
  | [] => 0
  | x :: r => uptoBulkEntry x + uptoBulkEntries r
def uptoBulkEntry {H : Type} : Lit × DataW H → Nat
  | (.string bytes, d) => bytes.length + uptoBulk d + 1
  | (_, d) => uptoBulk d + 1
 end
def uptoSmall : (H : Type) → List (DataW H) → Bool := fun _ ds => decide (uptoBulkAll ds ≤ 1048576)
def OpenSpec.upto (s : _root_.Go.ChangeSpec) : _root_.Go.OpenSpec := { _root_.Go.OpenSpec.ofChange s with cond := some uptoSmall }

/-- 'ferrytop.FerryTablesKeep', WHERE WHAT IT READS IS OF BULK AT MOST 1048576: true; the input reads as it did. -/
def ferryTablesKeepUptoRow : OpenClaim := { program := "ytnjabidelpafgaadoor", sum := "599daad5492724d58984519bf7e1d4624e653ecda417b91af14da58bdc405d85", func := "ferry/ferrytop.FerryTablesKeep", spec := "ferryTablesKeep", unfollowed := true, recurses := true, named := ["ferry/api.ErrArg", "ferry/api.ErrState", "ferry/api.ErrNone"], apart := false, laid := [("ferry/api.ErrState", laid_ferry_api_ErrState), ("ferry/api.ErrArg", laid_ferry_api_ErrArg), ("ferry/api.ErrNone", laid_ferry_api_ErrNone)], narrowed := true }
def FerryTablesKeepUptoSaid : Prop := ferryTablesKeepUptoRow.holds Tryd.pinned (OpenSpec.upto ferryTablesKeepSpec)

end Rows
end Go.Proofs.YtnjabidelpafgaaDoor
