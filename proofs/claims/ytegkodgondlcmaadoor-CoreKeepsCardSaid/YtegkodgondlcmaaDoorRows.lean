/-
  NARROWER THAN 'FOR EVERY INPUT', by the rows' own cells (each row's printed sentence says how): CoreSteps: laid · CoreKeeps: laid.
  DERIVED. THE GIVEN ROWS OF THIS SEAT. 2 by the template 'for every input the law returns true; each argument reads behind the call as it read before'; 0 by the template 'total and deterministic' (their statements: YtegkodgondlcmaaDoorTotals.lean).
  GIVEN WITH THE SEED: the statements are not yours to turn. If you find one false, say at which input.
  Laid BY PROGRAM, IN A SANDBOX (cutbox-rows.mjs): the forced cells as the released guide's own fill.sh prints them over the translation 5fc0eaff3fdeb847… (all of the seat's roots in one cut). By AI agents, Wed Nov 11 2026. No macro, syntax, notation, axiom, sorry.
-/
import Derived.Test.YtegkodgondlcmaaDoorChecked
import GoSem.Claim
import GoSem.ClaimJoined
import GoSem.ClaimMapViews
import Derived.JoinedTies
import Derived.KernelRfl
namespace Go.Proofs.YtegkodgondlcmaaDoor
/- THE CELL 'sum', in the pinned program and in every row, IS THE sha256 OF THE DUMP (.gsa) THAT YtegkodgondlcmaaDoorProg.lean LOADS. Nothing in Lean hashes anything: it is a label: what it is worth is what the hold of that sum in a sandbox is worth. -/
noncomputable def Tryd.pinned : Pinned := { name := "ytegkodgondlcmaadoor", sum := "5fc0eaff3fdeb847585b242d9ea7473b5ca3bb11b4bf1924dfe5c64e646eccfd", checked := Tryd.checked }
namespace Rows
def none {H : Type} : Left H := { results := [], args := [] }

/- WHAT THE LISTED PACKAGE-LEVEL VARIABLES READ AS WHEN THE CALL BEGINS. Each datum BY PROGRAM (the guide's laid-datum.mjs) off the statement by which the dump's own 'gosem.cut.vars' lays the variable. In a bare row this is a premise. The card (YtegkodgondlcmaaDoorCards.lean) ties it to the program's text. -/
def laid_ferry_api_ErrRange {H : Type} : DataW H := .iface "*errors.errorString" (.ptr (.agg [.lit (.string [97, 32, 110, 117, 109, 98, 101, 114, 32, 111, 117, 116, 32, 111, 102, 32, 105, 116, 115, 32, 114, 97, 110, 103, 101])]))
def laid_ferry_api_ErrKind {H : Type} : DataW H := .iface "*errors.errorString" (.ptr (.agg [.lit (.string [110, 111, 32, 115, 117, 99, 104, 32, 107, 105, 110, 100])]))
def laid_ferry_api_ErrArg {H : Type} : DataW H := .iface "*errors.errorString" (.ptr (.agg [.lit (.string [97, 32, 119, 114, 111, 110, 103, 32, 97, 114, 103, 117, 109, 101, 110, 116])]))
def laid_ferry_api_ErrDivide {H : Type} : DataW H := .iface "*errors.errorString" (.ptr (.agg [.lit (.string [100, 105, 118, 105, 115, 105, 111, 110, 32, 98, 121, 32, 122, 101, 114, 111])]))
def laid_ferry_isa_formBounds {H : Type} : DataW H := .agg [.agg [.lit (.int .i64 0), .lit (.int .i64 0), .lit (.int .i64 0), .lit (.int .i64 0), .lit (.int .i64 0)], .agg [.lit (.int .i64 15), .lit (.int .i64 15), .lit (.int .i64 15), .lit (.int .i64 0), .lit (.int .i64 0)], .agg [.lit (.int .i64 15), .lit (.int .i64 15), .lit (.int .i64 0), .lit (.int .i64 (-32768)), .lit (.int .i64 32767)], .agg [.lit (.int .i64 15), .lit (.int .i64 15), .lit (.int .i64 0), .lit (.int .i64 0), .lit (.int .i64 65535)], .agg [.lit (.int .i64 15), .lit (.int .i64 0), .lit (.int .i64 0), .lit (.int .i64 0), .lit (.int .i64 65535)], .agg [.lit (.int .i64 15), .lit (.int .i64 0), .lit (.int .i64 0), .lit (.int .i64 (-32768)), .lit (.int .i64 32767)], .agg [.lit (.int .i64 0), .lit (.int .i64 15), .lit (.int .i64 0), .lit (.int .i64 (-32768)), .lit (.int .i64 32767)], .agg [.lit (.int .i64 0), .lit (.int .i64 0), .lit (.int .i64 0), .lit (.int .i64 0), .lit (.int .i64 65535)]]

/-- 'ferrylaw06.CoreSteps': WHATEVER THE INPUT: true; the input reads as it did. -/
def coreStepsSpec : ChangeSpec := { name := "coreSteps", fn := fun _ => fun
  | [d1, d2] => { results := [.lit (.bool true)], args := [d1, d2] }
  | _ => none }
def coreStepsRow : OpenClaim := { program := "ytegkodgondlcmaadoor", sum := "5fc0eaff3fdeb847585b242d9ea7473b5ca3bb11b4bf1924dfe5c64e646eccfd", func := "ferry/ferrylaw06.CoreSteps", spec := "coreSteps", named := ["ferry/api.ErrArg", "ferry/api.ErrKind", "ferry/isa.formBounds", "ferry/api.ErrRange", "ferry/api.ErrDivide"], apart := false, laid := [("ferry/api.ErrRange", laid_ferry_api_ErrRange), ("ferry/api.ErrKind", laid_ferry_api_ErrKind), ("ferry/api.ErrArg", laid_ferry_api_ErrArg), ("ferry/api.ErrDivide", laid_ferry_api_ErrDivide), ("ferry/isa.formBounds", laid_ferry_isa_formBounds)] }
def CoreStepsSaid : Prop := coreStepsRow.holds Tryd.pinned (OpenSpec.ofChange coreStepsSpec)

/-- ITS FALSE NEIGHBOUR: 'it returns false'. Refute it at one input. -/
def coreStepsWrong : ChangeSpec := { name := "coreSteps", fn := fun _ => fun
  | [d1, d2] => { results := [.lit (.bool false)], args := [d1, d2] }
  | _ => none }
def CoreStepsWrongFalsely : Prop := coreStepsRow.holds Tryd.pinned (OpenSpec.ofChange coreStepsWrong)

/-- 'ferrylaw06.CoreKeeps': WHATEVER THE INPUT: true; the input reads as it did. -/
def coreKeepsSpec : ChangeSpec := { name := "coreKeeps", fn := fun _ => fun
  | [d1, d2, d3] => { results := [.lit (.bool true)], args := [d1, d2, d3] }
  | _ => none }
def coreKeepsRow : OpenClaim := { program := "ytegkodgondlcmaadoor", sum := "5fc0eaff3fdeb847585b242d9ea7473b5ca3bb11b4bf1924dfe5c64e646eccfd", func := "ferry/ferrylaw06.CoreKeeps", spec := "coreKeeps", named := ["ferry/api.ErrArg", "ferry/api.ErrKind", "ferry/isa.formBounds", "ferry/api.ErrRange", "ferry/api.ErrDivide"], apart := false, laid := [("ferry/api.ErrRange", laid_ferry_api_ErrRange), ("ferry/api.ErrKind", laid_ferry_api_ErrKind), ("ferry/api.ErrArg", laid_ferry_api_ErrArg), ("ferry/api.ErrDivide", laid_ferry_api_ErrDivide), ("ferry/isa.formBounds", laid_ferry_isa_formBounds)] }
def CoreKeepsSaid : Prop := coreKeepsRow.holds Tryd.pinned (OpenSpec.ofChange coreKeepsSpec)

/-- ITS FALSE NEIGHBOUR: 'it returns false'. Refute it at one input. -/
def coreKeepsWrong : ChangeSpec := { name := "coreKeeps", fn := fun _ => fun
  | [d1, d2, d3] => { results := [.lit (.bool false)], args := [d1, d2, d3] }
  | _ => none }
def CoreKeepsWrongFalsely : Prop := coreKeepsRow.holds Tryd.pinned (OpenSpec.ofChange coreKeepsWrong)

/- THE SECOND FORM. 'bulk': how many values and letters a reading holds, each counted each time it is reached (what is shared counts as often as it is met; a slice's spare places count too). A statement '..UptoSaid' is the law's where the arguments, and the package variables that the reading takes, are together of bulk at most 1048576: NARROWER than '..Said'. Prove '..Said' where nothing that the law and all that it calls make is longer than what came in: it says more and counts as full. Else prove '..UptoSaid'. A law counts once. -/
mutual
def uptoBulk {H : Type} : DataW H → Nat
  | .lit (.string bytes) => bytes.length + 1
  | .lit _ => 1
  | .nil => 1
  | .ptr d => uptoBulk d + 1
  | .slice elems spare => uptoBulkAll elems + uptoBulkAll spare + 1
  | .agg parts => uptoBulkAll parts + 1
  | .iface _ d => uptoBulk d + 1
  | .map entries => uptoBulkEntries entries + 1
  | .held _ => 1
def uptoBulkAll {H : Type} : List (DataW H) → Nat
  | [] => 0
  | d :: r => uptoBulk d + uptoBulkAll r
def uptoBulkEntries {H : Type} : List (Lit × DataW H) → Nat
  | [] => 0
  | x :: r => uptoBulkEntry x + uptoBulkEntries r
def uptoBulkEntry {H : Type} : Lit × DataW H → Nat
  | (.string bytes, d) => bytes.length + uptoBulk d + 1
  | (_, d) => uptoBulk d + 1
 end
def uptoSmall : (H : Type) → List (DataW H) → Bool := fun _ ds => decide (uptoBulkAll ds ≤ 1048576)
def OpenSpec.upto (s : _root_.Go.ChangeSpec) : _root_.Go.OpenSpec := { _root_.Go.OpenSpec.ofChange s with cond := some uptoSmall }

/-- 'ferrylaw06.CoreSteps', WHERE WHAT IT READS IS OF BULK AT MOST 1048576: true; the input reads as it did. -/
def coreStepsUptoRow : OpenClaim := { program := "ytegkodgondlcmaadoor", sum := "5fc0eaff3fdeb847585b242d9ea7473b5ca3bb11b4bf1924dfe5c64e646eccfd", func := "ferry/ferrylaw06.CoreSteps", spec := "coreSteps", named := ["ferry/api.ErrArg", "ferry/api.ErrKind", "ferry/isa.formBounds", "ferry/api.ErrRange", "ferry/api.ErrDivide"], apart := false, laid := [("ferry/api.ErrRange", laid_ferry_api_ErrRange), ("ferry/api.ErrKind", laid_ferry_api_ErrKind), ("ferry/api.ErrArg", laid_ferry_api_ErrArg), ("ferry/api.ErrDivide", laid_ferry_api_ErrDivide), ("ferry/isa.formBounds", laid_ferry_isa_formBounds)], narrowed := true }
def CoreStepsUptoSaid : Prop := coreStepsUptoRow.holds Tryd.pinned (OpenSpec.upto coreStepsSpec)

/-- 'ferrylaw06.CoreKeeps', WHERE WHAT IT READS IS OF BULK AT MOST 1048576: true; the input reads as it did. -/
def coreKeepsUptoRow : OpenClaim := { program := "ytegkodgondlcmaadoor", sum := "5fc0eaff3fdeb847585b242d9ea7473b5ca3bb11b4bf1924dfe5c64e646eccfd", func := "ferry/ferrylaw06.CoreKeeps", spec := "coreKeeps", named := ["ferry/api.ErrArg", "ferry/api.ErrKind", "ferry/isa.formBounds", "ferry/api.ErrRange", "ferry/api.ErrDivide"], apart := false, laid := [("ferry/api.ErrRange", laid_ferry_api_ErrRange), ("ferry/api.ErrKind", laid_ferry_api_ErrKind), ("ferry/api.ErrArg", laid_ferry_api_ErrArg), ("ferry/api.ErrDivide", laid_ferry_api_ErrDivide), ("ferry/isa.formBounds", laid_ferry_isa_formBounds)], narrowed := true }
def CoreKeepsUptoSaid : Prop := coreKeepsUptoRow.holds Tryd.pinned (OpenSpec.upto coreKeepsSpec)

end Rows
end Go.Proofs.YtegkodgondlcmaaDoor
