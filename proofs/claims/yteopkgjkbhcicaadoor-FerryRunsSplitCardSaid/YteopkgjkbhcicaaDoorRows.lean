/-
  NARROWER THAN 'FOR EVERY INPUT', by the rows' own cells (each row's printed sentence says how): CoreSplits: laid · CoreWalks: laid · CoreGuards: laid · CoreMarks: laid · FerryRunsSplit: laid.
  DERIVED. THE GIVEN ROWS OF THIS SEAT. 5 by the template 'for every input the law returns true; each argument reads behind the call as it read before'; 0 by the template 'total and deterministic' (their statements: YteopkgjkbhcicaaDoorTotals.lean).
  GIVEN WITH THE SEED: the statements are not yours to turn. If you find one false, say at which input.
  Laid BY PROGRAM, IN A SANDBOX (cutbox-rows.mjs): the forced cells as the released guide's own fill.sh prints them over the translation df7b8bfa3a59f605… (all of the seat's roots in one cut). By AI agents, Wed Nov 11 2026. No macro, syntax, notation, axiom, sorry.
-/
import Derived.Test.YteopkgjkbhcicaaDoorChecked
import GoSem.Claim
import GoSem.ClaimJoined
import GoSem.ClaimMapViews
import Derived.JoinedTies
import Derived.KernelRfl
namespace Go.Proofs.YteopkgjkbhcicaaDoor
/- THE CELL 'sum', in the pinned program and in every row, IS THE sha256 OF THE DUMP (.gsa) THAT YteopkgjkbhcicaaDoorProg.lean LOADS. Nothing in Lean hashes anything: it is a label: what it is worth is what the hold of that sum in a sandbox is worth. -/
noncomputable def Tryd.pinned : Pinned := { name := "yteopkgjkbhcicaadoor", sum := "df7b8bfa3a59f605846153cf58fe6291bef3846900fe49d3d1fc18fcd33304bb", checked := Tryd.checked }
namespace Rows
def none {H : Type} : Left H := { results := [], args := [] }

/- WHAT THE LISTED PACKAGE-LEVEL VARIABLES READ AS WHEN THE CALL BEGINS. Each datum BY PROGRAM (the guide's laid-datum.mjs) off the statement by which the dump's own 'gosem.cut.vars' lays the variable. In a bare row this is a premise. The card (YteopkgjkbhcicaaDoorCards.lean) ties it to the program's text. -/
def laid_ferry_api_ErrRange {H : Type} : DataW H := .iface "*errors.errorString" (.ptr (.agg [.lit (.string [97, 32, 110, 117, 109, 98, 101, 114, 32, 111, 117, 116, 32, 111, 102, 32, 105, 116, 115, 32, 114, 97, 110, 103, 101])]))
def laid_ferry_api_ErrKind {H : Type} : DataW H := .iface "*errors.errorString" (.ptr (.agg [.lit (.string [110, 111, 32, 115, 117, 99, 104, 32, 107, 105, 110, 100])]))
def laid_ferry_api_ErrArg {H : Type} : DataW H := .iface "*errors.errorString" (.ptr (.agg [.lit (.string [97, 32, 119, 114, 111, 110, 103, 32, 97, 114, 103, 117, 109, 101, 110, 116])]))
def laid_ferry_api_ErrDivide {H : Type} : DataW H := .iface "*errors.errorString" (.ptr (.agg [.lit (.string [100, 105, 118, 105, 115, 105, 111, 110, 32, 98, 121, 32, 122, 101, 114, 111])]))
def laid_ferry_isa_formBounds {H : Type} : DataW H := .agg [.agg [.lit (.int .i64 0), .lit (.int .i64 0), .lit (.int .i64 0), .lit (.int .i64 0), .lit (.int .i64 0)], .agg [.lit (.int .i64 15), .lit (.int .i64 15), .lit (.int .i64 15), .lit (.int .i64 0), .lit (.int .i64 0)], .agg [.lit (.int .i64 15), .lit (.int .i64 15), .lit (.int .i64 0), .lit (.int .i64 (-32768)), .lit (.int .i64 32767)], .agg [.lit (.int .i64 15), .lit (.int .i64 15), .lit (.int .i64 0), .lit (.int .i64 0), .lit (.int .i64 65535)], .agg [.lit (.int .i64 15), .lit (.int .i64 0), .lit (.int .i64 0), .lit (.int .i64 0), .lit (.int .i64 65535)], .agg [.lit (.int .i64 15), .lit (.int .i64 0), .lit (.int .i64 0), .lit (.int .i64 (-32768)), .lit (.int .i64 32767)], .agg [.lit (.int .i64 0), .lit (.int .i64 15), .lit (.int .i64 0), .lit (.int .i64 (-32768)), .lit (.int .i64 32767)], .agg [.lit (.int .i64 0), .lit (.int .i64 0), .lit (.int .i64 0), .lit (.int .i64 0), .lit (.int .i64 65535)]]
def laid_ferry_api_ErrLength {H : Type} : DataW H := .iface "*errors.errorString" (.ptr (.agg [.lit (.string [97, 32, 108, 101, 110, 103, 116, 104, 32, 116, 104, 97, 116, 32, 105, 115, 110, 39, 116, 32, 116, 104, 101, 32, 116, 104, 105, 110, 103, 39, 115])]))
def laid_ferry_api_ErrSize {H : Type} : DataW H := .iface "*errors.errorString" (.ptr (.agg [.lit (.string [116, 111, 111, 32, 108, 97, 114, 103, 101])]))

/-- 'ferrylaw06.CoreSplits': WHATEVER THE INPUT: true; the input reads as it did. -/
def coreSplitsSpec : ChangeSpec := { name := "coreSplits", fn := fun _ => fun
  | [d1, d2, d3] => { results := [.lit (.bool true)], args := [d1, d2, d3] }
  | _ => none }
def coreSplitsRow : OpenClaim := { program := "yteopkgjkbhcicaadoor", sum := "df7b8bfa3a59f605846153cf58fe6291bef3846900fe49d3d1fc18fcd33304bb", func := "ferry/ferrylaw06.CoreSplits", spec := "coreSplits", named := ["ferry/api.ErrArg", "ferry/api.ErrKind", "ferry/isa.formBounds", "ferry/api.ErrRange", "ferry/api.ErrDivide"], apart := false, laid := [("ferry/api.ErrRange", laid_ferry_api_ErrRange), ("ferry/api.ErrKind", laid_ferry_api_ErrKind), ("ferry/api.ErrArg", laid_ferry_api_ErrArg), ("ferry/api.ErrDivide", laid_ferry_api_ErrDivide), ("ferry/isa.formBounds", laid_ferry_isa_formBounds)] }
def CoreSplitsSaid : Prop := coreSplitsRow.holds Tryd.pinned (OpenSpec.ofChange coreSplitsSpec)

/-- ITS FALSE NEIGHBOUR: 'it returns false'. Refute it at one input. -/
def coreSplitsWrong : ChangeSpec := { name := "coreSplits", fn := fun _ => fun
  | [d1, d2, d3] => { results := [.lit (.bool false)], args := [d1, d2, d3] }
  | _ => none }
def CoreSplitsWrongFalsely : Prop := coreSplitsRow.holds Tryd.pinned (OpenSpec.ofChange coreSplitsWrong)

/-- 'ferrylaw06.CoreWalks': WHATEVER THE INPUT: true; the input reads as it did. -/
def coreWalksSpec : ChangeSpec := { name := "coreWalks", fn := fun _ => fun
  | [d1, d2, d3] => { results := [.lit (.bool true)], args := [d1, d2, d3] }
  | _ => none }
def coreWalksRow : OpenClaim := { program := "yteopkgjkbhcicaadoor", sum := "df7b8bfa3a59f605846153cf58fe6291bef3846900fe49d3d1fc18fcd33304bb", func := "ferry/ferrylaw06.CoreWalks", spec := "coreWalks", named := ["ferry/api.ErrArg", "ferry/api.ErrKind", "ferry/isa.formBounds", "ferry/api.ErrRange", "ferry/api.ErrDivide"], apart := false, laid := [("ferry/api.ErrRange", laid_ferry_api_ErrRange), ("ferry/api.ErrKind", laid_ferry_api_ErrKind), ("ferry/api.ErrArg", laid_ferry_api_ErrArg), ("ferry/api.ErrDivide", laid_ferry_api_ErrDivide), ("ferry/isa.formBounds", laid_ferry_isa_formBounds)] }
def CoreWalksSaid : Prop := coreWalksRow.holds Tryd.pinned (OpenSpec.ofChange coreWalksSpec)

/-- ITS FALSE NEIGHBOUR: 'it returns false'. Refute it at one input. -/
def coreWalksWrong : ChangeSpec := { name := "coreWalks", fn := fun _ => fun
  | [d1, d2, d3] => { results := [.lit (.bool false)], args := [d1, d2, d3] }
  | _ => none }
def CoreWalksWrongFalsely : Prop := coreWalksRow.holds Tryd.pinned (OpenSpec.ofChange coreWalksWrong)

/-- 'ferrylaw06.CoreGuards': WHATEVER THE INPUT: true; the input reads as it did. -/
def coreGuardsSpec : ChangeSpec := { name := "coreGuards", fn := fun _ => fun
  | [d1, d2, d3] => { results := [.lit (.bool true)], args := [d1, d2, d3] }
  | _ => none }
def coreGuardsRow : OpenClaim := { program := "yteopkgjkbhcicaadoor", sum := "df7b8bfa3a59f605846153cf58fe6291bef3846900fe49d3d1fc18fcd33304bb", func := "ferry/ferrylaw06.CoreGuards", spec := "coreGuards", named := ["ferry/api.ErrArg", "ferry/api.ErrKind", "ferry/isa.formBounds", "ferry/api.ErrRange", "ferry/api.ErrDivide"], apart := false, laid := [("ferry/api.ErrRange", laid_ferry_api_ErrRange), ("ferry/api.ErrKind", laid_ferry_api_ErrKind), ("ferry/api.ErrArg", laid_ferry_api_ErrArg), ("ferry/api.ErrDivide", laid_ferry_api_ErrDivide), ("ferry/isa.formBounds", laid_ferry_isa_formBounds)] }
def CoreGuardsSaid : Prop := coreGuardsRow.holds Tryd.pinned (OpenSpec.ofChange coreGuardsSpec)

/-- ITS FALSE NEIGHBOUR: 'it returns false'. Refute it at one input. -/
def coreGuardsWrong : ChangeSpec := { name := "coreGuards", fn := fun _ => fun
  | [d1, d2, d3] => { results := [.lit (.bool false)], args := [d1, d2, d3] }
  | _ => none }
def CoreGuardsWrongFalsely : Prop := coreGuardsRow.holds Tryd.pinned (OpenSpec.ofChange coreGuardsWrong)

/-- 'ferrylaw06.CoreMarks': WHATEVER THE INPUT: true; the input reads as it did. -/
def coreMarksSpec : ChangeSpec := { name := "coreMarks", fn := fun _ => fun
  | [d1, d2, d3] => { results := [.lit (.bool true)], args := [d1, d2, d3] }
  | _ => none }
def coreMarksRow : OpenClaim := { program := "yteopkgjkbhcicaadoor", sum := "df7b8bfa3a59f605846153cf58fe6291bef3846900fe49d3d1fc18fcd33304bb", func := "ferry/ferrylaw06.CoreMarks", spec := "coreMarks", named := ["ferry/api.ErrArg", "ferry/api.ErrKind", "ferry/isa.formBounds", "ferry/api.ErrRange", "ferry/api.ErrDivide"], apart := false, laid := [("ferry/api.ErrRange", laid_ferry_api_ErrRange), ("ferry/api.ErrKind", laid_ferry_api_ErrKind), ("ferry/api.ErrArg", laid_ferry_api_ErrArg), ("ferry/api.ErrDivide", laid_ferry_api_ErrDivide), ("ferry/isa.formBounds", laid_ferry_isa_formBounds)] }
def CoreMarksSaid : Prop := coreMarksRow.holds Tryd.pinned (OpenSpec.ofChange coreMarksSpec)

/-- ITS FALSE NEIGHBOUR: 'it returns false'. Refute it at one input. -/
def coreMarksWrong : ChangeSpec := { name := "coreMarks", fn := fun _ => fun
  | [d1, d2, d3] => { results := [.lit (.bool false)], args := [d1, d2, d3] }
  | _ => none }
def CoreMarksWrongFalsely : Prop := coreMarksRow.holds Tryd.pinned (OpenSpec.ofChange coreMarksWrong)

/-- 'ferrytop.FerryRunsSplit': WHATEVER THE INPUT: true; the input reads as it did. -/
def ferryRunsSplitSpec : ChangeSpec := { name := "ferryRunsSplit", fn := fun _ => fun
  | [d] => { results := [.lit (.bool true)], args := [d] }
  | _ => none }
def ferryRunsSplitRow : OpenClaim := { program := "yteopkgjkbhcicaadoor", sum := "df7b8bfa3a59f605846153cf58fe6291bef3846900fe49d3d1fc18fcd33304bb", func := "ferry/ferrytop.FerryRunsSplit", spec := "ferryRunsSplit", named := ["ferry/api.ErrSize", "ferry/api.ErrRange", "ferry/api.ErrLength", "ferry/api.ErrArg", "ferry/api.ErrKind", "ferry/isa.formBounds", "ferry/api.ErrDivide"], apart := false, laid := [("ferry/api.ErrRange", laid_ferry_api_ErrRange), ("ferry/api.ErrLength", laid_ferry_api_ErrLength), ("ferry/api.ErrKind", laid_ferry_api_ErrKind), ("ferry/api.ErrSize", laid_ferry_api_ErrSize), ("ferry/api.ErrArg", laid_ferry_api_ErrArg), ("ferry/api.ErrDivide", laid_ferry_api_ErrDivide), ("ferry/isa.formBounds", laid_ferry_isa_formBounds)] }
def FerryRunsSplitSaid : Prop := ferryRunsSplitRow.holds Tryd.pinned (OpenSpec.ofChange ferryRunsSplitSpec)

/-- ITS FALSE NEIGHBOUR: 'it returns false'. Refute it at one input. -/
def ferryRunsSplitWrong : ChangeSpec := { name := "ferryRunsSplit", fn := fun _ => fun
  | [d] => { results := [.lit (.bool false)], args := [d] }
  | _ => none }
def FerryRunsSplitWrongFalsely : Prop := ferryRunsSplitRow.holds Tryd.pinned (OpenSpec.ofChange ferryRunsSplitWrong)

/- THE SECOND FORM. 'bulk': how many values and letters a reading holds, each counted each time it is reached (what is shared counts as often as it is met; a slice's spare places count too). A statement '..UptoSaid' is the law's where the arguments, and the package variables that the reading takes, are together of bulk at most 1048576: NARROWER than '..Said'. Prove '..Said' where nothing that the law and all that it calls make is longer than what came in: it says more and counts as full. Else prove '..UptoSaid'. A law counts once. -/
mutual
def uptoBulk {H : Type} : DataW H → Nat
  | .lit (.string bytes) => bytes.length + 1
  | .lit _ => 1
  | .nil => 1
  | .ptr d => uptoBulk d + 1
  | .slice elems spare => uptoBulkAll elems + uptoBulkAll spare + 1
  | .agg parts => uptoBulkAll parts + 1
  | .iface _ d => uptoBulk d + 1
  | .map entries => uptoBulkEntries entries + 1
  | .held _ => 1
def uptoBulkAll {H : Type} : List (DataW H) → Nat
  | [] => 0
  | d :: r => uptoBulk d + uptoBulkAll r
def uptoBulkEntries {H : Type} : List (Lit × DataW H) → Nat
  | [] => 0
  | x :: r => uptoBulkEntry x + uptoBulkEntries r
def uptoBulkEntry {H : Type} : Lit × DataW H → Nat
  | (.string bytes, d) => bytes.length + uptoBulk d + 1
  | (_, d) => uptoBulk d + 1
 end
def uptoSmall : (H : Type) → List (DataW H) → Bool := fun _ ds => decide (uptoBulkAll ds ≤ 1048576)
def OpenSpec.upto (s : _root_.Go.ChangeSpec) : _root_.Go.OpenSpec := { _root_.Go.OpenSpec.ofChange s with cond := some uptoSmall }

/-- 'ferrylaw06.CoreSplits', WHERE WHAT IT READS IS OF BULK AT MOST 1048576: true; the input reads as it did. -/
def coreSplitsUptoRow : OpenClaim := { program := "yteopkgjkbhcicaadoor", sum := "df7b8bfa3a59f605846153cf58fe6291bef3846900fe49d3d1fc18fcd33304bb", func := "ferry/ferrylaw06.CoreSplits", spec := "coreSplits", named := ["ferry/api.ErrArg", "ferry/api.ErrKind", "ferry/isa.formBounds", "ferry/api.ErrRange", "ferry/api.ErrDivide"], apart := false, laid := [("ferry/api.ErrRange", laid_ferry_api_ErrRange), ("ferry/api.ErrKind", laid_ferry_api_ErrKind), ("ferry/api.ErrArg", laid_ferry_api_ErrArg), ("ferry/api.ErrDivide", laid_ferry_api_ErrDivide), ("ferry/isa.formBounds", laid_ferry_isa_formBounds)], narrowed := true }
def CoreSplitsUptoSaid : Prop := coreSplitsUptoRow.holds Tryd.pinned (OpenSpec.upto coreSplitsSpec)

/-- 'ferrylaw06.CoreWalks', WHERE WHAT IT READS IS OF BULK AT MOST 1048576: true; the input reads as it did. -/
def coreWalksUptoRow : OpenClaim := { program := "yteopkgjkbhcicaadoor", sum := "df7b8bfa3a59f605846153cf58fe6291bef3846900fe49d3d1fc18fcd33304bb", func := "ferry/ferrylaw06.CoreWalks", spec := "coreWalks", named := ["ferry/api.ErrArg", "ferry/api.ErrKind", "ferry/isa.formBounds", "ferry/api.ErrRange", "ferry/api.ErrDivide"], apart := false, laid := [("ferry/api.ErrRange", laid_ferry_api_ErrRange), ("ferry/api.ErrKind", laid_ferry_api_ErrKind), ("ferry/api.ErrArg", laid_ferry_api_ErrArg), ("ferry/api.ErrDivide", laid_ferry_api_ErrDivide), ("ferry/isa.formBounds", laid_ferry_isa_formBounds)], narrowed := true }
def CoreWalksUptoSaid : Prop := coreWalksUptoRow.holds Tryd.pinned (OpenSpec.upto coreWalksSpec)

/-- 'ferrylaw06.CoreGuards', WHERE WHAT IT READS IS OF BULK AT MOST 1048576: true; the input reads as it did. -/
def coreGuardsUptoRow : OpenClaim := { program := "yteopkgjkbhcicaadoor", sum := "df7b8bfa3a59f605846153cf58fe6291bef3846900fe49d3d1fc18fcd33304bb", func := "ferry/ferrylaw06.CoreGuards", spec := "coreGuards", named := ["ferry/api.ErrArg", "ferry/api.ErrKind", "ferry/isa.formBounds", "ferry/api.ErrRange", "ferry/api.ErrDivide"], apart := false, laid := [("ferry/api.ErrRange", laid_ferry_api_ErrRange), ("ferry/api.ErrKind", laid_ferry_api_ErrKind), ("ferry/api.ErrArg", laid_ferry_api_ErrArg), ("ferry/api.ErrDivide", laid_ferry_api_ErrDivide), ("ferry/isa.formBounds", laid_ferry_isa_formBounds)], narrowed := true }
def CoreGuardsUptoSaid : Prop := coreGuardsUptoRow.holds Tryd.pinned (OpenSpec.upto coreGuardsSpec)

/-- 'ferrylaw06.CoreMarks', WHERE WHAT IT READS IS OF BULK AT MOST 1048576: true; the input reads as it did. -/
def coreMarksUptoRow : OpenClaim := { program := "yteopkgjkbhcicaadoor", sum := "df7b8bfa3a59f605846153cf58fe6291bef3846900fe49d3d1fc18fcd33304bb", func := "ferry/ferrylaw06.CoreMarks", spec := "coreMarks", named := ["ferry/api.ErrArg", "ferry/api.ErrKind", "ferry/isa.formBounds", "ferry/api.ErrRange", "ferry/api.ErrDivide"], apart := false, laid := [("ferry/api.ErrRange", laid_ferry_api_ErrRange), ("ferry/api.ErrKind", laid_ferry_api_ErrKind), ("ferry/api.ErrArg", laid_ferry_api_ErrArg), ("ferry/api.ErrDivide", laid_ferry_api_ErrDivide), ("ferry/isa.formBounds", laid_ferry_isa_formBounds)], narrowed := true }
def CoreMarksUptoSaid : Prop := coreMarksUptoRow.holds Tryd.pinned (OpenSpec.upto coreMarksSpec)

/-- 'ferrytop.FerryRunsSplit', WHERE WHAT IT READS IS OF BULK AT MOST 1048576: true; the input reads as it did. -/
def ferryRunsSplitUptoRow : OpenClaim := { program := "yteopkgjkbhcicaadoor", sum := "df7b8bfa3a59f605846153cf58fe6291bef3846900fe49d3d1fc18fcd33304bb", func := "ferry/ferrytop.FerryRunsSplit", spec := "ferryRunsSplit", named := ["ferry/api.ErrSize", "ferry/api.ErrRange", "ferry/api.ErrLength", "ferry/api.ErrArg", "ferry/api.ErrKind", "ferry/isa.formBounds", "ferry/api.ErrDivide"], apart := false, laid := [("ferry/api.ErrRange", laid_ferry_api_ErrRange), ("ferry/api.ErrLength", laid_ferry_api_ErrLength), ("ferry/api.ErrKind", laid_ferry_api_ErrKind), ("ferry/api.ErrSize", laid_ferry_api_ErrSize), ("ferry/api.ErrArg", laid_ferry_api_ErrArg), ("ferry/api.ErrDivide", laid_ferry_api_ErrDivide), ("ferry/isa.formBounds", laid_ferry_isa_formBounds)], narrowed := true }
def FerryRunsSplitUptoSaid : Prop := ferryRunsSplitUptoRow.holds Tryd.pinned (OpenSpec.upto ferryRunsSplitSpec)

end Rows
end Go.Proofs.YteopkgjkbhcicaaDoor
