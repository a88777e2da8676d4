/-
  A script's call whose numbers are all in bounds.
-/
import Derived.Test.YtgnkmenjjmfcfaaDoorLkPlays
namespace Go.Proofs.YtgnkmenjjmfcfaaDoor
open Go.RowKit FerryCrc
set_option linter.unusedVariables false
def Kp.ok2 (o : Kp) : Prop := o.ok ∧ -9223372036854775808 ≤ o.y ∧ o.y ≤ 9223372036854775807
theorem tw_new {wb w w' w2 : World} {lb mb rb : Nat} (hl : LAt w lb mb ⟨0, fun _ => none⟩) (hb : Below w.heap.size w w2) (hr : Bk w2 rb [.slice none 0 0] 28) (hbb : Below wb.heap.size wb w2) (h1 : wb.heap.size ≤ lb ∧ wb.heap.size ≤ mb) (h2 : wb.heap.size ≤ rb) : Tw2 wb w2 lb mb rb none 0 ⟨0, fun _ => none⟩ [] :=
  ⟨hl.below hb, ⟨hr, World.ownsRow_nil _ _ _ _, h2⟩, sm_nil, hbb, h1⟩
end Go.Proofs.YtgnkmenjjmfcfaaDoor
