/-
  The document's Good and Pick; its comparing of numbers.
-/
import Derived.Test.YtnjabidelpafgaaDoorRyRef
import Derived.BigQuiet
import Derived.Deep.RegionHeld3
namespace Go.Proofs.YtnjabidelpafgaaDoor
open Classical
open Go.RowKit
set_option linter.unusedVariables false
set_option linter.unusedSimpArgs false

end Go.Proofs.YtnjabidelpafgaaDoor
