/-
  What errors.As says of an *api.At where the target is a variable of that type: it is found; and what api.Place says of it: the place that stands in it.
-/
import Derived.Test.YtnjabidelpafgaaDoorPlainP
namespace Go.Proofs.YtnjabidelpafgaaDoor
open Go.RowKit Go.Extern.Stop Go.Stop Go.Extern FerryCrc

end Go.Proofs.YtnjabidelpafgaaDoor
