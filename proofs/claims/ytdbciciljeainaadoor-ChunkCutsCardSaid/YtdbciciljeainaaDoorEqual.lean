/-
  Walk of the document's Equal.
-/
import Derived.Test.YtdbciciljeainaaDoorLow
import Derived.BigRegion
namespace Go.Proofs.YtdbciciljeainaaDoor
open Go.RowKit FerryCrc

theorem take_next {l : List Nat} {k x : Nat} (h : l[k]? = some x) : l.take (k + 1) = l.take k ++ [x] := by
  rw [List.take_add_one, h]
  rfl

end Go.Proofs.YtdbciciljeainaaDoor
