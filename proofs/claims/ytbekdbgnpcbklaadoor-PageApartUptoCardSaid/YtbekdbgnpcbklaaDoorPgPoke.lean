/-
  Poke of a list of one's own, whatever its form.
-/
import Derived.Test.YtbekdbgnpcbklaaDoorPgGood
namespace Go.Proofs.YtbekdbgnpcbklaaDoor
open Go.RowKit FerryCrc
set_option linter.unusedVariables false

theorem pkv_len (l : List Pg) (n s v : Nat) : (pkv l n s v).length = l.length := by unfold pkv; split; exact stored_len _ _ _ _; rfl
end Go.Proofs.YtbekdbgnpcbklaaDoor
