/-
  Small words that all walks use: a fact kept from the walk, equal endings, one step behind another.
-/
import Derived.Test.YthcmeboepedelaaDoorRows
import Derived.Test.YthcmeboepedelaaDoorMath
import Derived.WalkKit
import Derived.WalkSpells
import Derived.WalkLawsBesides
import Derived.Laws.BitsAllLaws
import Derived.Laws.Rows
import Derived.Outline
namespace Go.Proofs.YthcmeboepedelaaDoor
open Go.RowKit FerryCrc

theorem hide {p : Prop} (h : p) : Hid p := h
theorem ret_int {k : IntKind} {a b : Int} (h : a = b) : Ending.returned (.int k a) = .returned (.int k b) := by rw [h]

theorem ret_bool {a b : Bool} (h : a = b) : Ending.returned (.bool a) = .returned (.bool b) := by rw [h]

theorem chain {w w1 w2 : World} (h : Below w.heap.size w w1) (k : Below w1.heap.size w1 w2) : Below w.heap.size w w2 := h.trans (k.mono h.size)

end Go.Proofs.YthcmeboepedelaaDoor
