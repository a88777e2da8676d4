/-
  What the listed package variables give: the library's powers of ten.
-/
import Derived.Test.YtjlkddbmekibeaaDoorFrameLite
import Derived.Lib.LaidTab
import Derived.Stop.LaidErr
import Derived.Test.YtjlkddbmekibeaaDoorMath
import Derived.Lib.ItoaNum
namespace Go.Proofs.YtjlkddbmekibeaaDoor
open Go.ChangeShapes Go.WideShapes Go.ChangeAt Go.RowKit FerryCrc
set_option linter.unusedVariables false

theorem tab_of_laid {W : World} (h : laidMetH Tryd.prog Rows.runWordsRow.laid W) : Lib.TabIs Tryd.prog W "internal/strconv.uint64pow10" .u64 Lib.pow10Tab := by
  have h' : laidMet Tryd.prog Rows.runWordsRow.laid W := h
  have h2 := Go.laidMet.tail (Go.laidMet.tail h')
  exact Lib.tabIs_of_head (g := 0) (t := 37) (e := 30) (n := 20) (by kernel_rfl) (by kernel_rfl) Tryd.underlying37 Tryd.underlying30 (by kernel_rfl) (by kernel_rfl) h2
end Go.Proofs.YtjlkddbmekibeaaDoor
