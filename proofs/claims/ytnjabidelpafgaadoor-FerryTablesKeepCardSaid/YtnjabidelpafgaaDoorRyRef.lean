/-
  The document's tables: count, timers, ahead, goodProc.
-/
import Derived.Test.YtnjabidelpafgaaDoorRyPick
import Derived.Deep.CutBlock
namespace Go.Proofs.YtnjabidelpafgaaDoor
open Go.RowKit
set_option linter.unusedVariables false
set_option linter.unusedSimpArgs false

theorem count_take {r : List Int} {k : Nat} {x : Int} (n : Int) (h : r[k]? = some x) : (r.take (k + 1)).count n = (r.take k).count n + if x == n then 1 else 0 := by
  rw [take_snoc h, List.count_append]
  simp [List.count_cons]
theorem count_le (r : List Int) (n : Int) : r.count n ≤ r.length := List.count_le_length
theorem tcount_take {t : List Tm} {k : Nat} {x : Tm} (n : Int) (h : t[k]? = some x) : tcount (t.take (k + 1)) n = tcount (t.take k) n + if x.proc == n then 1 else 0 := by
  unfold tcount
  rw [take_snoc h, List.map_append, List.count_append]
  simp [List.count_cons]
end Go.Proofs.YtnjabidelpafgaaDoor
