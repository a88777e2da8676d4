/-
  What api.Code and api.Place say of the errors of package api: the number of the error, and its place.
-/
import Derived.Test.YtnjabidelpafgaaDoorErrAs
namespace Go.Proofs.YtnjabidelpafgaaDoor
open Go.RowKit Go.Extern.Stop Go.Stop Go.Extern FerryCrc

theorem cell_below {w w' : World} {a : Addr} {v : Value} (h : w.cell? a = some v) (hb : Below w.heap.size w w') : w'.cell? a = some v := by
  rw [hb.cell (p := a) (block_lt_of_cell h)]
  exact h

theorem heap_below {w w' : World} {k : Nat} {o : Obj} (h : w.heap[k]? = some o) (hb : Below w.heap.size w w') : w'.heap[k]? = some o := by
  have hlt : k < w.heap.size := (Array.getElem?_eq_some_iff.1 h).1
  rw [hb.block k hlt]
  exact h

end Go.Proofs.YtnjabidelpafgaaDoor
