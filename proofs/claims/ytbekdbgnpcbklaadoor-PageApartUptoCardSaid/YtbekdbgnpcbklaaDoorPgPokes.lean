/-
  One call on a memory: the law's own pokes.
-/
import Derived.Test.YtbekdbgnpcbklaaDoorPgRefIn
import Derived.Test.YtbekdbgnpcbklaaDoorPosOpen
import Derived.Deep.RegionHeld3
namespace Go.Proofs.YtbekdbgnpcbklaaDoor
open Go.RowKit FerryCrc
set_option linter.unusedVariables false

theorem sized_int {s : Int} (h : s = 1 ∨ s = 2 ∨ s = 4) : ∃ k : Nat, s = (k : Int) ∧ Sized k := by
  rcases h with rfl | rfl | rfl
  · exact ⟨1, rfl, .inl rfl⟩
  · exact ⟨2, rfl, .inr (.inl rfl)⟩
  · exact ⟨4, rfl, .inr (.inr rfl)⟩
theorem undrew {w w' : World} (h : Below w.drew.heap.size w.drew w') : Below w.heap.size w w' := (Below.refl _ _).drew.trans h
end Go.Proofs.YtbekdbgnpcbklaaDoor
