/-
  A case as a law's own variable holds it: plan, port, data.
-/
import Derived.Test.YtgcodajiehfloaaDoorPtBase
namespace Go.Proofs.YtgcodajiehfloaaDoor
open Go.RowKit
set_option linter.unusedVariables false
set_option linter.unusedSimpArgs false

structure Cx (w : World) (b : Nat) (k s d r : Int) (x : Value) (age : Int) (D : ByteArray) : Prop where
  c0 : w.cell? ⟨b, 0, none⟩ = some (.int .i64 k)
  c1 : w.cell? ⟨b, 1, none⟩ = some (.int .i64 s)
  c2 : w.cell? ⟨b, 2, none⟩ = some (.int .i64 d)
  c3 : w.cell? ⟨b, 3, none⟩ = some (.int .i64 r)
  c4 : w.cell? ⟨b, 4, none⟩ = some x
  c5 : w.cell? ⟨b, 5, none⟩ = some (.int .i64 age)
  c6 : w.cell? ⟨b, 6, none⟩ = some (.string D)
theorem Cx.below {w w' : World} {b : Nat} {k s d r : Int} {x : Value} {age : Int} {D : ByteArray} (h : Cx w b k s d r x age D) (hb : Below w.heap.size w w') : Cx w' b k s d r x age D :=
  ⟨cell_below h.c0 hb, cell_below h.c1 hb, cell_below h.c2 hb, cell_below h.c3 hb, cell_below h.c4 hb, cell_below h.c5 hb, cell_below h.c6 hb⟩
theorem Cx.far2 {w : World} {b g : Nat} {k s d r : Int} {x : Value} {age : Int} {D : ByteArray} {x' y' : Value} (h : Cx w b k s d r x age D) (hg : b < g) : Cx ((w.setCell ⟨g, 0, none⟩ x').setCell ⟨g, 1, none⟩ y') b k s d r x age D := by
  have e : ∀ o i, (⟨g, o, none⟩ : Addr) ≠ ⟨b, i, none⟩ := fun o i q => by simp only [Addr.mk.injEq] at q; omega
  exact ⟨by rw [World.cell?_setCell_other _ _ _ _ (e _ _), World.cell?_setCell_other _ _ _ _ (e _ _)]; exact h.c0, by rw [World.cell?_setCell_other _ _ _ _ (e _ _), World.cell?_setCell_other _ _ _ _ (e _ _)]; exact h.c1, by rw [World.cell?_setCell_other _ _ _ _ (e _ _), World.cell?_setCell_other _ _ _ _ (e _ _)]; exact h.c2, by rw [World.cell?_setCell_other _ _ _ _ (e _ _), World.cell?_setCell_other _ _ _ _ (e _ _)]; exact h.c3, by rw [World.cell?_setCell_other _ _ _ _ (e _ _), World.cell?_setCell_other _ _ _ _ (e _ _)]; exact h.c4, by rw [World.cell?_setCell_other _ _ _ _ (e _ _), World.cell?_setCell_other _ _ _ _ (e _ _)]; exact h.c5, by rw [World.cell?_setCell_other _ _ _ _ (e _ _), World.cell?_setCell_other _ _ _ _ (e _ _)]; exact h.c6⟩
theorem cx_alloc (w : World) (k s d r : Int) (x : Value) (age : Int) (D : ByteArray) (y z u : Value) :
    Cx (w.alloc (.cells #[.int .i64 k, .int .i64 s, .int .i64 d, .int .i64 r, x, .int .i64 age, .string D, y, z, u] 31)) w.heap.size k s d r x age D :=
  ⟨by rw [World.cell?_alloc_at _ _ _ _ rfl]; rfl, by rw [World.cell?_alloc_at _ _ _ _ rfl]; rfl, by rw [World.cell?_alloc_at _ _ _ _ rfl]; rfl, by rw [World.cell?_alloc_at _ _ _ _ rfl]; rfl, by rw [World.cell?_alloc_at _ _ _ _ rfl]; rfl, by rw [World.cell?_alloc_at _ _ _ _ rfl]; rfl, by rw [World.cell?_alloc_at _ _ _ _ rfl]; rfl⟩
theorem cx_below (w : World) (k s d r : Int) (x : Value) (age : Int) (D : ByteArray) (y z u : Value) :
    Below w.heap.size w (w.alloc (.cells #[.int .i64 k, .int .i64 s, .int .i64 d, .int .i64 r, x, .int .i64 age, .string D, y, z, u] 31)) := (Below.refl _ _).alloc (Nat.le_refl _) _
end Go.Proofs.YtgcodajiehfloaaDoor
