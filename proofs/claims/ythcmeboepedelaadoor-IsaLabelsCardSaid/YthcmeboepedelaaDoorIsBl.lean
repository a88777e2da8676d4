/-
  Blocks of the call's own, and one of five cells that is written whole.
-/
import Derived.Test.YthcmeboepedelaaDoorIsCheck
namespace Go.Proofs.YthcmeboepedelaaDoor
open Go.RowKit FerryCrc
set_option linter.unusedVariables false
set_option linter.unusedSimpArgs false

/-- The cells of a block of the call's own. -/
structure Bl (w : World) (g : Nat) (cs : List Value) : Prop where
  cell : ∀ j v, cs[j]? = some v → w.cell? ⟨g, j, none⟩ = some v
  free : ∀ j, w.frozen? ⟨g, j, none⟩ = false
theorem bl_alloc (w : World) (c : Array Value) (t : TypeId) : Bl (w.alloc (.cells c t)) w.heap.size c.toList :=
  ⟨fun j v hv => by rw [World.cell?_alloc_at _ _ _ _ rfl]; simpa using hv, fun j => World.frozen?_alloc_new _ _ _ _⟩
theorem Bl.below {w w' : World} {g : Nat} {cs : List Value} (h : Bl w g cs) (hg : g < w.heap.size) (hb : Below w.heap.size w w') : Bl w' g cs :=
  ⟨fun j v hv => by rw [hb.cell (p := ⟨g, j, none⟩) hg]; exact h.cell j v hv, fun j => by rw [hb.frozen (p := ⟨g, j, none⟩) hg]; exact h.free j⟩
theorem Bl.far {w : World} {g g' k : Nat} {cs : List Value} {u : Value} (h : Bl w g cs) (hne : g' ≠ g) : Bl (w.setCell ⟨g', k, none⟩ u) g cs :=
  ⟨fun j v hv => by rw [World.cell?_setCell_other _ _ _ _ (by simp)]; exact h.cell j v hv, fun j => by rw [World.frozen?_setCell]; exact h.free j⟩
theorem Bl.set {w : World} {g : Nat} {cs : List Value} (h : Bl w g cs) {k : Nat} (hk : k < cs.length) (u : Value) : Bl (w.setCell ⟨g, k, none⟩ u) g (cs.set k u) := by
  refine ⟨fun j v hv => ?_, fun j => by rw [World.frozen?_setCell]; exact h.free j⟩
  by_cases hj : j = k
  · subst hj
    rw [List.getElem?_set_self hk] at hv
    obtain rfl := Option.some.inj hv
    exact World.cell?_setCell_same _ _ _ (h.cell j _ (List.getElem?_eq_getElem hk))
  · rw [List.getElem?_set_ne (Ne.symm hj)] at hv
    rw [World.cell?_setCell_other _ _ _ _ (by simp [hj])]
    exact h.cell j v hv
/-- Five cells of a block written. -/
abbrev set5 (w : World) (g : Nat) (x0 x1 x2 x3 x4 : Value) : World :=
  ((((w.setCell ⟨g, 0, none⟩ x0).setCell ⟨g, 1, none⟩ x1).setCell ⟨g, 2, none⟩ x2).setCell ⟨g, 3, none⟩ x3).setCell ⟨g, 4, none⟩ x4
theorem Bl.five {w : World} {g : Nat} {y0 y1 y2 y3 y4 : Value} (h : Bl w g [y0, y1, y2, y3, y4]) (x0 x1 x2 x3 x4 : Value) : Bl (set5 w g x0 x1 x2 x3 x4) g [x0, x1, x2, x3, x4] :=
  ((((h.set (k := 0) (by simp) x0).set (k := 1) (by simp) x1).set (k := 2) (by simp) x2).set (k := 3) (by simp) x3).set (k := 4) (by simp) x4
theorem below_five {w0 w : World} {g B : Nat} (h : Below B w0 w) (hg : B ≤ g) (x0 x1 x2 x3 x4 : Value) : Below B w0 (set5 w g x0 x1 x2 x3 x4) :=
  ((((h.setCell (p := ⟨g, 0, none⟩) hg x0).setCell (p := ⟨g, 1, none⟩) hg x1).setCell (p := ⟨g, 2, none⟩) hg x2).setCell (p := ⟨g, 3, none⟩) hg x3).setCell (p := ⟨g, 4, none⟩) hg x4
theorem bl_get {w : World} {g : Nat} {x0 x1 x2 x3 x4 : Value} (h : Bl w g [x0, x1, x2, x3, x4]) :
    w.cell? ⟨g, 0, none⟩ = some x0 ∧ w.cell? ⟨g, 1, none⟩ = some x1 ∧ w.cell? ⟨g, 2, none⟩ = some x2 ∧ w.cell? ⟨g, 3, none⟩ = some x3 ∧ w.cell? ⟨g, 4, none⟩ = some x4 :=
  ⟨h.cell 0 _ rfl, h.cell 1 _ rfl, h.cell 2 _ rfl, h.cell 3 _ rfl, h.cell 4 _ rfl⟩
theorem bl_free {w : World} {g : Nat} {x0 x1 x2 x3 x4 : Value} (h : Bl w g [x0, x1, x2, x3, x4]) :
    w.frozen? ⟨g, 0, none⟩ = false ∧ w.frozen? ⟨g, 1, none⟩ = false ∧ w.frozen? ⟨g, 2, none⟩ = false ∧ w.frozen? ⟨g, 3, none⟩ = false ∧ w.frozen? ⟨g, 4, none⟩ = false :=
  ⟨h.free 0, h.free 1, h.free 2, h.free 3, h.free 4⟩
theorem fin5 {w0 w2 : World} {g B : Nat} {y0 y1 y2 y3 y4 : Value} (h : Bl w2 g [y0, y1, y2, y3, y4]) (hb : Below B w0 w2) (hg : B ≤ g) (x0 x1 x2 x3 x4 : Value) :
    ((set5 w2 g x0 x1 x2 x3 x4).cell? ⟨g, 0, none⟩ = some x0 ∧ (set5 w2 g x0 x1 x2 x3 x4).cell? ⟨g, 1, none⟩ = some x1 ∧ (set5 w2 g x0 x1 x2 x3 x4).cell? ⟨g, 2, none⟩ = some x2 ∧ (set5 w2 g x0 x1 x2 x3 x4).cell? ⟨g, 3, none⟩ = some x3 ∧ (set5 w2 g x0 x1 x2 x3 x4).cell? ⟨g, 4, none⟩ = some x4) ∧ Below B w0 (set5 w2 g x0 x1 x2 x3 x4) :=
  ⟨bl_get (h.five x0 x1 x2 x3 x4), below_five hb hg x0 x1 x2 x3 x4⟩
theorem dec_world (w : World) (x0 x1 x2 x3 x4 : Value) (w2 : World) (t : TypeId) (y : Array Value) (hb : Below ((w.alloc (.cells y t)).alloc (.cells #[x0, x1, x2, x3, x4] t)).heap.size ((w.alloc (.cells y t)).alloc (.cells #[x0, x1, x2, x3, x4] t)) w2) :
    Bl w2 w.heap.size y.toList ∧ Bl w2 (w.heap.size + 1) [x0, x1, x2, x3, x4] ∧ Below w.heap.size w w2 := by
  obtain ⟨W, hW⟩ : ∃ W, w.alloc (.cells y t) = W := ⟨_, rfl⟩
  have h0 : Bl W w.heap.size y.toList := by rw [← hW]; exact bl_alloc w y t
  have hs : W.heap.size = w.heap.size + 1 := by rw [← hW]; simp
  have hB : Below w.heap.size w W := by rw [← hW]; exact (Below.refl _ _).alloc (Nat.le_refl _) _
  rw [hW] at hb
  have h1 := bl_alloc W #[x0, x1, x2, x3, x4] t
  have hB1 : Below W.heap.size W (W.alloc (.cells #[x0, x1, x2, x3, x4] t)) := (Below.refl _ _).alloc (Nat.le_refl _) _
  have hs1 : (W.alloc (.cells #[x0, x1, x2, x3, x4] t)).heap.size = w.heap.size + 2 := by simp [hs]
  have hb' : Below W.heap.size W w2 := hB1.trans (hb.mono (by omega))
  refine ⟨h0.below (by omega) hb', ?_, hB.trans (hb'.mono (by omega))⟩
  rw [hs] at h1
  exact h1.below (by omega) hb
theorem check_at (i : Ins) (x : Array Value) (hx : x = i.cells) (w : World) (hv : Isv w) : Calls Tryd.prog 16 #[.agg x] w fun e w' => (if okI i then e = .returned .nilIface else ∃ A, e = .returned (.iface 164 (.pointer (some A)))) ∧ Below w.heap.size w w' := by
  subst hx
  exact check_any i w hv
end Go.Proofs.YthcmeboepedelaaDoor
