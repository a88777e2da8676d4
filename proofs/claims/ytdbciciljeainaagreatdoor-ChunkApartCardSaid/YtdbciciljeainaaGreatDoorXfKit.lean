/-
  Blocks that a function makes at its beginning; whole records stored into a block.
-/
import Derived.Test.YtdbciciljeainaaGreatDoorXfBegin
namespace Go.Proofs.YtdbciciljeainaaGreatDoor
open Go.RowKit FerryCrc
set_option linter.unusedVariables false
set_option linter.unusedSimpArgs false

theorem box1 (w : World) (c0 : List Value) (t0 : TypeId) : ∃ W, w.alloc (.cells c0.toArray t0) = W ∧ Bk W w.heap.size c0 t0 ∧ Below w.heap.size w W :=
  ⟨_, rfl, Bk.new w c0 t0, (Below.refl _ _).alloc (Nat.le_refl _) _⟩
theorem box2 (w : World) (c0 : List Value) (t0 : TypeId) (c1 : List Value) (t1 : TypeId) : ∃ W, (w.alloc (.cells c0.toArray t0)).alloc (.cells c1.toArray t1) = W ∧ Bk W w.heap.size c0 t0 ∧ Bk W (w.heap.size + 1) c1 t1 ∧ Below w.heap.size w W := by
  have h0 : (w.alloc (.cells c0.toArray t0)).heap.size = w.heap.size + 1 := Array.size_push _
  have D1 := (Below.refl _ (w.alloc (.cells c0.toArray t0))).alloc (Nat.le_refl _) (.cells c1.toArray t1)
  have B1 := Bk.new (w.alloc (.cells c0.toArray t0)) c1 t1
  rw [h0] at B1
  exact ⟨_, rfl, (Bk.new w c0 t0).below D1, B1, chain ((Below.refl _ _).alloc (Nat.le_refl _) _) D1⟩
theorem box3 (w : World) (c0 : List Value) (t0 : TypeId) (c1 : List Value) (t1 : TypeId) (c2 : List Value) (t2 : TypeId) : ∃ W, ((w.alloc (.cells c0.toArray t0)).alloc (.cells c1.toArray t1)).alloc (.cells c2.toArray t2) = W ∧ Bk W w.heap.size c0 t0 ∧ Bk W (w.heap.size + 1) c1 t1 ∧ Bk W (w.heap.size + 2) c2 t2 ∧ Below w.heap.size w W := by
  obtain ⟨W, e, B0, B1, D⟩ := box2 w c0 t0 c1 t1
  have hs : W.heap.size = w.heap.size + 2 := by
    rw [← e]
    unfold World.alloc
    simp
  have D1 := (Below.refl _ W).alloc (Nat.le_refl _) (.cells c2.toArray t2)
  have B2 := Bk.new W c2 t2
  rw [hs] at B2
  rw [e]
  exact ⟨_, rfl, B0.below D1, B1.below D1, B2, chain D D1⟩
theorem box4 (w : World) (c0 : List Value) (t0 : TypeId) (c1 : List Value) (t1 : TypeId) (c2 : List Value) (t2 : TypeId) (c3 : List Value) (t3 : TypeId) : ∃ W, (((w.alloc (.cells c0.toArray t0)).alloc (.cells c1.toArray t1)).alloc (.cells c2.toArray t2)).alloc (.cells c3.toArray t3) = W ∧ Bk W w.heap.size c0 t0 ∧ Bk W (w.heap.size + 1) c1 t1 ∧ Bk W (w.heap.size + 2) c2 t2 ∧ Bk W (w.heap.size + 3) c3 t3 ∧ Below w.heap.size w W := by
  obtain ⟨W, e, B0, B1, B2, D⟩ := box3 w c0 t0 c1 t1 c2 t2
  have hs : W.heap.size = w.heap.size + 3 := by
    rw [← e]
    unfold World.alloc
    simp
  have D1 := (Below.refl _ W).alloc (Nat.le_refl _) (.cells c3.toArray t3)
  have B3 := Bk.new W c3 t3
  rw [hs] at B3
  rw [e]
  exact ⟨_, rfl, B0.below D1, B1.below D1, B2.below D1, B3, chain D D1⟩
theorem Bk.others {b : Nat} {cs : List Value} {t : TypeId} {g : Nat} (hg : b ≠ g) : ∀ (vs : List Value) (o : Nat) {w : World}, Bk w b cs t → Bk (w.setCells g o vs) b cs t
  | [], _, _, h => h
  | v :: vs, o, w, h => Bk.others hg vs (o + 1) (h.other ⟨g, o, none⟩ v hg)
theorem Bk.setsL {b : Nat} {t : TypeId} : ∀ (vs : List Value) (o : Nat) {w : World} {cs : List Value}, Bk w b cs t → Bk (w.setCells b o vs) b (setL cs o vs) t
  | [], _, _, _, h => h
  | v :: vs, o, w, cs, h => Bk.setsL vs (o + 1) (h.set o v)
theorem Bk.sets {b : Nat} {t : TypeId} {w : World} {cs : List Value} (h : Bk w b cs t) (vs : List Value) (hl : cs.length = vs.length) : Bk (w.setCells b 0 vs) b vs t := by
  have h1 := h.setsL vs 0
  have h2 := setL_all vs cs [] hl
  rw [List.append_nil, List.append_nil] at h2
  rw [h2] at h1
  exact h1
theorem below_sets {B g : Nat} {a : World} (hg : B ≤ g) : ∀ (vs : List Value) (o : Nat) {w : World}, Below B a w → Below B a (w.setCells g o vs)
  | [], _, _, h => h
  | v :: vs, o, w, h => below_sets hg vs (o + 1) (h.setCell (p := ⟨g, o, none⟩) hg v)
theorem LOwn.fars {α : Type} {f : α → List Value} {sz : Nat} {e : TypeId} {base : Nat} {v : Value} {l : List α} {g : Nat} (hne : v.ownBlock ≠ some g) : ∀ (vs : List Value) (o : Nat) {w : World}, LOwn f sz e w base v l → LOwn f sz e (w.setCells g o vs) base v l
  | [], _, _, h => h
  | u :: vs, o, w, h => LOwn.fars hne vs (o + 1) (h.far (p := ⟨g, o, none⟩) hne u)
theorem LOwn.off {α : Type} {f : α → List Value} {sz : Nat} {e : TypeId} {w : World} {base : Nat} {v : Value} {l : List α} (h : LOwn f sz e w base v l) {g : Nat} (hg : g < base) : v.ownBlock ≠ some g := fun e => by
  have := (World.ownsRow.lt h g e).1
  omega
end Go.Proofs.YtdbciciljeainaaGreatDoor
