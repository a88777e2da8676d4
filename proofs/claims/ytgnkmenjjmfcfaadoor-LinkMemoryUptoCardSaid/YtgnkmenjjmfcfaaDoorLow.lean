/-
  Rows of bytes of the call's own: a cell, a store.
-/
import Derived.Test.YtgnkmenjjmfcfaaDoorMem
namespace Go.Proofs.YtgnkmenjjmfcfaaDoor
open Go.RowKit FerryCrc

theorem Own.cellAt {w : World} {base g N c : Nat} {L : List Nat} (h : Own w base (.slice (some ⟨g, 0, none⟩) N c) L) (hL : L.length = N) (j x : Nat) (hx : L[j]? = some x) : w.cell? ⟨g, j, none⟩ = some (.int .u8 (x : Int)) := by
  subst hL
  have hj : j < L.length := (List.getElem?_eq_some_iff.1 hx).1
  have := World.ownsRow.cellAt h j (by omega)
  rw [this]
  simp [hx, bv]
theorem Own.frozenAt {w : World} {base g N c : Nat} {L : List Nat} (h : Own w base (.slice (some ⟨g, 0, none⟩) N c) L) (hL : L.length = N) (j : Nat) : w.frozen? ⟨g, j, none⟩ = false := by
  subst hL
  exact World.ownsRow.frozenAt h j
theorem Own.stored {w : World} {base g N c : Nat} {L : List Nat} (h : Own w base (.slice (some ⟨g, 0, none⟩) N c) L) (hL : L.length = N) (j x : Nat) : Own (w.setCell ⟨g, j, none⟩ (.int .u8 (x : Int))) base (.slice (some ⟨g, 0, none⟩) N c) (L.set j x) := by
  subst hL
  unfold Own
  rw [List.length_set, List.map_set]
  exact (World.ownsRow.stored h j (bv x)).1
theorem Own.below {w w' : World} {base : Nat} {v : Value} {L : List Nat} (h : Own w base v L) (hb : Below w.heap.size w w') : Own w' base v L := by
  refine ⟨h.1, ?_⟩
  rcases h.2 with e | ⟨g, cap, cur, e, hg, hh, r⟩
  · exact .inl e
  · refine .inr ⟨g, cap, cur, e, hg, ?_, r⟩
    rw [hb.block g (Array.getElem?_eq_some_iff.1 hh).1]
    exact hh
theorem Own.drew {w : World} {base : Nat} {v : Value} {L : List Nat} (h : Own w base v L) : Own w.drew base v L := h
theorem Bts.drew {w : World} {a : Option Addr} {len cap : Nat} {l : List Nat} (h : Bts w a len cap l) : Bts w.drew a len cap l := ⟨h.size, h.most, h.fit, h.small, h.null, h.cell⟩
theorem Own.baseLe {w : World} {base g N c : Nat} {L : List Nat} (h : Own w base (.slice (some ⟨g, 0, none⟩) N c) L) : base ≤ g := (World.ownsRow.lt h g rfl).1

end Go.Proofs.YtgnkmenjjmfcfaaDoor
