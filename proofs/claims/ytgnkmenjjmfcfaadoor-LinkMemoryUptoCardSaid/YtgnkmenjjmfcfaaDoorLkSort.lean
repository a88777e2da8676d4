/-
  slices.Sort of ints of one's own.
-/
import Derived.Test.YtgnkmenjjmfcfaaDoorLkApp
import Derived.Test.YtgnkmenjjmfcfaaDoorSrtI
import Derived.Sort.OwnSortedInts
namespace Go.Proofs.YtgnkmenjjmfcfaaDoor
open Go.RowKit FerryCrc
set_option linter.unusedVariables false
set_option linter.unusedSimpArgs false
theorem iv_map (l : List Int) : l.flatMap iv = l.map (Value.int .i64) := by
  induction l with
  | nil => rfl
  | cons x l ih => rw [List.flatMap_cons, ih]; rfl
theorem sort_any (w : World) (base : Nat) (v : Value) (l : List Int) (h : IsOwn w base v l) (hl : l.length < 4611686018427387904) : Calls Tryd.prog 36 #[v] w fun e w' => e = .returned (.tuple #[]) ∧ IsOwn w' base v (l.mergeSort (fun x y => decide (x ≤ y))) ∧ Below base w w' := by
  rcases h.2 with ⟨rfl, h0⟩ | ⟨g, cap, cur, rfl, hb, hh, hn, hc, hcs, ht⟩
  · obtain rfl : l = [] := List.length_eq_zero_iff.1 h0
    refine Calls.mono (AnyG.slices_Sort_int_none sortI none 0 w) ?_
    rintro e w' ⟨rfl, rfl⟩
    refine ⟨rfl, ?_, Below.refl _ _⟩
    rw [List.mergeSort_nil]
    exact isOwn_nil _ _
  · have hlt : g < w.heap.size := (Array.getElem?_eq_some_iff.1 hh).1
    rw [iv_map, Nat.mul_one] at ht
    refine Calls.mono (AnyG.slices_Sort_int sortI g 0 cap l w (Go.holds_of_blockI hh ht) hlt hl) ?_
    rintro e w' ⟨rfl, n, os, rfl⟩
    refine ⟨rfl, ?_, ?_⟩
    · unfold IsOwn LOwn
      rw [iv_map, List.length_mergeSort]
      exact Go.ownsRow_sortedI (ss := l) (by rw [List.length_mergeSort]) hb hh hn hc hcs
    · exact (Below.refl base w).grown (Go.grownBy_sortedI (g := g) _) (by omega) (fun b e => by have := Option.some.inj e; omega)
end Go.Proofs.YtgnkmenjjmfcfaaDoor
