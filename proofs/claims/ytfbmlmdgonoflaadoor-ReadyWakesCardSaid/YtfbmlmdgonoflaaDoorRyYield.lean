/-
  ready's ownOf and Yield.
-/
import Derived.Test.YtfbmlmdgonoflaaDoorRyMine
namespace Go.Proofs.YtfbmlmdgonoflaaDoor
open Classical
open Go.RowKit
set_option linter.unusedVariables false
set_option linter.unusedSimpArgs false

def stateAt (l : List Pro) (p : Int) : Int := (l[p.toNat]?.map Pro.state).getD (-1)
theorem stateAt_of {l : List Pro} {k : Nat} {q : Pro} (h : l[k]? = some q) : stateAt l (k : Int) = q.state := by
  unfold stateAt
  rw [Int.toNat_natCast, h]
  rfl
/-- Is it a process in one of these states? -/
def OkP (l : List Pro) (p : Int) (st : List Int) : Prop := 0 ≤ p ∧ p < (l.length : Int) ∧ stateAt l p ∈ st
def ofE (g k : Prop) [Decidable g] [Decidable k] : Nat := if g then (if k then 0 else 12) else 9
/-- A struct of three slices that goes into the answer's block: what a world shows behind it. -/
theorem mine_new {w : World} {base : Nat} {v1 v2 v3 : Value} {l : List Pro} {r : List Int} {t : List Tm} (h : Tab w base v1 v2 v3 l r t) (hb : base ≤ w.heap.size) (ty : TypeId) : Mine (w.alloc (.cells #[v1, v2, v3] ty)) base w.heap.size v1 v2 v3 l r t :=
  ⟨bl_alloc w #[v1, v2, v3] ty, h.below (new_below w _), fun e => by have := (h.p.lt _ e).2; omega, fun e => by have := (h.r.lt _ e).2; omega, fun e => by have := (h.t.lt _ e).2; omega, hb, by simp⟩

/-- What Yield answers: the queue. -/
def yldR (r : List Int) (p : Int) : List Int := outOf r p ++ [p]
theorem out_len (r : List Int) (p : Int) : (outOf r p).length ≤ r.length := List.length_filter_le _ _

end Go.Proofs.YtfbmlmdgonoflaaDoor
