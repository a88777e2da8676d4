/-
  ready's Fire.
-/
import Derived.Test.YtgbckpojoagbnaaGreatDoorRyWake
import Derived.Test.YtgbckpojoagbnaaGreatDoorRyYield
namespace Go.Proofs.YtgbckpojoagbnaaGreatDoor
open Classical
open Go.RowKit
set_option linter.unusedVariables false
set_option linter.unusedSimpArgs false

/-- What a process finds in r1 whose timer fired. -/
def lateR (q : Pro) : Int := if q.wait = 1 then 0 else 4294967294
/-- One process more whose timer fired; all of them. -/
def fireStep (s : List Pro × List Int) (i : Int) : List Pro × List Int := (s.1.set i.toNat (wokenP (s.1[i.toNat]?.getD pro0) (lateR (s.1[i.toNat]?.getD pro0))), s.2 ++ [i])
def fireAll (l : List Pro) (r : List Int) (is : List Int) : List Pro × List Int := is.foldl fireStep (l, r)
def firedI (t : List Tm) (now : Int) : List Int := (fired t now).map Tm.proc
theorem fireAll_take (l : List Pro) (r : List Int) {is : List Int} {k : Nat} {i : Int} (h : is[k]? = some i) : fireAll l r (is.take (k + 1)) = fireStep (fireAll l r (is.take k)) i := by
  unfold fireAll
  rw [take_snoc h, List.foldl_append]
  rfl
theorem fireAll_len (r : List Int) : ∀ (is : List Int) (l : List Pro), (fireAll l r is).1.length = l.length := by
  suffices h : ∀ (is : List Int) (s : List Pro × List Int), (is.foldl fireStep s).1.length = s.1.length from fun is l => h is (l, r)
  intro is
  induction is with
  | nil => intro s; rfl
  | cons i is ih => intro s; rw [List.foldl_cons, ih]; simp [fireStep]
theorem fireAll_rdy (l : List Pro) (r : List Int) (is : List Int) : (fireAll l r is).2 = r ++ is := by
  suffices h : ∀ (is : List Int) (s : List Pro × List Int), (is.foldl fireStep s).2 = s.2 ++ is from h is (l, r)
  intro is
  induction is with
  | nil => intro s; simp
  | cons i is ih => intro s; rw [List.foldl_cons, ih]; simp [fireStep]
theorem form8 {l : List Pro} {r : List Int} {t : List Tm} (h : Good l r t) : Form t 8 := by
  refine ⟨fun x hx => ?_, h.2.2.2.1.2⟩
  have h1 := h.2.2.2.1.1 x hx
  have h0 := h.1
  unfold Tm.In at *
  omega
theorem firedI_in {l : List Pro} {r : List Int} {t : List Tm} (h : Good l r t) (now : Int) : ∀ i ∈ firedI t now, 0 ≤ i ∧ i < (l.length : Int) := by
  intro i hi
  obtain ⟨x, hx, rfl⟩ := List.mem_map.1 hi
  have h1 := h.2.2.2.1.1 x (List.mem_filter.1 hx).1
  unfold Tm.In at h1
  omega
theorem fireStep_of {s : List Pro × List Int} {m : Nat} {q : Pro} (h : s.1[m]? = some q) : fireStep s (m : Int) = (s.1.set m (wokenP q (lateR q)), s.2 ++ [(m : Int)]) := by simp [fireStep, h]
/-- A list that lies in none of the blocks that wake writes. -/
def FarX (x : Value) (tb : Nat) (v1 v2 : Value) : Prop := ∀ k, x.ownBlock = some k → k ≠ tb ∧ some k ≠ v1.ownBlock ∧ some k ≠ v2.ownBlock
theorem far_next {w w' : World} {base tb : Nat} {x v1 v2 v2' : Value} {F : List Int} (h : IOwn w base x F) (hf : FarX x tb v1 v2) (hl : Left w w' tb v1 v2 v2') : IOwn w' base x F ∧ FarX x tb v1 v2' := by
  refine ⟨ownsRow_same h fun k hk => hl.blk k (h.lt k hk).2 (hf k hk).1 (hf k hk).2.1 (hf k hk).2.2, fun k hk => ⟨(hf k hk).1, (hf k hk).2.1, ?_⟩⟩
  rcases hl.nxt with e | ⟨j, e, hj⟩
  · rw [e]; exact (hf k hk).2.2
  · rw [e]
    intro e'
    have := Option.some.inj e'
    have := (h.lt k hk).2
    omega
theorem iown_three {w : World} {base : Nat} {v : Value} {l : List Int} (h : IOwn w base v l) {g : Nat} (hg : g < base) (x y z : Value) : IOwn (((w.setCell ⟨g, 0, none⟩ x).setCell ⟨g, 1, none⟩ y).setCell ⟨g, 2, none⟩ z) base v l :=
  ownsRow_setCell_below (ownsRow_setCell_below (ownsRow_setCell_below h (a := ⟨g, 0, none⟩) hg x) (a := ⟨g, 1, none⟩) hg y) (a := ⟨g, 2, none⟩) hg z

end Go.Proofs.YtgbckpojoagbnaaGreatDoor
