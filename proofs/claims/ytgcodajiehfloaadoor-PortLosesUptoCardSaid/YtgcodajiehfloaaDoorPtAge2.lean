/-
  A frame goes by: the program's Age.
-/
import Derived.Test.YtgcodajiehfloaaDoorPtCheck
import Derived.Test.YtgcodajiehfloaaDoorPtAge
namespace Go.Proofs.YtgcodajiehfloaaDoor
open Go.RowKit
set_option linter.unusedVariables false
set_option linter.unusedSimpArgs false

theorem chk0 {k s d r : Int} {l : List ByteArray} {age : Int} (h : chkErr k s d r l age = 0) : planErr k s d r = 0 ∧ fitB k s d l age = true := by
  unfold chkErr at h
  by_cases h1 : planErr k s d r = 0
  · rw [if_pos h1] at h
    by_cases h2 : fitB k s d l age = true
    · exact ⟨h1, h2⟩
    · rw [if_neg h2] at h
      omega
  · rw [if_neg h1] at h
    omega
theorem chk0_age {k s d r : Int} {l : List ByteArray} {age : Int} (h : chkErr k s d r l age = 0) : 0 ≤ age ∧ age ≤ 255 := by
  have h2 := (chk0 h).2
  unfold fitB at h2
  simp only [Bool.and_eq_true, decide_eq_true_eq] at h2
  have := ma_is k l.length
  omega
/-- Blocks of a function with a plan, a port and a port to answer. -/
theorem pqr_two (w : World) (k s d r : Int) (x : Value) (age : Int) (y z : Value) :
    Two (((w.alloc (.cells #[.int .i64 k, .int .i64 s, .int .i64 d, .int .i64 r] 23)).alloc (.cells #[x, .int .i64 age] 26)).alloc (.cells #[y, z] 26)) (w.heap.size + 1 + 1) y z := by
  have t2 := two_alloc ((w.alloc (.cells #[.int .i64 k, .int .i64 s, .int .i64 d, .int .i64 r] 23)).alloc (.cells #[x, .int .i64 age] 26)) y z 26
  rw [pq_size, show w.heap.size + 2 = w.heap.size + 1 + 1 from rfl] at t2
  exact t2
theorem pqr_size (w : World) (k s d r : Int) (x : Value) (age : Int) (y z : Value) :
    (((w.alloc (.cells #[.int .i64 k, .int .i64 s, .int .i64 d, .int .i64 r] 23)).alloc (.cells #[x, .int .i64 age] 26)).alloc (.cells #[y, z] 26)).heap.size = w.heap.size + 3 := by simp
theorem pqr_pq (w : World) (k s d r : Int) (x : Value) (age : Int) (y z : Value) :
    Pq (((w.alloc (.cells #[.int .i64 k, .int .i64 s, .int .i64 d, .int .i64 r] 23)).alloc (.cells #[x, .int .i64 age] 26)).alloc (.cells #[y, z] 26)) w.heap.size k s d r x age := (pq_alloc w k s d r x age).below ((Below.refl _ _).alloc (Nat.le_refl _) _)
theorem pqr_below (w : World) (k s d r : Int) (x : Value) (age : Int) (y z : Value) :
    Below w.heap.size w (((w.alloc (.cells #[.int .i64 k, .int .i64 s, .int .i64 d, .int .i64 r] 23)).alloc (.cells #[x, .int .i64 age] 26)).alloc (.cells #[y, z] 26)) := chain (pq_below w k s d r x age) ((Below.refl _ _).alloc (Nat.le_refl _) _)

/-- A port is laid into the block that is answered. -/
theorem fin_port {n R base : Nat} {w w2 : World} {y z x : Value} {L : List ByteArray} (t : Two w2 R y z) (o : SLk w2 base x L) (d : Below n w w2) (h1 : R < base) (h2 : n ≤ R) (u : Value) :
    Two ((w2.setCell ⟨R, 0, none⟩ x).setCell ⟨R, 1, none⟩ u) R x u ∧ SLk ((w2.setCell ⟨R, 0, none⟩ x).setCell ⟨R, 1, none⟩ u) base x L ∧ Below n w ((w2.setCell ⟨R, 0, none⟩ x).setCell ⟨R, 1, none⟩ u) :=
  ⟨t.set x u, (o.setCell h1 x).setCell h1 u, (d.setCell h2 x).setCell h2 u⟩
def ageA (k s d r : Int) (l : List ByteArray) (age : Int) : Int := if chkErr k s d r l age = 0 then agedV k l.length age else 0
def ageL (k s d r : Int) (l : List ByteArray) (age : Int) : List ByteArray := if chkErr k s d r l age = 0 then l else []

end Go.Proofs.YtgcodajiehfloaaDoor
