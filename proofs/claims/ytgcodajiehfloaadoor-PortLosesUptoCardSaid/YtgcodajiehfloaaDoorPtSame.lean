/-
  Whether two ports are the same; what the law's same says of an error.
-/
import Derived.Test.YtgcodajiehfloaaDoorPtBase
namespace Go.Proofs.YtgcodajiehfloaaDoor
open Go.RowKit
set_option linter.unusedVariables false
set_option linter.unusedSimpArgs false

set_option maxRecDepth 100000 in
set_option maxHeartbeats 4000000 in
theorem refSame_yes (a a' : Option Addr) (len c c' : Nat) (l : List ByteArray) (age : Int) (w : World) (hs : Sts w a len c l) (hs' : Sts w a' len c' l) :
    Calls Tryd.prog 15 #[.agg #[.slice a len c, .int .i64 age], .agg #[.slice a' len c', .int .i64 age]] w fun e w' => e = .returned (.bool true) ∧ Below w.heap.size w w' := by
  have HS := hide hs
  have HS' := hide hs'
  clear hs hs'
  have t0 := (two_alloc w (.slice a len c) (.int .i64 age) 26).below ((Below.refl _ _).alloc (Nat.le_refl _) (.cells #[.slice a' len c', .int .i64 age] 26))
  have t1 := two_alloc (w.alloc (.cells #[.slice a len c, .int .i64 age] 26)) (.slice a' len c') (.int .i64 age) 26
  have D0 := hide (chain ((Below.refl w.heap.size w).alloc (Nat.le_refl _) (.cells #[.slice a len c, .int .i64 age] 26)) ((Below.refl (w.alloc (.cells #[.slice a len c, .int .i64 age] 26)).heap.size _).alloc (Nat.le_refl _) (.cells #[.slice a' len c', .int .i64 age] 26)))
  have hs1 : (w.alloc (.cells #[.slice a len c, .int .i64 age] 26)).heap.size = w.heap.size + 1 := by simp
  rw [hs1] at t1
  have T0 := hide t0
  have T1 := hide t1
  clear t0 t1
  go_enter Tryd.func15, Tryd.ntmps15
  go_wp2_with fail
  clear hs1
  generalize (w.alloc (.cells #[.slice a len c, .int .i64 age] 26)).alloc (.cells #[.slice a' len c', .int .i64 age] 26) = W0 at *
  refine Calls.mono (sameTexts_yes a a' len c c' l W0 (HS.out.below D0.out) (HS'.out.below D0.out)) ?_
  rintro e w1 ⟨rfl, b1⟩
  have D1 := hide (chain D0.out b1)
  clear b1
  go_wp2
  go_ret
  exact ⟨rfl, D1.out⟩
theorem same_slk {w : World} {base base' : Nat} {x y : Value} {l : List ByteArray} {age : Int} (h : SLk w base x l) (h' : SLk w base' y l) (hm : l.length ≤ 8796093022207) (hs : Smalls l) :
    Calls Tryd.prog 15 #[.agg #[x, .int .i64 age], .agg #[y, .int .i64 age]] w fun e w' => e = .returned (.bool true) ∧ Below w.heap.size w w' := by
  obtain ⟨a, c, rfl, s1⟩ := h.sts hm hs
  obtain ⟨a', c', rfl, s2⟩ := h'.sts hm hs
  exact refSame_yes a a' _ c c' l age w s1 s2
theorem texts_slk {w : World} {base base' : Nat} {x y : Value} {l : List ByteArray} (h : SLk w base x l) (h' : SLk w base' y l) (hm : l.length ≤ 8796093022207) (hs : Smalls l) :
    Calls Tryd.prog 31 #[x, y] w fun e w' => e = .returned (.bool true) ∧ Below w.heap.size w w' := by
  obtain ⟨a, c, rfl, s1⟩ := h.sts hm hs
  obtain ⟨a', c', rfl, s2⟩ := h'.sts hm hs
  exact sameTexts_yes a a' _ c c' l w s1 s2

end Go.Proofs.YtgcodajiehfloaaDoor
