/-
  Two ports compared: their age, and their messages by their keys.
-/
import Derived.Test.YtkjbcnlhallcdaaVsEqOne
namespace Go.Proofs.Ytkjbcnlhallcdaa
open Go.RowKit FerryCrc
set_option linter.unusedVariables false
set_option linter.unusedSimpArgs false

theorem two_below (w : World) (x y : Obj) : Below w.heap.size w ((w.alloc x).alloc y) := ((Below.refl _ _).alloc (Nat.le_refl _) _).alloc (by simp) _

set_option maxRecDepth 100000 in
set_option maxHeartbeats 800000 in
theorem samePorts_any (a a' : Option Addr) (n n' c c' : Nat) (age age' : Int) (K K' : List (List Lit)) (w : World) (hs : Kv w 9 1 a n K) (hs' : Kv w 9 1 a' n' K') :
    Calls Try.prog 24 #[.agg #[.slice a n c, .int .i64 age], .agg #[.slice a' n' c', .int .i64 age']] w fun e w' => e = .returned (.bool (eqb Classical.propDecidable (age = age' ∧ K = K'))) ∧ Below w.heap.size w w' := by
  have HC : Hid (∀ W, Below w.heap.size w W → Calls Try.prog 32 #[.slice a n c, .slice a' n' c'] W fun e w' => e = .returned (.bool (eqb Classical.propDecidable (K = K'))) ∧ Below W.heap.size W w') := fun W hb => slEq_str a n c K a' n' c' K' W (hs.below hb) (hs'.below hb)
  clear hs hs'
  by_cases hg : age = age'
  · subst hg
    go_enter Try.func24, Try.ntmps24
    go_wp2_with fail
    refine Calls.mono (HC.out _ (two_below _ _ _)) ?_
    rintro e w' ⟨rfl, hb⟩
    have HB := hide (chain (two_below _ _ _) hb)
    clear hb
    go_wp2
    go_ret
    exact ⟨ret_bool (eqb_congr ⟨fun h => ⟨by simp, h⟩, fun h => h.2⟩), HB.out⟩
  · have hne : (age == age') = false := by rw [beq_eq_false_iff_ne]; exact hg
    have HN : Hid (¬ age = age') := hg
    clear hg
    go_enter Try.func24, Try.ntmps24
    go_wp2
    go_ret
    exact ⟨ret_bool (eqb_no (fun h => HN.out h.1)).symm, two_below _ _ _⟩
end Go.Proofs.Ytkjbcnlhallcdaa
