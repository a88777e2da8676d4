/-
  The program's instructions: Form, Check, Decode.
-/
import Derived.Test.YthcmeboepedelaaDoorIsMath
import Derived.Deep.QuietTactic
namespace Go.Proofs.YthcmeboepedelaaDoor
open Go.RowKit FerryCrc
set_option linter.unusedVariables false
set_option linter.unusedSimpArgs false

set_option maxRecDepth 100000 in
theorem branches_any (op : Int) (w : World) : Calls Tryd.prog 23 #[.int .i64 op] w fun e w' => e = .returned (.bool (decide (48 ≤ op ∧ op ≤ 53))) ∧ w = w' := by
  go_enter Tryd.func23, Tryd.ntmps23
  by_cases h1 : 48 ≤ op
  all_goals
    go_wp2
    go_ret
    simp [h1]
  omega
set_option maxRecDepth 100000 in
theorem within_any (n lo hi : Int) (w : World) : Calls Tryd.prog 24 #[.int .i64 n, .int .i64 lo, .int .i64 hi] w fun e w' => e = .returned (.bool (decide (lo ≤ n) && decide (n ≤ hi))) ∧ w = w' := by
  go_enter Tryd.func24, Tryd.ntmps24
  by_cases h1 : lo ≤ n
  all_goals
    go_wp2
    go_ret
    simp [h1]
  omega
set_option maxRecDepth 100000 in
set_option maxHeartbeats 4000000 in
theorem form_any (op : Int) (w : World) : Calls Tryd.prog 9 #[.int .i64 op] w fun e w' => e = .returned (.int .i64 ((form op : Nat) : Int)) ∧ w = w' := by
  go_enter Tryd.func9, Tryd.ntmps9
  go_wp2_with (first | (go_at_call 23; refine (branches_any _ _).mono ?_; rintro e w' ⟨rfl, rfl⟩))
  all_goals
    go_ret
    refine ⟨?_, rfl⟩
    simp only [beq_iff_eq, beq_eq_false_iff_ne, ne_eq, decide_eq_true_eq, decide_eq_false_iff_not] at *
    unfold form
    repeat' split
  all_goals first | rfl | (exfalso; omega)
end Go.Proofs.YthcmeboepedelaaDoor
