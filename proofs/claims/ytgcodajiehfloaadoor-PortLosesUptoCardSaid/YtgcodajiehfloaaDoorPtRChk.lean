/-
  Plans of ports: the document's CheckPlan.
-/
import Derived.Test.YtgcodajiehfloaaDoorPtChk
namespace Go.Proofs.YtgcodajiehfloaaDoor
open Go.RowKit
set_option linter.unusedVariables false
set_option linter.unusedSimpArgs false

theorem pe_is (k s d r : Int) : ((k < 1 ∨ 4 < k) ∧ planErr k s d r = 7) ∨ (1 ≤ k ∧ k ≤ 4 ∧ (s < 1 ∨ 32 < s) ∧ planErr k s d r = 11) ∨ (1 ≤ k ∧ k ≤ 4 ∧ 1 ≤ s ∧ s ≤ 32 ∧ (d < 1 ∨ 8 < d ∨ (k < 3 ∧ ¬ d = 1) ∨ r < 0 ∨ 255 < r ∨ (¬ k = 1 ∧ ¬ r = 0)) ∧ planErr k s d r = 4) ∨ (1 ≤ k ∧ k ≤ 4 ∧ 1 ≤ s ∧ s ≤ 32 ∧ 1 ≤ d ∧ d ≤ 8 ∧ (3 ≤ k ∨ d = 1) ∧ 0 ≤ r ∧ r ≤ 255 ∧ (k = 1 ∨ r = 0) ∧ planErr k s d r = 0) := by
  unfold planErr
  split
  · exact .inl ⟨by assumption, rfl⟩
  · split
    · exact .inr (.inl ⟨by omega, by omega, by assumption, rfl⟩)
    · split
      · exact .inr (.inr (.inl ⟨by omega, by omega, by omega, by omega, by assumption, rfl⟩))
      · exact .inr (.inr (.inr ⟨by omega, by omega, by omega, by omega, by omega, by omega, by omega, by omega, by omega, by omega, rfl⟩))

set_option maxRecDepth 100000 in
set_option maxHeartbeats 4000000 in
theorem refCheckPlan_any (k s d r : Int) (w : World) :
    Calls Tryd.prog 41 #[.agg #[.int .i64 k, .int .i64 s, .int .i64 d, .int .i64 r]] w fun e w' => e = .returned (.int .i64 (planErr k s d r : Int)) ∧ Below w.heap.size w w' := by
  have HP := hide (pe_is k s d r)
  generalize planErr k s d r = P at *
  go_enter Tryd.func41, Tryd.ntmps41
  go_wp2
  all_goals go_ret
  all_goals refine ⟨ret_int ?_, (Below.refl _ _).alloc (Nat.le_refl _) _⟩
  all_goals (have hp := HP.out; (try simp only [beq_iff_eq, beq_eq_false_iff_ne, bne_iff_ne, ne_eq, bne_eq_false_iff_eq, decide_eq_true_eq, decide_eq_false_iff_not, Bool.and_eq_true, Bool.or_eq_true, Bool.not_eq_true, Bool.not_eq_false, Bool.not_eq_true', Bool.not_eq_false'] at *); omega)
end Go.Proofs.YtgcodajiehfloaaDoor
