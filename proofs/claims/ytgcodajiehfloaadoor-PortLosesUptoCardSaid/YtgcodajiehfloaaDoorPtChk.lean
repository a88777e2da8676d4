/-
  Plans of ports: CheckPlan of the program and of the document.
-/
import Derived.Test.YtgcodajiehfloaaDoorPtBase
namespace Go.Proofs.YtgcodajiehfloaaDoor
open Go.RowKit
set_option linter.unusedVariables false
set_option linter.unusedSimpArgs false

/-- The number of the error of a plan. -/
def planErr (k s d r : Int) : Nat :=
  if k < 1 ∨ 4 < k then 7 else if s < 1 ∨ 32 < s then 11 else if d < 1 ∨ 8 < d ∨ (k < 3 ∧ d ≠ 1) ∨ r < 0 ∨ 255 < r ∨ (k ≠ 1 ∧ r ≠ 0) then 4 else 0
theorem planErr_le (k s d r : Int) : planErr k s d r ≤ 20 := by
  unfold planErr
  repeat' split
  all_goals omega
def mdep (k : Int) : Int := if k = 1 ∨ k = 2 then 1 else 8
def mref (k : Int) : Int := if k = 1 then 255 else 0

theorem mostDepth_any (k : Int) (w : World) : Calls Tryd.prog 48 #[.int .i64 k] w fun e w' => e = .returned (.int .i64 (mdep k)) ∧ w = w' := by
  go_enter Tryd.func48, Tryd.ntmps48
  go_wp2
  all_goals (go_ret; refine ⟨ret_int ?_, rfl⟩; unfold mdep; split <;> simp_all)
theorem mostRefresh_any (k : Int) (w : World) : Calls Tryd.prog 49 #[.int .i64 k] w fun e w' => e = .returned (.int .i64 (mref k)) ∧ w = w' := by
  go_enter Tryd.func49, Tryd.ntmps49
  go_wp2
  all_goals (go_ret; refine ⟨ret_int ?_, rfl⟩; unfold mref; split <;> simp_all)

theorem bare_is {E : Nat → Addr} {i : Nat} (j : Nat) (h : i = j) (h1 : 1 ≤ j) (h2 : j ≤ 20) : Bare E (sent (E j)) i := h ▸ bare_sent E j h1 h2
theorem bare_no {E : Nat → Addr} {i : Nat} (h : i = 0) : Bare E .nilIface i := h ▸ bare_nil E
theorem md_is (k : Int) : ((k = 1 ∨ k = 2) ∧ mdep k = 1) ∨ (¬ (k = 1 ∨ k = 2) ∧ mdep k = 8) := by unfold mdep; split <;> simp_all
theorem mr_is (k : Int) : (k = 1 ∧ mref k = 255) ∨ (¬ k = 1 ∧ mref k = 0) := by unfold mref; split <;> simp_all
theorem pe7 {k s d r : Int} (h : k < 1 ∨ 4 < k) : planErr k s d r = 7 := by unfold planErr; rw [if_pos h]
theorem pe11 {k s d r : Int} (h : 1 ≤ k ∧ k ≤ 4) (h2 : s < 1 ∨ 32 < s) : planErr k s d r = 11 := by unfold planErr; rw [if_neg (by omega), if_pos h2]
theorem pe4 {k s d r : Int} (h : 1 ≤ k ∧ k ≤ 4) (h2 : 1 ≤ s ∧ s ≤ 32) (h3 : d < 1 ∨ mdep k < d ∨ r < 0 ∨ mref k < r) : planErr k s d r = 4 := by
  unfold planErr
  have a := md_is k
  have b := mr_is k
  rw [if_neg (by omega), if_neg (by omega), if_pos (by omega)]
theorem pe0 {k s d r : Int} (h : 1 ≤ k ∧ k ≤ 4) (h2 : 1 ≤ s ∧ s ≤ 32) (h3 : ¬ (d < 1 ∨ mdep k < d ∨ r < 0 ∨ mref k < r)) : planErr k s d r = 0 := by
  unfold planErr
  have a := md_is k
  have b := mr_is k
  rw [if_neg (by omega), if_neg (by omega), if_neg (by omega)]

set_option maxRecDepth 100000 in
set_option maxHeartbeats 8000000 in
theorem checkPlan_any {w : World} {E : Nat → Addr} (he : Errs w E) (k s d r : Int) :
    Calls Tryd.prog 38 #[.agg #[.int .i64 k, .int .i64 s, .int .i64 d, .int .i64 r]] w fun e w' => ∃ v, e = .returned v ∧ Bare E v (planErr k s d r) ∧ Below w.heap.size w w' := by
  have b0 : Below w.heap.size w (w.alloc (.cells #[.int .i64 k, .int .i64 s, .int .i64 d, .int .i64 r] 23)) := (Below.refl _ _).alloc (Nat.le_refl _) _
  have v4 := (he.below b0).v4
  have v7 := (he.below b0).v7
  have v11 := (he.below b0).v11
  have B0 := hide b0
  clear he b0
  have h5 : decide (d < 1) = true ∨ (decide (d < 1) = false ∧ decide (mdep k < d) = true) ∨ (decide (d < 1) = false ∧ decide (mdep k < d) = false ∧ decide (r < 0) = true) ∨ (decide (d < 1) = false ∧ decide (mdep k < d) = false ∧ decide (r < 0) = false ∧ decide (mref k < r) = true) ∨ (decide (d < 1) = false ∧ decide (mdep k < d) = false ∧ decide (r < 0) = false ∧ decide (mref k < r) = false) := by
    cases decide (d < 1) <;> cases decide (mdep k < d) <;> cases decide (r < 0) <;> cases decide (mref k < r) <;> simp
  have H5 := hide h5
  clear h5
  go_enter Tryd.func38, Tryd.ntmps38
  go_wp2_with fail
  all_goals first
    | (go_ret; exact ⟨_, rfl, bare_is 7 (pe7 (by omega)) (by decide) (by decide), B0.out⟩)
    | (go_ret; exact ⟨_, rfl, bare_is 11 (pe11 (by omega) (by omega)) (by decide) (by decide), B0.out⟩)
    | skip
  have c0 : (w.alloc (.cells #[.int .i64 k, .int .i64 s, .int .i64 d, .int .i64 r] 23)).cell? ⟨w.heap.size, 0, none⟩ = some (.int .i64 k) := by rw [World.cell?_alloc_at _ _ _ _ rfl]; rfl
  have c2 : (w.alloc (.cells #[.int .i64 k, .int .i64 s, .int .i64 d, .int .i64 r] 23)).cell? ⟨w.heap.size, 2, none⟩ = some (.int .i64 d) := by rw [World.cell?_alloc_at _ _ _ _ rfl]; rfl
  have c3 : (w.alloc (.cells #[.int .i64 k, .int .i64 s, .int .i64 d, .int .i64 r] 23)).cell? ⟨w.heap.size, 3, none⟩ = some (.int .i64 r) := by rw [World.cell?_alloc_at _ _ _ _ rfl]; rfl
  clear v7 v11
  generalize w.alloc (.cells #[.int .i64 k, .int .i64 s, .int .i64 d, .int .i64 r] 23) = W0 at *
  rename_i hkr _ _ hsr _ _ _ _
  have HKR := hide hkr
  have HSR := hide hsr
  rcases H5.out with h1 | ⟨h1, h2⟩ | ⟨h1, h2, h3⟩ | ⟨h1, h2, h3, h4⟩ | ⟨h1, h2, h3, h4⟩
  all_goals (go_quiet (first | (go_at_call 48; exact Calls.quiet_of_same ((mostDepth_any _ _).mono fun _ _ h => ⟨h.1, h.2.symm⟩)) | (go_at_call 49; exact Calls.quiet_of_same ((mostRefresh_any _ _).mono fun _ _ h => ⟨h.1, h.2.symm⟩))))
  all_goals go_wp2
  all_goals (go_ret; (try simp only [decide_eq_true_eq, decide_eq_false_iff_not] at h1); (try simp only [decide_eq_true_eq, decide_eq_false_iff_not] at h2); (try simp only [decide_eq_true_eq, decide_eq_false_iff_not] at h3); (try simp only [decide_eq_true_eq, decide_eq_false_iff_not] at h4))
  all_goals first
    | exact ⟨_, rfl, bare_is 4 (pe4 (by omega) (by omega) (by omega)) (by decide) (by decide), drewN_below B0.out nq⟩
    | exact ⟨_, rfl, bare_no (pe0 (by omega) (by omega) (by omega)), drewN_below B0.out nq⟩
end Go.Proofs.YtgcodajiehfloaaDoor
