/-
  What isWait answers.
-/
import Derived.Test.YtgbckpojoagbnaaGreatDoorRbMath
import Derived.Test.YtgbckpojoagbnaaGreatDoorTiny
namespace Go.Proofs.YtgbckpojoagbnaaGreatDoor
open Classical
open Go.RowKit FerryCrc
set_option linter.unusedVariables false

set_option maxRecDepth 100000 in
theorem isWait_any (wt ob d : Int) (w : World) : Calls Tryz.prog 34 #[.int .i64 wt, .int .i64 ob, .int .i64 d] w fun e w' => e = .returned (.bool (decide (Rb.WaitOk wt ob d))) ∧ w' = w := by
  have HW : ∀ b : Bool, (Rb.WaitOk wt ob d ↔ b = true) → decide (Rb.WaitOk wt ob d) = b := fun b h => by
    cases b
    · exact decide_eq_false (fun h1 => by simpa using h.1 h1)
    · exact decide_eq_true (h.2 rfl)
  by_cases h1 : wt < 1
  · have e := HW false ⟨fun h => by unfold Rb.WaitOk at h; omega, fun h => by simp at h⟩
    rw [e]
    clear e HW
    go_enter Tryz.func34, Tryz.ntmps34
    go_wp2
    go_ret
    exact ⟨rfl, rfl⟩
  by_cases h2 : 4 < wt
  · have e := HW false ⟨fun h => by unfold Rb.WaitOk at h; omega, fun h => by simp at h⟩
    rw [e]
    clear e HW
    go_enter Tryz.func34, Tryz.ntmps34
    go_wp2
    go_ret
    exact ⟨rfl, rfl⟩
  by_cases h3 : ob < 0
  · have e := HW false ⟨fun h => by unfold Rb.WaitOk at h; omega, fun h => by simp at h⟩
    rw [e]
    clear e HW
    go_enter Tryz.func34, Tryz.ntmps34
    go_wp2
    go_ret
    exact ⟨rfl, rfl⟩
  by_cases h4 : d < -1
  · have e := HW false ⟨fun h => by unfold Rb.WaitOk at h; omega, fun h => by simp at h⟩
    rw [e]
    clear e HW
    go_enter Tryz.func34, Tryz.ntmps34
    go_wp2
    go_ret
    exact ⟨rfl, rfl⟩
  by_cases h5 : wt = 1
  · by_cases h6 : ob = 0
    · by_cases h7 : d = -1
      · have e := HW false ⟨fun h => by unfold Rb.WaitOk at h; omega, fun h => by simp at h⟩
        rw [e]
        subst h5 h6 h7
        clear e HW
        go_enter Tryz.func34, Tryz.ntmps34
        go_wp2
        go_ret
        exact ⟨rfl, rfl⟩
      · have e := HW true ⟨fun h => rfl, fun _ => by unfold Rb.WaitOk; omega⟩
        rw [e]
        have n7 : (d != -1) = true := by simpa using h7
        have n7' : (d == -1) = false := by simpa using h7
        subst h5 h6
        clear e HW
        go_enter Tryz.func34, Tryz.ntmps34
        go_wp2
        go_ret
        exact ⟨rfl, rfl⟩
    · have e := HW false ⟨fun h => by unfold Rb.WaitOk at h; omega, fun h => by simp at h⟩
      rw [e]
      have n6 : (ob == 0) = false := by simpa using h6
      subst h5
      clear e HW
      go_enter Tryz.func34, Tryz.ntmps34
      go_wp2
      go_ret
      exact ⟨rfl, rfl⟩
  · have e := HW true ⟨fun h => rfl, fun _ => by unfold Rb.WaitOk; omega⟩
    rw [e]
    have n5 : (wt != 1) = true := by simpa using h5
    have n5' : (wt == 1) = false := by simpa using h5
    clear e HW
    go_enter Tryz.func34, Tryz.ntmps34
    go_wp2
    go_ret
    exact ⟨rfl, rfl⟩
end Go.Proofs.YtgbckpojoagbnaaGreatDoor
