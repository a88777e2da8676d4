/-
  The document's words and numbers of the system calls.
-/
import Derived.Test.YtoahbemdkfmokaaGreatDoorSnBase
namespace Go.Proofs.YtoahbemdkfmokaaGreatDoor
open Go.RowKit FerryCrc
set_option linter.unusedVariables false
set_option linter.unusedSimpArgs false

set_option maxRecDepth 100000 in
set_option maxHeartbeats 4000000 in
theorem rname_any (n : Int) (w : World) : Calls Tryz.prog 7 #[.int .i64 n] w fun e w' => e = .returned (.string (nameOf n)) ∧ Below w.heap.size w w' := by
  go_enter Tryz.func7, Tryz.ntmps7
  go_wp2_with fail
  refine Calls.mono (words_any _) ?_
  rintro e w1 ⟨g, rfl, hc, hb⟩
  have D1 := hide hb
  have HC := hide hc
  clear hb hc
  by_cases h0 : n < 0
  · have d0 : decide (n < 0) = true := decide_eq_true h0
    have HA : Hid (nameOf n = ⟨#[]⟩) := by unfold Hid nameOf; rw [if_neg (by omega)]
    clear h0
    go_wp2
    go_ret
    exact ⟨by rw [HA.out]; rfl, D1.out⟩
  have d0 : decide (n < 0) = false := decide_eq_false h0
  by_cases h1 : 15 ≤ n
  · have d1 : decide (15 ≤ n) = true := decide_eq_true h1
    have HA : Hid (nameOf n = ⟨#[]⟩) := by unfold Hid nameOf; rw [if_neg (by omega)]
    clear h0 h1
    go_wp2
    go_ret
    exact ⟨by rw [HA.out]; rfl, D1.out⟩
  obtain ⟨k, rfl⟩ : ∃ k : Nat, n = (k : Int) := ⟨n.toNat, by omega⟩
  have hk : k < 15 := by omega
  have d1 : decide (15 ≤ (k : Int)) = false := decide_eq_false h1
  have d2 : (k : Int) < 15 := by omega
  have d3 : (0 : Int) ≤ (k : Int) := by omega
  obtain ⟨s, hs⟩ : ∃ s, wds[k]? = some s := ⟨_, List.getElem?_eq_getElem hk⟩
  have r0 := HC.out k s hs
  have HA := hide (nameOf_at hs)
  clear h0 h1 hs hk
  go_wp2
  go_ret
  exact ⟨by rw [HA.out]; rfl, D1.out⟩

set_option maxRecDepth 100000 in
set_option maxHeartbeats 4000000 in
theorem rnumber_any (x : ByteArray) (w : World) : Calls Tryz.prog 9 #[.string x] w fun e w' => e = .returned (.int .i64 (numOf x)) ∧ Below w.heap.size w w' := by
  go_enter Tryz.func9, Tryz.ntmps9
  go_wp2_with fail
  refine Calls.mono (words_any _) ?_
  rintro e w1 ⟨g, rfl, hc, hb⟩
  have D1 := hide hb
  have HC := hide hc
  clear hb hc
  go_wp2
  go_loopw [4] (fun i wr => ∃ k : Nat, k ≤ 15 ∧ i = .int .i64 (k : Int) ∧ Hid (∀ (j : Nat) (t : ByteArray), j < k → wds[j]? = some t → (t.toList == x.toList) = false) ∧ wr = w1) (fun i _ => 15 - (intOf i).toNat)
  case atStart => exact ⟨0, by omega, rfl, fun j t hj => by omega, rfl⟩
  case round =>
    obtain ⟨k, hk, rfl, hall, rfl⟩ := hrel
    by_cases hlt : k < 15
    · obtain ⟨s, hs⟩ : ∃ s, wds[k]? = some s := ⟨_, List.getElem?_eq_getElem hlt⟩
      have r0 := HC.out k s hs
      have hk1 : (k : Int) < 15 := by omega
      have HS := hide hs
      clear hs
      cases hx : (s.toList == x.toList)
      · have HX := hide hx
        go_wp2
        go_roundw
        case rel =>
          refine ⟨k + 1, by omega, by go_num, fun j t hj ht => ?_, trivial⟩
          by_cases e : j = k
          · subst e
            rw [HS.out] at ht
            obtain rfl := Option.some.inj ht
            exact HX.out
          · exact hall.out j t (by omega) ht
        case measure => simp [intOf]; omega
      · have HN := hide (numOf_at HS.out hx hall.out)
        go_wp2
        go_ret
        exact ⟨by rw [HN.out]; rfl, D1.out⟩
    · obtain rfl : k = 15 := by omega
      have HN := hide (numOf_no hall.out)
      go_wp2
      go_ret
      exact ⟨by rw [HN.out]; rfl, D1.out⟩

set_option maxRecDepth 100000 in
set_option maxHeartbeats 4000000 in
theorem rargs_any (n : Int) (w : World) : Calls Tryz.prog 8 #[.int .i64 n] w fun e w' => e = .returned (.int .i64 (argsOf n : Int)) ∧ w' = w := by
  by_cases e2 : n = 2
  · subst e2
    go_enter Tryz.func8, Tryz.ntmps8
    go_wp2
    go_ret
    exact ⟨rfl, rfl⟩
  have f2 : (n == 2) = false := by simp [e2]
  by_cases e3 : n = 3
  · subst e3
    go_enter Tryz.func8, Tryz.ntmps8
    go_wp2
    go_ret
    exact ⟨rfl, rfl⟩
  have f3 : (n == 3) = false := by simp [e3]
  by_cases e6 : n = 6
  · subst e6
    go_enter Tryz.func8, Tryz.ntmps8
    go_wp2
    go_ret
    exact ⟨rfl, rfl⟩
  have f6 : (n == 6) = false := by simp [e6]
  by_cases e7 : n = 7
  · subst e7
    go_enter Tryz.func8, Tryz.ntmps8
    go_wp2
    go_ret
    exact ⟨rfl, rfl⟩
  have f7 : (n == 7) = false := by simp [e7]
  by_cases e8 : n = 8
  · subst e8
    go_enter Tryz.func8, Tryz.ntmps8
    go_wp2
    go_ret
    exact ⟨rfl, rfl⟩
  have f8 : (n == 8) = false := by simp [e8]
  by_cases e10 : n = 10
  · subst e10
    go_enter Tryz.func8, Tryz.ntmps8
    go_wp2
    go_ret
    exact ⟨rfl, rfl⟩
  have f10 : (n == 10) = false := by simp [e10]
  by_cases e4 : n = 4
  · subst e4
    go_enter Tryz.func8, Tryz.ntmps8
    go_wp2
    go_ret
    exact ⟨rfl, rfl⟩
  have f4 : (n == 4) = false := by simp [e4]
  by_cases e9 : n = 9
  · subst e9
    go_enter Tryz.func8, Tryz.ntmps8
    go_wp2
    go_ret
    exact ⟨rfl, rfl⟩
  have f9 : (n == 9) = false := by simp [e9]
  by_cases e11 : n = 11
  · subst e11
    go_enter Tryz.func8, Tryz.ntmps8
    go_wp2
    go_ret
    exact ⟨rfl, rfl⟩
  have f11 : (n == 11) = false := by simp [e11]
  by_cases e12 : n = 12
  · subst e12
    go_enter Tryz.func8, Tryz.ntmps8
    go_wp2
    go_ret
    exact ⟨rfl, rfl⟩
  have f12 : (n == 12) = false := by simp [e12]
  by_cases e14 : n = 14
  · subst e14
    go_enter Tryz.func8, Tryz.ntmps8
    go_wp2
    go_ret
    exact ⟨rfl, rfl⟩
  have f14 : (n == 14) = false := by simp [e14]
  by_cases e13 : n = 13
  · subst e13
    go_enter Tryz.func8, Tryz.ntmps8
    go_wp2
    go_ret
    exact ⟨rfl, rfl⟩
  have f13 : (n == 13) = false := by simp [e13]
  have HA : Hid (argsOf n = 0) := by
    unfold Hid
    by_cases h : 0 ≤ n ∧ n < 15
    · obtain ⟨k, rfl⟩ : ∃ k : Nat, n = (k : Int) := ⟨n.toNat, by omega⟩
      have : k = 0 ∨ k = 1 ∨ k = 5 := by omega
      rcases this with rfl | rfl | rfl <;> rfl
    · unfold argsOf
      rw [if_neg h]
  clear e2 e3 e6 e7 e8 e10 e4 e9 e11 e12 e14 e13
  go_enter Tryz.func8, Tryz.ntmps8
  go_wp2
  go_ret
  exact ⟨by rw [HA.out]; rfl, rfl⟩
end Go.Proofs.YtoahbemdkfmokaaGreatDoor
