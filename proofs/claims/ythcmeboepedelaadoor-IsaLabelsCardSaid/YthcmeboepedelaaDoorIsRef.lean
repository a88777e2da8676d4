/-
  The document's instructions: Form, Uses, within.
-/
import Derived.Test.YthcmeboepedelaaDoorIsMath
import Derived.Deep.QuietTactic
namespace Go.Proofs.YthcmeboepedelaaDoor
open Go.RowKit FerryCrc
set_option linter.unusedVariables false
set_option linter.unusedSimpArgs false

set_option maxRecDepth 100000 in
set_option maxHeartbeats 4000000 in
theorem rform_any (op : Int) (w : World) : Calls Tryd.prog 10 #[.int .i64 op] w fun e w' => e = .returned (.int .i64 ((form op : Nat) : Int)) ∧ w = w' := by
  go_enter Tryd.func10, Tryd.ntmps10
  go_wp2
  all_goals
    go_ret
    refine ⟨?_, rfl⟩
    simp only [beq_iff_eq, beq_eq_false_iff_ne, ne_eq, decide_eq_true_eq, decide_eq_false_iff_not] at *
    unfold form
    repeat' split
  all_goals first | rfl | (exfalso; omega)

/-- The letters of the fields that a form uses. -/
def usesL (f : Nat) : List Nat := [[], [65, 66, 67], [65, 66, 73], [65, 66, 85], [65, 85], [65, 73], [66, 73], [85]].getD f []
def usesB (f c : Nat) : Bool := (usesL f).any (· == c)
theorem usesB_true {f c j : Nat} (h : (usesL f)[j]? = some c) : usesB f c = true := by
  unfold usesB
  rw [List.any_eq_true]
  exact ⟨c, List.mem_of_getElem? h, by simp⟩
theorem usesB_false {f c n : Nat} (hn : (usesL f).length = n) (h : ∀ j : Nat, j < n → (usesL f)[j]? ≠ some c) : usesB f c = false := by
  unfold usesB
  rw [List.any_eq_false]
  intro x hx e
  obtain ⟨j, hj, rfl⟩ := List.getElem_of_mem hx
  refine h j (by omega) ?_
  rw [List.getElem?_eq_getElem hj]
  exact congrArg some (eq_of_beq e)

set_option maxRecDepth 100000 in
set_option maxHeartbeats 4000000 in
theorem uses_any (f c : Nat) (w : World) (hf : f < 8) (hc : c < 256) : Calls Tryd.prog 26 #[.int .i64 (f : Int), .int .u8 (c : Int)] w fun e w' => e = .returned (.bool (usesB f c)) ∧ w = w' := by
  rcases (by omega : f = 0 ∨ f = 1 ∨ f = 2 ∨ f = 3 ∨ f = 4 ∨ f = 5 ∨ f = 6 ∨ f = 7) with rfl | rfl | rfl | rfl | rfl | rfl | rfl | rfl
  · go_enter Tryd.func26, Tryd.ntmps26
    go_wp2
    go_loopw [6] (fun i wr => ∃ k : Nat, k ≤ 0 ∧ i = .int .i64 (k : Int) ∧ Hid (∀ j : Nat, j < k → (usesL 0)[j]? ≠ some c) ∧ wr = w) (fun i _ => 0 - (intOf i).toNat)
    case atStart => exact ⟨0, by omega, rfl, fun j hj => by omega, rfl⟩
    case round =>
      obtain ⟨k, hk, rfl, hall, rfl⟩ := hrel
      rcases (by omega : k = 0) with rfl
      · go_wp2
        go_ret
        exact ⟨by rw [usesB_false (f := 0) (n := 0) rfl hall.out]; rfl, rfl⟩
  · go_enter Tryd.func26, Tryd.ntmps26
    go_wp2
    go_loopw [6] (fun i wr => ∃ k : Nat, k ≤ 3 ∧ i = .int .i64 (k : Int) ∧ Hid (∀ j : Nat, j < k → (usesL 1)[j]? ≠ some c) ∧ wr = w) (fun i _ => 3 - (intOf i).toNat)
    case atStart => exact ⟨0, by omega, rfl, fun j hj => by omega, rfl⟩
    case round =>
      obtain ⟨k, hk, rfl, hall, rfl⟩ := hrel
      rcases (by omega : k = 0 ∨ k = 1 ∨ k = 2 ∨ k = 3) with rfl | rfl | rfl | rfl
      · go_wp2
        · rename_i hx
          have h9 : ((65 : Nat) : Int) = (c : Int) := eq_of_beq hx
          go_ret
          exact ⟨by rw [usesB_true (f := 1) (c := c) (j := 0) (by rw [show c = 65 by omega]; rfl)]; rfl, rfl⟩
        · rename_i hx
          refine ⟨⟨0 + 1, by omega, rfl, fun j hj hh => ?_, trivial⟩, by simp [intOf]⟩
          by_cases e : j = 0
          · subst e
            obtain rfl : 65 = c := Option.some.inj hh
            exact absurd hx (by decide)
          · exact hall.out j (by omega) hh
      · go_wp2
        · rename_i hx
          have h9 : ((66 : Nat) : Int) = (c : Int) := eq_of_beq hx
          go_ret
          exact ⟨by rw [usesB_true (f := 1) (c := c) (j := 1) (by rw [show c = 66 by omega]; rfl)]; rfl, rfl⟩
        · rename_i hx
          refine ⟨⟨1 + 1, by omega, rfl, fun j hj hh => ?_, trivial⟩, by simp [intOf]⟩
          by_cases e : j = 1
          · subst e
            obtain rfl : 66 = c := Option.some.inj hh
            exact absurd hx (by decide)
          · exact hall.out j (by omega) hh
      · go_wp2
        · rename_i hx
          have h9 : ((67 : Nat) : Int) = (c : Int) := eq_of_beq hx
          go_ret
          exact ⟨by rw [usesB_true (f := 1) (c := c) (j := 2) (by rw [show c = 67 by omega]; rfl)]; rfl, rfl⟩
        · rename_i hx
          refine ⟨⟨2 + 1, by omega, rfl, fun j hj hh => ?_, trivial⟩, by simp [intOf]⟩
          by_cases e : j = 2
          · subst e
            obtain rfl : 67 = c := Option.some.inj hh
            exact absurd hx (by decide)
          · exact hall.out j (by omega) hh
      · go_wp2
        go_ret
        exact ⟨by rw [usesB_false (f := 1) (n := 3) rfl hall.out]; rfl, rfl⟩
  · go_enter Tryd.func26, Tryd.ntmps26
    go_wp2
    go_loopw [6] (fun i wr => ∃ k : Nat, k ≤ 3 ∧ i = .int .i64 (k : Int) ∧ Hid (∀ j : Nat, j < k → (usesL 2)[j]? ≠ some c) ∧ wr = w) (fun i _ => 3 - (intOf i).toNat)
    case atStart => exact ⟨0, by omega, rfl, fun j hj => by omega, rfl⟩
    case round =>
      obtain ⟨k, hk, rfl, hall, rfl⟩ := hrel
      rcases (by omega : k = 0 ∨ k = 1 ∨ k = 2 ∨ k = 3) with rfl | rfl | rfl | rfl
      · go_wp2
        · rename_i hx
          have h9 : ((65 : Nat) : Int) = (c : Int) := eq_of_beq hx
          go_ret
          exact ⟨by rw [usesB_true (f := 2) (c := c) (j := 0) (by rw [show c = 65 by omega]; rfl)]; rfl, rfl⟩
        · rename_i hx
          refine ⟨⟨0 + 1, by omega, rfl, fun j hj hh => ?_, trivial⟩, by simp [intOf]⟩
          by_cases e : j = 0
          · subst e
            obtain rfl : 65 = c := Option.some.inj hh
            exact absurd hx (by decide)
          · exact hall.out j (by omega) hh
      · go_wp2
        · rename_i hx
          have h9 : ((66 : Nat) : Int) = (c : Int) := eq_of_beq hx
          go_ret
          exact ⟨by rw [usesB_true (f := 2) (c := c) (j := 1) (by rw [show c = 66 by omega]; rfl)]; rfl, rfl⟩
        · rename_i hx
          refine ⟨⟨1 + 1, by omega, rfl, fun j hj hh => ?_, trivial⟩, by simp [intOf]⟩
          by_cases e : j = 1
          · subst e
            obtain rfl : 66 = c := Option.some.inj hh
            exact absurd hx (by decide)
          · exact hall.out j (by omega) hh
      · go_wp2
        · rename_i hx
          have h9 : ((73 : Nat) : Int) = (c : Int) := eq_of_beq hx
          go_ret
          exact ⟨by rw [usesB_true (f := 2) (c := c) (j := 2) (by rw [show c = 73 by omega]; rfl)]; rfl, rfl⟩
        · rename_i hx
          refine ⟨⟨2 + 1, by omega, rfl, fun j hj hh => ?_, trivial⟩, by simp [intOf]⟩
          by_cases e : j = 2
          · subst e
            obtain rfl : 73 = c := Option.some.inj hh
            exact absurd hx (by decide)
          · exact hall.out j (by omega) hh
      · go_wp2
        go_ret
        exact ⟨by rw [usesB_false (f := 2) (n := 3) rfl hall.out]; rfl, rfl⟩
  · go_enter Tryd.func26, Tryd.ntmps26
    go_wp2
    go_loopw [6] (fun i wr => ∃ k : Nat, k ≤ 3 ∧ i = .int .i64 (k : Int) ∧ Hid (∀ j : Nat, j < k → (usesL 3)[j]? ≠ some c) ∧ wr = w) (fun i _ => 3 - (intOf i).toNat)
    case atStart => exact ⟨0, by omega, rfl, fun j hj => by omega, rfl⟩
    case round =>
      obtain ⟨k, hk, rfl, hall, rfl⟩ := hrel
      rcases (by omega : k = 0 ∨ k = 1 ∨ k = 2 ∨ k = 3) with rfl | rfl | rfl | rfl
      · go_wp2
        · rename_i hx
          have h9 : ((65 : Nat) : Int) = (c : Int) := eq_of_beq hx
          go_ret
          exact ⟨by rw [usesB_true (f := 3) (c := c) (j := 0) (by rw [show c = 65 by omega]; rfl)]; rfl, rfl⟩
        · rename_i hx
          refine ⟨⟨0 + 1, by omega, rfl, fun j hj hh => ?_, trivial⟩, by simp [intOf]⟩
          by_cases e : j = 0
          · subst e
            obtain rfl : 65 = c := Option.some.inj hh
            exact absurd hx (by decide)
          · exact hall.out j (by omega) hh
      · go_wp2
        · rename_i hx
          have h9 : ((66 : Nat) : Int) = (c : Int) := eq_of_beq hx
          go_ret
          exact ⟨by rw [usesB_true (f := 3) (c := c) (j := 1) (by rw [show c = 66 by omega]; rfl)]; rfl, rfl⟩
        · rename_i hx
          refine ⟨⟨1 + 1, by omega, rfl, fun j hj hh => ?_, trivial⟩, by simp [intOf]⟩
          by_cases e : j = 1
          · subst e
            obtain rfl : 66 = c := Option.some.inj hh
            exact absurd hx (by decide)
          · exact hall.out j (by omega) hh
      · go_wp2
        · rename_i hx
          have h9 : ((85 : Nat) : Int) = (c : Int) := eq_of_beq hx
          go_ret
          exact ⟨by rw [usesB_true (f := 3) (c := c) (j := 2) (by rw [show c = 85 by omega]; rfl)]; rfl, rfl⟩
        · rename_i hx
          refine ⟨⟨2 + 1, by omega, rfl, fun j hj hh => ?_, trivial⟩, by simp [intOf]⟩
          by_cases e : j = 2
          · subst e
            obtain rfl : 85 = c := Option.some.inj hh
            exact absurd hx (by decide)
          · exact hall.out j (by omega) hh
      · go_wp2
        go_ret
        exact ⟨by rw [usesB_false (f := 3) (n := 3) rfl hall.out]; rfl, rfl⟩
  · go_enter Tryd.func26, Tryd.ntmps26
    go_wp2
    go_loopw [6] (fun i wr => ∃ k : Nat, k ≤ 2 ∧ i = .int .i64 (k : Int) ∧ Hid (∀ j : Nat, j < k → (usesL 4)[j]? ≠ some c) ∧ wr = w) (fun i _ => 2 - (intOf i).toNat)
    case atStart => exact ⟨0, by omega, rfl, fun j hj => by omega, rfl⟩
    case round =>
      obtain ⟨k, hk, rfl, hall, rfl⟩ := hrel
      rcases (by omega : k = 0 ∨ k = 1 ∨ k = 2) with rfl | rfl | rfl
      · go_wp2
        · rename_i hx
          have h9 : ((65 : Nat) : Int) = (c : Int) := eq_of_beq hx
          go_ret
          exact ⟨by rw [usesB_true (f := 4) (c := c) (j := 0) (by rw [show c = 65 by omega]; rfl)]; rfl, rfl⟩
        · rename_i hx
          refine ⟨⟨0 + 1, by omega, rfl, fun j hj hh => ?_, trivial⟩, by simp [intOf]⟩
          by_cases e : j = 0
          · subst e
            obtain rfl : 65 = c := Option.some.inj hh
            exact absurd hx (by decide)
          · exact hall.out j (by omega) hh
      · go_wp2
        · rename_i hx
          have h9 : ((85 : Nat) : Int) = (c : Int) := eq_of_beq hx
          go_ret
          exact ⟨by rw [usesB_true (f := 4) (c := c) (j := 1) (by rw [show c = 85 by omega]; rfl)]; rfl, rfl⟩
        · rename_i hx
          refine ⟨⟨1 + 1, by omega, rfl, fun j hj hh => ?_, trivial⟩, by simp [intOf]⟩
          by_cases e : j = 1
          · subst e
            obtain rfl : 85 = c := Option.some.inj hh
            exact absurd hx (by decide)
          · exact hall.out j (by omega) hh
      · go_wp2
        go_ret
        exact ⟨by rw [usesB_false (f := 4) (n := 2) rfl hall.out]; rfl, rfl⟩
  · go_enter Tryd.func26, Tryd.ntmps26
    go_wp2
    go_loopw [6] (fun i wr => ∃ k : Nat, k ≤ 2 ∧ i = .int .i64 (k : Int) ∧ Hid (∀ j : Nat, j < k → (usesL 5)[j]? ≠ some c) ∧ wr = w) (fun i _ => 2 - (intOf i).toNat)
    case atStart => exact ⟨0, by omega, rfl, fun j hj => by omega, rfl⟩
    case round =>
      obtain ⟨k, hk, rfl, hall, rfl⟩ := hrel
      rcases (by omega : k = 0 ∨ k = 1 ∨ k = 2) with rfl | rfl | rfl
      · go_wp2
        · rename_i hx
          have h9 : ((65 : Nat) : Int) = (c : Int) := eq_of_beq hx
          go_ret
          exact ⟨by rw [usesB_true (f := 5) (c := c) (j := 0) (by rw [show c = 65 by omega]; rfl)]; rfl, rfl⟩
        · rename_i hx
          refine ⟨⟨0 + 1, by omega, rfl, fun j hj hh => ?_, trivial⟩, by simp [intOf]⟩
          by_cases e : j = 0
          · subst e
            obtain rfl : 65 = c := Option.some.inj hh
            exact absurd hx (by decide)
          · exact hall.out j (by omega) hh
      · go_wp2
        · rename_i hx
          have h9 : ((73 : Nat) : Int) = (c : Int) := eq_of_beq hx
          go_ret
          exact ⟨by rw [usesB_true (f := 5) (c := c) (j := 1) (by rw [show c = 73 by omega]; rfl)]; rfl, rfl⟩
        · rename_i hx
          refine ⟨⟨1 + 1, by omega, rfl, fun j hj hh => ?_, trivial⟩, by simp [intOf]⟩
          by_cases e : j = 1
          · subst e
            obtain rfl : 73 = c := Option.some.inj hh
            exact absurd hx (by decide)
          · exact hall.out j (by omega) hh
      · go_wp2
        go_ret
        exact ⟨by rw [usesB_false (f := 5) (n := 2) rfl hall.out]; rfl, rfl⟩
  · go_enter Tryd.func26, Tryd.ntmps26
    go_wp2
    go_loopw [6] (fun i wr => ∃ k : Nat, k ≤ 2 ∧ i = .int .i64 (k : Int) ∧ Hid (∀ j : Nat, j < k → (usesL 6)[j]? ≠ some c) ∧ wr = w) (fun i _ => 2 - (intOf i).toNat)
    case atStart => exact ⟨0, by omega, rfl, fun j hj => by omega, rfl⟩
    case round =>
      obtain ⟨k, hk, rfl, hall, rfl⟩ := hrel
      rcases (by omega : k = 0 ∨ k = 1 ∨ k = 2) with rfl | rfl | rfl
      · go_wp2
        · rename_i hx
          have h9 : ((66 : Nat) : Int) = (c : Int) := eq_of_beq hx
          go_ret
          exact ⟨by rw [usesB_true (f := 6) (c := c) (j := 0) (by rw [show c = 66 by omega]; rfl)]; rfl, rfl⟩
        · rename_i hx
          refine ⟨⟨0 + 1, by omega, rfl, fun j hj hh => ?_, trivial⟩, by simp [intOf]⟩
          by_cases e : j = 0
          · subst e
            obtain rfl : 66 = c := Option.some.inj hh
            exact absurd hx (by decide)
          · exact hall.out j (by omega) hh
      · go_wp2
        · rename_i hx
          have h9 : ((73 : Nat) : Int) = (c : Int) := eq_of_beq hx
          go_ret
          exact ⟨by rw [usesB_true (f := 6) (c := c) (j := 1) (by rw [show c = 73 by omega]; rfl)]; rfl, rfl⟩
        · rename_i hx
          refine ⟨⟨1 + 1, by omega, rfl, fun j hj hh => ?_, trivial⟩, by simp [intOf]⟩
          by_cases e : j = 1
          · subst e
            obtain rfl : 73 = c := Option.some.inj hh
            exact absurd hx (by decide)
          · exact hall.out j (by omega) hh
      · go_wp2
        go_ret
        exact ⟨by rw [usesB_false (f := 6) (n := 2) rfl hall.out]; rfl, rfl⟩
  · go_enter Tryd.func26, Tryd.ntmps26
    go_wp2
    go_loopw [6] (fun i wr => ∃ k : Nat, k ≤ 1 ∧ i = .int .i64 (k : Int) ∧ Hid (∀ j : Nat, j < k → (usesL 7)[j]? ≠ some c) ∧ wr = w) (fun i _ => 1 - (intOf i).toNat)
    case atStart => exact ⟨0, by omega, rfl, fun j hj => by omega, rfl⟩
    case round =>
      obtain ⟨k, hk, rfl, hall, rfl⟩ := hrel
      rcases (by omega : k = 0 ∨ k = 1) with rfl | rfl
      · go_wp2
        · rename_i hx
          have h9 : ((85 : Nat) : Int) = (c : Int) := eq_of_beq hx
          go_ret
          exact ⟨by rw [usesB_true (f := 7) (c := c) (j := 0) (by rw [show c = 85 by omega]; rfl)]; rfl, rfl⟩
        · rename_i hx
          refine ⟨⟨0 + 1, by omega, rfl, fun j hj hh => ?_, trivial⟩, by simp [intOf]⟩
          by_cases e : j = 0
          · subst e
            obtain rfl : 85 = c := Option.some.inj hh
            exact absurd hx (by decide)
          · exact hall.out j (by omega) hh
      · go_wp2
        go_ret
        exact ⟨by rw [usesB_false (f := 7) (n := 1) rfl hall.out]; rfl, rfl⟩

set_option maxRecDepth 100000 in
theorem rwithin_any (u : Bool) (n lo hi : Int) (w : World) : Calls Tryd.prog 25 #[.bool u, .int .i64 n, .int .i64 lo, .int .i64 hi] w fun e w' => e = .returned (.bool (if u then decide (lo ≤ n) && decide (n ≤ hi) else n == 0)) ∧ w = w' := by
  go_enter Tryd.func25, Tryd.ntmps25
  cases u with
  | false =>
    go_wp2
    go_ret
    exact ⟨rfl, rfl⟩
  | true =>
    by_cases h1 : lo ≤ n
    all_goals
      go_wp2
      go_ret
      simp [h1]
    omega
end Go.Proofs.YthcmeboepedelaaDoor
