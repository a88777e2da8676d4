/-
  Where alu's Word, Sext, Field and Place refuse, and where the document's do.
-/
import Derived.Test.YthmibakcjhappaaDoorAluField
import Derived.Test.YthmibakcjhappaaDoorRefPlace
import Derived.Test.YthmibakcjhappaaDoorPlainP
namespace Go.Proofs.YthmibakcjhappaaDoor
open Go.RowKit FerryAlu
set_option linter.unusedVariables false

/-- There are n bits from lo on. -/
def Fit (lo n : Int) : Prop := 0 ≤ lo ∧ 1 ≤ n ∧ lo + n ≤ 32

theorem fits_no (lo n : Int) (w : World) (h1 : -9223372036854775808 ≤ lo) (h2 : lo ≤ 9223372036854775807) (h3 : -9223372036854775808 ≤ n) (h4 : n ≤ 9223372036854775807) (h : ¬ Fit lo n) :
    Calls Tryd.prog 45 #[.int .i64 lo, .int .i64 n] w fun e w' => e = .returned (.bool false) ∧ w = w' := by
  unfold Fit at h
  have ew : 0 ≤ lo → lo < 32 → wrap64 (32 - lo) = 32 - lo := fun a b => by unfold wrap64; omega
  by_cases a0 : 0 ≤ lo
  rotate_left
  · have d0 : decide ((0 : Int) ≤ lo) = false := by simp; omega
    clear h h1 h2 h3 h4
    go_enter Tryd.func45, Tryd.ntmps45
    go_wp2
    go_ret
    exact ⟨rfl, rfl⟩
  by_cases a1 : lo < 32
  rotate_left
  · have d0 : decide ((0 : Int) ≤ lo) = true := by simp; omega
    have d1 : decide (lo < 32) = false := by simp; omega
    clear h h1 h2 h3 h4
    go_enter Tryd.func45, Tryd.ntmps45
    go_wp2
    go_ret
    exact ⟨rfl, rfl⟩
  by_cases a2 : 1 ≤ n
  rotate_left
  · have d0 : decide ((0 : Int) ≤ lo) = true := by simp; omega
    have d1 : decide (lo < 32) = true := by simp; omega
    have d2 : decide ((1 : Int) ≤ n) = false := by simp; omega
    clear h h1 h2 h3 h4
    go_enter Tryd.func45, Tryd.ntmps45
    go_wp2
    go_ret
    exact ⟨rfl, rfl⟩
  have d0 : decide ((0 : Int) ≤ lo) = true := by simp; omega
  have d1 : decide (lo < 32) = true := by simp; omega
  have d2 : decide ((1 : Int) ≤ n) = true := by simp; omega
  have e := ew a0 a1
  have d3 : decide (n ≤ 32 - lo) = false := by simp; omega
  clear h h1 h2 h3 h4
  go_enter Tryd.func45, Tryd.ntmps45
  go_wp2
  go_ret
  exact ⟨rfl, rfl⟩

theorem within_no (lo n : Int) (w : World) (h1 : -9223372036854775808 ≤ lo) (h2 : lo ≤ 9223372036854775807) (h3 : -9223372036854775808 ≤ n) (h4 : n ≤ 9223372036854775807) (h : ¬ Fit lo n) :
    Calls Tryd.prog 47 #[.int .i64 lo, .int .i64 n] w fun e w' => e = .returned (.bool false) ∧ w = w' := by
  unfold Fit at h
  have ew : 0 ≤ lo → lo ≤ 31 → 1 ≤ n → n ≤ 32 → wrap64 (lo + n) = lo + n := fun a b c d => by unfold wrap64; omega
  by_cases a0 : 0 ≤ lo
  rotate_left
  · have d0 : decide ((0 : Int) ≤ lo) = false := by simp; omega
    clear h h1 h2 h3 h4
    go_enter Tryd.func47, Tryd.ntmps47
    go_wp2
    go_ret
    exact ⟨rfl, rfl⟩
  by_cases a1 : lo ≤ 31
  rotate_left
  · have d0 : decide ((0 : Int) ≤ lo) = true := by simp; omega
    have d1 : decide (lo ≤ 31) = false := by simp; omega
    clear h h1 h2 h3 h4
    go_enter Tryd.func47, Tryd.ntmps47
    go_wp2
    go_ret
    exact ⟨rfl, rfl⟩
  by_cases a2 : 1 ≤ n
  rotate_left
  · have d0 : decide ((0 : Int) ≤ lo) = true := by simp; omega
    have d1 : decide (lo ≤ 31) = true := by simp; omega
    have d2 : decide ((1 : Int) ≤ n) = false := by simp; omega
    clear h h1 h2 h3 h4
    go_enter Tryd.func47, Tryd.ntmps47
    go_wp2
    go_ret
    exact ⟨rfl, rfl⟩
  by_cases a3 : n ≤ 32
  rotate_left
  · have d0 : decide ((0 : Int) ≤ lo) = true := by simp; omega
    have d1 : decide (lo ≤ 31) = true := by simp; omega
    have d2 : decide ((1 : Int) ≤ n) = true := by simp; omega
    have d3 : decide (n ≤ 32) = false := by simp; omega
    clear h h1 h2 h3 h4
    go_enter Tryd.func47, Tryd.ntmps47
    go_wp2
    go_ret
    exact ⟨rfl, rfl⟩
  have d0 : decide ((0 : Int) ≤ lo) = true := by simp; omega
  have d1 : decide (lo ≤ 31) = true := by simp; omega
  have d2 : decide ((1 : Int) ≤ n) = true := by simp; omega
  have d3 : decide (n ≤ 32) = true := by simp; omega
  have e := ew a0 a1 a2 a3
  have d4 : decide (lo + n ≤ 32) = false := by simp; omega
  clear h h1 h2 h3 h4
  go_enter Tryd.func47, Tryd.ntmps47
  go_wp2
  go_ret
  exact ⟨rfl, rfl⟩

theorem field_bad {w : World} {E : Nat → Addr} (he : Errs w E) (x : Int) (lo n : Int) (h1 : -9223372036854775808 ≤ lo) (h2 : lo ≤ 9223372036854775807) (h3 : -9223372036854775808 ≤ n) (h4 : n ≤ 9223372036854775807) (h : ¬ Fit lo n) :
    Calls Tryd.prog 11 #[.int .u32 x, .int .i64 lo, .int .i64 n] w fun e w' => e = .returned (.tuple #[.int .u32 0, sent (E 12)]) ∧ Below w.heap.size w w' := by
  have v12 := he.v12
  have HF := hide (fits_no lo n w h1 h2 h3 h4 h)
  clear h he h1 h2 h3 h4
  go_enter Tryd.func11, Tryd.ntmps11
  go_wp2_with fail
  refine Calls.mono HF.out ?_
  rintro e w' ⟨rfl, rfl⟩
  go_wp2_with fail
  go_region
  all_goals go_wp2
  all_goals (go_ret2; exact ⟨rfl, (Below.refl _ _).drew⟩)
theorem refField_bad (x : Int) (lo n : Int) (w : World) (h1 : -9223372036854775808 ≤ lo) (h2 : lo ≤ 9223372036854775807) (h3 : -9223372036854775808 ≤ n) (h4 : n ≤ 9223372036854775807) (h : ¬ Fit lo n) :
    Calls Tryd.prog 18 #[.int .u32 x, .int .i64 lo, .int .i64 n] w fun e w' => e = .returned (.tuple #[.int .u32 0, .int .i64 12]) ∧ w = w' := by
  have HF := hide (within_no lo n w h1 h2 h3 h4 h)
  clear h h1 h2 h3 h4
  go_enter Tryd.func18, Tryd.ntmps18
  go_wp2_with fail
  refine Calls.mono HF.out ?_
  rintro e w' ⟨rfl, rfl⟩
  go_wp2
  go_ret2
  exact ⟨rfl, rfl⟩

theorem place_bad {w : World} {E : Nat → Addr} (he : Errs w E) (x v : Int) (lo n : Int) (h1 : -9223372036854775808 ≤ lo) (h2 : lo ≤ 9223372036854775807) (h3 : -9223372036854775808 ≤ n) (h4 : n ≤ 9223372036854775807) (h : ¬ Fit lo n) :
    Calls Tryd.prog 20 #[.int .u32 x, .int .i64 lo, .int .i64 n, .int .u32 v] w fun e w' => e = .returned (.tuple #[.int .u32 0, sent (E 12)]) ∧ Below w.heap.size w w' := by
  have v12 := he.v12
  have HF := hide (fits_no lo n w h1 h2 h3 h4 h)
  clear h he h1 h2 h3 h4
  go_enter Tryd.func20, Tryd.ntmps20
  go_wp2_with fail
  refine Calls.mono HF.out ?_
  rintro e w' ⟨rfl, rfl⟩
  go_wp2_with fail
  go_region
  all_goals go_wp2
  all_goals (go_ret2; exact ⟨rfl, (Below.refl _ _).drew⟩)
theorem refPlace_bad (x v : Int) (lo n : Int) (w : World) (h1 : -9223372036854775808 ≤ lo) (h2 : lo ≤ 9223372036854775807) (h3 : -9223372036854775808 ≤ n) (h4 : n ≤ 9223372036854775807) (h : ¬ Fit lo n) :
    Calls Tryd.prog 19 #[.int .u32 x, .int .i64 lo, .int .i64 n, .int .u32 v] w fun e w' => e = .returned (.tuple #[.int .u32 0, .int .i64 12]) ∧ w = w' := by
  have HF := hide (within_no lo n w h1 h2 h3 h4 h)
  clear h h1 h2 h3 h4
  go_enter Tryd.func19, Tryd.ntmps19
  go_wp2_with fail
  refine Calls.mono HF.out ?_
  rintro e w' ⟨rfl, rfl⟩
  go_wp2
  go_ret2
  exact ⟨rfl, rfl⟩

theorem place_range {w : World} {E : Nat → Addr} (he : Errs w E) (x lo n v : Nat) (h1 : 1 ≤ n) (h2 : lo + n ≤ 32) (hv : ¬ v < 2 ^ n) :
    Calls Tryd.prog 20 #[.int .u32 (x : Int), .int .i64 (lo : Int), .int .i64 (n : Int), .int .u32 (v : Int)] w fun e w' => e = .returned (.tuple #[.int .u32 0, sent (E 4)]) ∧ Below w.heap.size w w' := by
  have v4 := he.v4
  have HF := hide (fits_yes lo n w h1 h2)
  have HM := hide (fun w => mask_any n w (by omega))
  have hp : 0 < 2 ^ n := Nat.two_pow_pos n
  have d5 : decide (2 ^ n - 1 < v) = true := by simp; omega
  generalize 2 ^ n - 1 = M at *
  clear he hv hp
  go_enter Tryd.func20, Tryd.ntmps20
  go_wp2_with fail
  refine Calls.mono HF.out ?_
  rintro e w' ⟨rfl, rfl⟩
  go_wp2_with fail
  refine Calls.mono (HM.out _) ?_
  rintro e w' ⟨rfl, rfl⟩
  go_wp2_with fail
  go_region
  all_goals go_wp2
  all_goals (go_ret2; exact ⟨rfl, (Below.refl _ _).drew⟩)

theorem word_bad {w : World} {E : Nat → Addr} (he : Errs w E) (k : Int) (h1 : -9223372036854775808 ≤ k) (h2 : k ≤ 9223372036854775807) (h : k < -2147483648 ∨ 4294967295 < k) :
    Calls Tryd.prog 13 #[.int .i64 k] w fun e w' => e = .returned (.tuple #[.int .u32 0, sent (E 4)]) ∧ Below w.heap.size w w' := by
  have v4 := he.v4
  have e1 : wrap64 k = k := by unfold wrap64; omega
  clear he
  by_cases a : k < -2147483648
  · have d1 : decide (k < -2147483648) = true := by simp; omega
    clear h h1 h2
    go_enter Tryd.func13, Tryd.ntmps13
    go_wp2_with fail
    go_region
    all_goals go_wp2
    all_goals (go_ret2; exact ⟨rfl, (Below.refl _ _).drew⟩)
  · have d1 : decide (k < -2147483648) = false := by simp; omega
    have d2 : decide (4294967295 < k) = true := by simp; omega
    clear h h1 h2
    go_enter Tryd.func13, Tryd.ntmps13
    go_wp2_with fail
    go_region
    all_goals go_wp2
    all_goals (go_ret2; exact ⟨rfl, (Below.refl _ _).drew⟩)

theorem sext_bad {w : World} {E : Nat → Addr} (he : Errs w E) (x n : Int) (h : n < 1 ∨ 32 < n) :
    Calls Tryd.prog 17 #[.int .u32 x, .int .i64 n] w fun e w' => e = .returned (.tuple #[.int .u32 0, sent (E 12)]) ∧ Below w.heap.size w w' := by
  have v12 := he.v12
  clear he
  by_cases a : n < 1
  · have d1 : decide (n < 1) = true := by simp; omega
    clear h
    go_enter Tryd.func17, Tryd.ntmps17
    go_wp2_with fail
    go_region
    all_goals go_wp2
    all_goals (go_ret2; exact ⟨rfl, (Below.refl _ _).drew⟩)
  · have d1 : decide (n < 1) = false := by simp; omega
    have d2 : decide (32 < n) = true := by simp; omega
    clear h
    go_enter Tryd.func17, Tryd.ntmps17
    go_wp2_with fail
    go_region
    all_goals go_wp2
    all_goals (go_ret2; exact ⟨rfl, (Below.refl _ _).drew⟩)
end Go.Proofs.YthmibakcjhappaaDoor
