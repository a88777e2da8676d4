/-
  Contracts of alu's Word, Sext, Field and Place, where they refuse nothing.
-/
import Derived.Test.YthmibakcjhappaaDoorAluCut
import Derived.Deep.QuietTactic
import Derived.BigQuiet
namespace Go.Proofs.YthmibakcjhappaaDoor
open Go.RowKit FerryAlu
set_option linter.unusedVariables false

theorem word_any (k : Int) (w : World) (h1 : -2147483648 ≤ k) (h2 : k ≤ 4294967295) :
    Calls Tryd.prog 13 #[.int .i64 k] w fun e w' => e = .returned (.tuple #[.int .u32 (un k : Nat), .nilIface]) ∧ w = w' := by
  have e1 : wrap64 k = k := by unfold wrap64; omega
  have d1 : decide (k < -2147483648) = false := by simp; omega
  have d2 : decide (4294967295 < k) = false := by simp; omega
  go_enter Tryd.func13, Tryd.ntmps13
  go_wp2
  go_ret2
  refine ⟨ret_w ?_, rfl⟩
  rw [un_cast]

theorem sext_any (x n : Nat) (w : World) (hx : x < 4294967296) (h1 : 1 ≤ n) (h2 : n ≤ 32) :
    Calls Tryd.prog 17 #[.int .u32 (x : Int), .int .i64 (n : Int)] w fun e w' => e = .returned (.tuple #[.int .u32 (sxt x n : Nat), .nilIface]) ∧ w = w' := by
  have d1 : decide ((n : Int) < 1) = false := by simp; omega
  have d2 : decide ((32 : Int) < (n : Int)) = false := by simp; omega
  have e1 : wrap64 (32 - (n : Int)) = ((32 - n : Nat) : Int) := by unfold wrap64; omega
  have e3 := w32 (Nat.mod_lt (x * 2 ^ (32 - n)) (show 0 < 4294967296 by decide))
  go_enter Tryd.func17, Tryd.ntmps17
  go_wp2
  go_ret2
  refine ⟨ret_w ?_, rfl⟩
  unfold sxt
  rw [un_cast, ← e3]
  simp

theorem mask_any (n : Nat) (w : World) (h2 : n ≤ 32) :
    Calls Tryd.prog 46 #[.int .i64 (n : Int)] w fun e w' => e = .returned (.int .u32 ((2 ^ n - 1 : Nat) : Int)) ∧ w = w' := by
  have e1 : wrap64 (32 - (n : Int)) = ((32 - n : Nat) : Int) := by unfold wrap64; omega
  have e2 := mask_is h2
  go_enter Tryd.func46, Tryd.ntmps46
  go_wp2
  go_ret
  refine ⟨ret_int ?_, rfl⟩
  rw [← e2]
  simp

theorem fits_yes (lo n : Nat) (w : World) (h1 : 1 ≤ n) (h2 : lo + n ≤ 32) :
    Calls Tryd.prog 45 #[.int .i64 (lo : Int), .int .i64 (n : Int)] w fun e w' => e = .returned (.bool true) ∧ w = w' := by
  have d1 : decide ((0 : Int) ≤ (lo : Int)) = true := by simp
  have d2 : decide ((lo : Int) < 32) = true := by simp; omega
  have d3 : decide ((1 : Int) ≤ (n : Int)) = true := by simp; omega
  have e1 : wrap64 (32 - (lo : Int)) = 32 - (lo : Int) := by unfold wrap64; omega
  have d4 : decide ((n : Int) ≤ 32 - (lo : Int)) = true := by simp; omega
  go_enter Tryd.func45, Tryd.ntmps45
  go_wp2
  go_ret
  exact ⟨rfl, rfl⟩

theorem field_any (x lo n : Nat) (w : World) (hx : x < 4294967296) (h1 : 1 ≤ n) (h2 : lo + n ≤ 32) :
    Calls Tryd.prog 11 #[.int .u32 (x : Int), .int .i64 (lo : Int), .int .i64 (n : Int)] w fun e w' => e = .returned (.tuple #[.int .u32 (fld x lo n : Nat), .nilIface]) ∧ Below w.heap.size w w' := by
  have HF := hide (fits_yes lo n w h1 h2)
  have HM := hide (fun w => mask_any n w (by omega))
  have hm : 2 ^ n - 1 < 4294967296 := by have := two_pow_le (n := n) (by omega); omega
  have hf := field_is x lo n
  have hd : x / 2 ^ lo < 4294967296 := Nat.lt_of_le_of_lt (Nat.div_le_self _ _) hx
  generalize 2 ^ n - 1 = M at *
  go_enter Tryd.func11, Tryd.ntmps11
  go_wp2_with fail
  refine Calls.mono HF.out ?_
  rintro e w' ⟨rfl, rfl⟩
  go_wp2_with fail
  go_quiet (first | (go_at_call 46; exact Calls.quiet_of_same ((HM.out _).mono fun _ _ h => ⟨h.1, h.2.symm⟩)))
  go_wp2
  go_ret2
  refine ⟨ret_w ?_, below_drewN (Below.refl _ _) _⟩
  rw [← hf, ← u32_and_nat _ _ hd hm]
  simp

theorem place_bits (x lo n v : Nat) (hx : x < 4294967296) (h2 : lo + n ≤ 32) (hv : v < 2 ^ n) : ((x &&& (4294967295 - (2 ^ n - 1) * 2 ^ lo)) ||| v * 2 ^ lo) = plc x lo n v := by
  rw [← or_place x lo n v hv]
  congr 1
  have hM : (2 ^ n - 1) * 2 ^ lo < 2 ^ 32 := by
    have h : 2 ^ n * 2 ^ lo ≤ 4294967296 := by rw [← Nat.pow_add]; exact two_pow_le (by omega)
    have h0 : 0 < 2 ^ lo := Nat.two_pow_pos lo
    rw [Nat.sub_mul, Nat.one_mul]
    omega
  apply Nat.eq_of_testBit_eq
  intro i
  rw [Nat.testBit_and, show 4294967295 - (2 ^ n - 1) * 2 ^ lo = 2 ^ 32 - ((2 ^ n - 1) * 2 ^ lo + 1) by omega, Nat.testBit_two_pow_sub_succ hM, mask_bit, plc_testBit (Nat.two_pow_pos n)]
  by_cases h : i < 32
  · by_cases h3 : i < lo
    · simp [h, h3, show ¬ lo ≤ i by omega]
    · by_cases h4 : i < lo + n
      · simp [h3, h4, show lo ≤ i by omega]
      · simp [h, h3, h4]
  · have : x.testBit i = false := Nat.testBit_lt_two_pow (Nat.lt_of_lt_of_le hx (Nat.pow_le_pow_right (n := 2) (i := 32) (by decide) (by omega)))
    simp [this, show ¬ i < lo by omega, show ¬ i < lo + n by omega]

theorem place_any (x lo n v : Nat) (w : World) (hx : x < 4294967296) (h1 : 1 ≤ n) (h2 : lo + n ≤ 32) (hv : v < 2 ^ n) :
    Calls Tryd.prog 20 #[.int .u32 (x : Int), .int .i64 (lo : Int), .int .i64 (n : Int), .int .u32 (v : Int)] w fun e w' => e = .returned (.tuple #[.int .u32 (plc x lo n v : Nat), .nilIface]) ∧ Below w.heap.size w w' := by
  have HF := hide (fits_yes lo n w h1 h2)
  have HM := hide (fun w => mask_any n w (by omega))
  have hp := place_bits x lo n v hx h2 hv
  have hle : 2 ^ n * 2 ^ lo ≤ 4294967296 := by rw [← Nat.pow_add]; exact two_pow_le (by omega)
  have h0 : 0 < 2 ^ lo := Nat.two_pow_pos lo
  have hM : (2 ^ n - 1) * 2 ^ lo < 4294967296 := by rw [Nat.sub_mul, Nat.one_mul]; omega
  have hV : v * 2 ^ lo < 4294967296 := Nat.lt_of_lt_of_le (Nat.mul_lt_mul_of_pos_right hv h0) hle
  have hvm : v ≤ 2 ^ n - 1 := by omega
  have d5 : decide (2 ^ n - 1 < v) = false := by simp; omega
  generalize 2 ^ n - 1 = M at *
  go_enter Tryd.func20, Tryd.ntmps20
  go_wp2_with fail
  refine Calls.mono HF.out ?_
  rintro e w' ⟨rfl, rfl⟩
  go_wp2_with fail
  refine Calls.mono (HM.out _) ?_
  rintro e w' ⟨rfl, rfl⟩
  go_wp2_with fail
  go_quiet (first | (go_at_call 46; exact Calls.quiet_of_same ((HM.out _).mono fun _ _ h => ⟨h.1, h.2.symm⟩)))
  go_wp2
  go_ret2
  refine ⟨ret_w ?_, below_drewN (Below.refl _ _) _⟩
  have q1 : (M : Int) * 2 ^ lo % 4294967296 = ((M * 2 ^ lo : Nat) : Int) := by rw [show (M : Int) * 2 ^ lo = ((M * 2 ^ lo : Nat) : Int) by simp]; omega
  have q2 : (v : Int) * 2 ^ lo % 4294967296 = ((v * 2 ^ lo : Nat) : Int) := by rw [show (v : Int) * 2 ^ lo = ((v * 2 ^ lo : Nat) : Int) by simp]; omega
  rw [q1, q2, u32_andNot_nat _ _ hx hM, u32_or_nat _ _ (Nat.and_lt_two_pow (n := 32) x (by omega)) hV, hp]
end Go.Proofs.YthmibakcjhappaaDoor
