/-
  Contracts of alu's Do and Test, one for each operation.
-/
import Derived.Test.YteopkgjkbhcicaaDoorTiny
import Derived.Test.YteopkgjkbhcicaaDoorAluMath3
namespace Go.Proofs.YteopkgjkbhcicaaDoor
open Go.RowKit FerryAlu
set_option linter.unusedVariables false

theorem ret_w {a b : Int} (h : a = b) : Ending.returned (.tuple #[.int .u32 a, .nilIface]) = .returned (.tuple #[.int .u32 b, .nilIface]) := by rw [h]
theorem ret_t {a b : Bool} (h : a = b) : Ending.returned (.tuple #[.bool a, .nilIface]) = .returned (.tuple #[.bool b, .nilIface]) := by rw [h]
theorem div_mod {b : Nat} (c : Nat) (hb : b < 4294967296) : (b : Int) / (c : Int) % 4294967296 = ((b / c : Nat) : Int) := by
  rw [← Int.natCast_ediv]
  have := Nat.div_le_self b c
  generalize b / c = q at *
  omega
theorem w32 {b : Nat} (h : b < 4294967296) : wrap32 (b : Int) = sg b := by unfold wrap32 sg; split <;> omega

theorem do_add (b c : Nat) (w : World) (hb : b < 4294967296) (hc : c < 4294967296) :
    Calls Tryd.prog 44 #[.int .i64 1, .int .u32 (b : Int), .int .u32 (c : Int)] w fun e w' => e = .returned (.tuple #[.int .u32 (((b + c) % 4294967296 : Nat) : Int), .nilIface]) ∧ w = w' := by
  go_enter Tryd.func44, Tryd.ntmps44
  go_wp2
  go_ret2
  refine ⟨ret_w ?_, rfl⟩
  omega

theorem do_sub (b c : Nat) (w : World) (hb : b < 4294967296) (hc : c < 4294967296) :
    Calls Tryd.prog 44 #[.int .i64 2, .int .u32 (b : Int), .int .u32 (c : Int)] w fun e w' => e = .returned (.tuple #[.int .u32 (((b + 4294967296 - c) % 4294967296 : Nat) : Int), .nilIface]) ∧ w = w' := by
  go_enter Tryd.func44, Tryd.ntmps44
  go_wp2
  go_ret2
  refine ⟨ret_w ?_, rfl⟩
  omega

theorem do_and (b c : Nat) (w : World) (hb : b < 4294967296) (hc : c < 4294967296) :
    Calls Tryd.prog 44 #[.int .i64 3, .int .u32 (b : Int), .int .u32 (c : Int)] w fun e w' => e = .returned (.tuple #[.int .u32 ((b &&& c : Nat) : Int), .nilIface]) ∧ w = w' := by
  go_enter Tryd.func44, Tryd.ntmps44
  go_wp2
  go_ret2
  refine ⟨ret_w ?_, rfl⟩
  exact u32_and_nat b c hb hc

theorem do_or (b c : Nat) (w : World) (hb : b < 4294967296) (hc : c < 4294967296) :
    Calls Tryd.prog 44 #[.int .i64 4, .int .u32 (b : Int), .int .u32 (c : Int)] w fun e w' => e = .returned (.tuple #[.int .u32 ((b ||| c : Nat) : Int), .nilIface]) ∧ w = w' := by
  go_enter Tryd.func44, Tryd.ntmps44
  go_wp2
  go_ret2
  refine ⟨ret_w ?_, rfl⟩
  exact u32_or_nat b c hb hc

theorem do_xor (b c : Nat) (w : World) (hb : b < 4294967296) (hc : c < 4294967296) :
    Calls Tryd.prog 44 #[.int .i64 5, .int .u32 (b : Int), .int .u32 (c : Int)] w fun e w' => e = .returned (.tuple #[.int .u32 ((b ^^^ c : Nat) : Int), .nilIface]) ∧ w = w' := by
  go_enter Tryd.func44, Tryd.ntmps44
  go_wp2
  go_ret2
  refine ⟨ret_w ?_, rfl⟩
  exact u32_xor_nat b c hb hc

theorem do_shl (b c : Nat) (w : World) (hb : b < 4294967296) (hc : c < 4294967296) :
    Calls Tryd.prog 44 #[.int .i64 6, .int .u32 (b : Int), .int .u32 (c : Int)] w fun e w' => e = .returned (.tuple #[.int .u32 ((b * 2 ^ (c % 32) % 4294967296 : Nat) : Int), .nilIface]) ∧ w = w' := by
  go_enter Tryd.func44, Tryd.ntmps44
  go_wp2
  go_ret2
  refine ⟨ret_w ?_, rfl⟩
  simp

theorem do_shr (b c : Nat) (w : World) (hb : b < 4294967296) (hc : c < 4294967296) :
    Calls Tryd.prog 44 #[.int .i64 7, .int .u32 (b : Int), .int .u32 (c : Int)] w fun e w' => e = .returned (.tuple #[.int .u32 ((b / 2 ^ (c % 32) : Nat) : Int), .nilIface]) ∧ w = w' := by
  go_enter Tryd.func44, Tryd.ntmps44
  go_wp2
  go_ret2
  refine ⟨ret_w ?_, rfl⟩
  simp

theorem do_sar (b c : Nat) (w : World) (hb : b < 4294967296) (hc : c < 4294967296) :
    Calls Tryd.prog 44 #[.int .i64 8, .int .u32 (b : Int), .int .u32 (c : Int)] w fun e w' => e = .returned (.tuple #[.int .u32 ((un (sg b / (2 ^ (c % 32) : Nat)) : Nat) : Int), .nilIface]) ∧ w = w' := by
  go_enter Tryd.func44, Tryd.ntmps44
  go_wp2
  go_ret2
  refine ⟨ret_w ?_, rfl⟩
  rw [w32 hb, un_cast]; simp

theorem do_mul (b c : Nat) (w : World) (hb : b < 4294967296) (hc : c < 4294967296) :
    Calls Tryd.prog 44 #[.int .i64 9, .int .u32 (b : Int), .int .u32 (c : Int)] w fun e w' => e = .returned (.tuple #[.int .u32 ((b * c % 4294967296 : Nat) : Int), .nilIface]) ∧ w = w' := by
  go_enter Tryd.func44, Tryd.ntmps44
  go_wp2
  go_ret2
  refine ⟨ret_w ?_, rfl⟩
  simp

theorem do_divu (b c : Nat) (w : World) (hb : b < 4294967296) (hc : c < 4294967296) (h0 : c ≠ 0) :
    Calls Tryd.prog 44 #[.int .i64 10, .int .u32 (b : Int), .int .u32 (c : Int)] w fun e w' => e = .returned (.tuple #[.int .u32 ((b / c : Nat) : Int), .nilIface]) ∧ w = w' := by
  have e0 : ((c : Int) == 0) = false := by simp; omega
  have e1 : (c : Int) ≠ 0 := by omega
  have e2 := w32 hb
  have e3 := w32 hc
  have e4 : (sg c == 0) = false := by have := sg_zero hc; simp; omega
  have e5 : sg c ≠ 0 := by have := sg_zero hc; omega
  go_enter Tryd.func44, Tryd.ntmps44
  go_wp2
  all_goals (go_ret2; refine ⟨ret_w ?_, rfl⟩; exact div_mod c hb)

theorem do_divs (b c : Nat) (w : World) (hb : b < 4294967296) (hc : c < 4294967296) (h0 : c ≠ 0) :
    Calls Tryd.prog 44 #[.int .i64 11, .int .u32 (b : Int), .int .u32 (c : Int)] w fun e w' => e = .returned (.tuple #[.int .u32 ((un ((sg b).tdiv (sg c)) : Nat) : Int), .nilIface]) ∧ w = w' := by
  have e0 : ((c : Int) == 0) = false := by simp; omega
  have e1 : (c : Int) ≠ 0 := by omega
  have e2 := w32 hb
  have e3 := w32 hc
  have e4 : (sg c == 0) = false := by have := sg_zero hc; simp; omega
  have e5 : sg c ≠ 0 := by have := sg_zero hc; omega
  go_enter Tryd.func44, Tryd.ntmps44
  go_wp2
  all_goals (go_ret2; refine ⟨ret_w ?_, rfl⟩; rw [un_cast]; unfold wrap32; omega)

theorem do_remu (b c : Nat) (w : World) (hb : b < 4294967296) (hc : c < 4294967296) (h0 : c ≠ 0) :
    Calls Tryd.prog 44 #[.int .i64 12, .int .u32 (b : Int), .int .u32 (c : Int)] w fun e w' => e = .returned (.tuple #[.int .u32 ((b % c : Nat) : Int), .nilIface]) ∧ w = w' := by
  have e0 : ((c : Int) == 0) = false := by simp; omega
  have e1 : (c : Int) ≠ 0 := by omega
  have e2 := w32 hb
  have e3 := w32 hc
  have e4 : (sg c == 0) = false := by have := sg_zero hc; simp; omega
  have e5 : sg c ≠ 0 := by have := sg_zero hc; omega
  go_enter Tryd.func44, Tryd.ntmps44
  go_wp2
  all_goals (go_ret2; refine ⟨ret_w ?_, rfl⟩; simp)

theorem do_rems (b c : Nat) (w : World) (hb : b < 4294967296) (hc : c < 4294967296) (h0 : c ≠ 0) :
    Calls Tryd.prog 44 #[.int .i64 13, .int .u32 (b : Int), .int .u32 (c : Int)] w fun e w' => e = .returned (.tuple #[.int .u32 ((un ((sg b).tmod (sg c)) : Nat) : Int), .nilIface]) ∧ w = w' := by
  have e0 : ((c : Int) == 0) = false := by simp; omega
  have e1 : (c : Int) ≠ 0 := by omega
  have e2 := w32 hb
  have e3 := w32 hc
  have e4 : (sg c == 0) = false := by have := sg_zero hc; simp; omega
  have e5 : sg c ≠ 0 := by have := sg_zero hc; omega
  go_enter Tryd.func44, Tryd.ntmps44
  go_wp2
  all_goals (go_ret2; refine ⟨ret_w ?_, rfl⟩; rw [un_cast])

theorem do_sltu (b c : Nat) (w : World) (hb : b < 4294967296) (hc : c < 4294967296) :
    Calls Tryd.prog 44 #[.int .i64 14, .int .u32 (b : Int), .int .u32 (c : Int)] w fun e w' => e = .returned (.tuple #[.int .u32 (((decide (b < c)).toNat : Nat) : Int), .nilIface]) ∧ w = w' := by
  have e2 := w32 hb
  have e3 := w32 hc
  go_enter Tryd.func44, Tryd.ntmps44
  go_wp2
  all_goals (go_ret2; refine ⟨ret_w ?_, rfl⟩; rename_i h; first | (rw [decide_eq_true (by omega)]; rfl) | (rw [decide_eq_false (by omega)]; rfl))

theorem do_slts (b c : Nat) (w : World) (hb : b < 4294967296) (hc : c < 4294967296) :
    Calls Tryd.prog 44 #[.int .i64 15, .int .u32 (b : Int), .int .u32 (c : Int)] w fun e w' => e = .returned (.tuple #[.int .u32 (((decide (sg b < sg c)).toNat : Nat) : Int), .nilIface]) ∧ w = w' := by
  have e2 := w32 hb
  have e3 := w32 hc
  go_enter Tryd.func44, Tryd.ntmps44
  go_wp2
  all_goals (go_ret2; refine ⟨ret_w ?_, rfl⟩; rename_i h; first | (rw [decide_eq_true (by omega)]; rfl) | (rw [decide_eq_false (by omega)]; rfl))

theorem test_eq (b c : Nat) (w : World) (hb : b < 4294967296) (hc : c < 4294967296) :
    Calls Tryd.prog 43 #[.int .i64 48, .int .u32 (b : Int), .int .u32 (c : Int)] w fun e w' => e = .returned (.tuple #[.bool ((b : Int) == (c : Int)), .nilIface]) ∧ w = w' := by
  have e2 := w32 hb
  have e3 := w32 hc
  go_enter Tryd.func43, Tryd.ntmps43
  go_wp2
  go_ret2
  exact ⟨rfl, rfl⟩

theorem test_ne (b c : Nat) (w : World) (hb : b < 4294967296) (hc : c < 4294967296) :
    Calls Tryd.prog 43 #[.int .i64 49, .int .u32 (b : Int), .int .u32 (c : Int)] w fun e w' => e = .returned (.tuple #[.bool ((b : Int) != (c : Int)), .nilIface]) ∧ w = w' := by
  have e2 := w32 hb
  have e3 := w32 hc
  go_enter Tryd.func43, Tryd.ntmps43
  go_wp2
  go_ret2
  exact ⟨rfl, rfl⟩

theorem test_ltu (b c : Nat) (w : World) (hb : b < 4294967296) (hc : c < 4294967296) :
    Calls Tryd.prog 43 #[.int .i64 50, .int .u32 (b : Int), .int .u32 (c : Int)] w fun e w' => e = .returned (.tuple #[.bool (decide (b < c)), .nilIface]) ∧ w = w' := by
  have e2 := w32 hb
  have e3 := w32 hc
  go_enter Tryd.func43, Tryd.ntmps43
  go_wp2
  go_ret2
  exact ⟨rfl, rfl⟩

theorem test_lts (b c : Nat) (w : World) (hb : b < 4294967296) (hc : c < 4294967296) :
    Calls Tryd.prog 43 #[.int .i64 51, .int .u32 (b : Int), .int .u32 (c : Int)] w fun e w' => e = .returned (.tuple #[.bool (decide (sg b < sg c)), .nilIface]) ∧ w = w' := by
  have e2 := w32 hb
  have e3 := w32 hc
  go_enter Tryd.func43, Tryd.ntmps43
  go_wp2
  go_ret2
  exact ⟨rfl, rfl⟩

theorem test_geu (b c : Nat) (w : World) (hb : b < 4294967296) (hc : c < 4294967296) :
    Calls Tryd.prog 43 #[.int .i64 52, .int .u32 (b : Int), .int .u32 (c : Int)] w fun e w' => e = .returned (.tuple #[.bool (decide (c ≤ b)), .nilIface]) ∧ w = w' := by
  have e2 := w32 hb
  have e3 := w32 hc
  go_enter Tryd.func43, Tryd.ntmps43
  go_wp2
  go_ret2
  exact ⟨rfl, rfl⟩

theorem test_ges (b c : Nat) (w : World) (hb : b < 4294967296) (hc : c < 4294967296) :
    Calls Tryd.prog 43 #[.int .i64 53, .int .u32 (b : Int), .int .u32 (c : Int)] w fun e w' => e = .returned (.tuple #[.bool (decide (sg c ≤ sg b)), .nilIface]) ∧ w = w' := by
  have e2 := w32 hb
  have e3 := w32 hc
  go_enter Tryd.func43, Tryd.ntmps43
  go_wp2
  go_ret2
  exact ⟨rfl, rfl⟩

end Go.Proofs.YteopkgjkbhcicaaDoor
