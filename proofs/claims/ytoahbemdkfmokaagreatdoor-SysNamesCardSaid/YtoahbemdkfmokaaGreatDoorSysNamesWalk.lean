/-
  The law SysNames, walked.
-/
import Derived.Test.YtoahbemdkfmokaaGreatDoorSnRef
namespace Go.Proofs.YtoahbemdkfmokaaGreatDoor.sysNames
open Go.RowKit FerryCrc
set_option linter.unusedVariables false
set_option linter.unusedSimpArgs false

theorem back : ∀ k : Nat, k < 15 → numOf (nameOf (k : Int)) = (k : Int)
  | 0, _ => by decide +kernel
  | 1, _ => by decide +kernel
  | 2, _ => by decide +kernel
  | 3, _ => by decide +kernel
  | 4, _ => by decide +kernel
  | 5, _ => by decide +kernel
  | 6, _ => by decide +kernel
  | 7, _ => by decide +kernel
  | 8, _ => by decide +kernel
  | 9, _ => by decide +kernel
  | 10, _ => by decide +kernel
  | 11, _ => by decide +kernel
  | 12, _ => by decide +kernel
  | 13, _ => by decide +kernel
  | 14, _ => by decide +kernel
  | k + 15, h => by omega
theorem n14 : nameOf 14 = ⟨#[112, 111, 114, 116]⟩ := by rfl
theorem y0 : numOf ⟨#[121, 105, 101, 108, 100]⟩ = 0 := by decide +kernel
theorem a13 : argsOf 13 = 3 := by rfl

set_option maxRecDepth 100000 in
set_option maxHeartbeats 4000000 in
theorem law (n : Int) (x : ByteArray) (w : World) : Calls Tryz.prog 3 #[.int .i64 n, .string x] w fun e w' => e = .returned (.bool true) ∧ Below w.heap.size w w' := by
  go_enter Tryz.func3, Tryz.ntmps3
  go_wp2_with fail
  refine Calls.mono (name_any 14 w) ?_
  rintro e w1 ⟨rfl, b1⟩
  rw [n14]
  have B1 := hide b1
  clear b1
  go_wp2_with fail
  refine Calls.mono (number_any _ w1) ?_
  rintro e w2 ⟨rfl, b2⟩
  rw [y0]
  have B2 := hide (chain B1.out b2)
  clear b2 B1
  go_wp2_with fail
  refine Calls.mono (args_any 13 w2) ?_
  rintro e w3 ⟨rfl, b3⟩
  rw [a13]
  have B3 := hide (chain B2.out b3)
  clear b3 B2
  go_wp2
  go_loopw [5] (fun i wr => ∃ k : Nat, k ≤ 15 ∧ i = .int .i64 (k : Int) ∧ Hid (Below w.heap.size w wr)) (fun i _ => 15 - (intOf i).toNat)
  case atStart => exact ⟨0, by omega, rfl, B3.out⟩
  case round =>
    obtain ⟨k, hk, rfl, hb⟩ := hrel
    by_cases hlt : k < 15
    · have hk1 : (k : Int) < 15 := by omega
      have HK := hide (back k hlt)
      go_wp2_with fail
      refine Calls.mono (name_any (k : Int) wr) ?_
      rintro e w4 ⟨rfl, b4⟩
      have B4 := hide (chain hb.out b4)
      clear b4
      go_wp2_with fail
      refine Calls.mono (number_any _ w4) ?_
      rintro e w5 ⟨rfl, b5⟩
      rw [HK.out]
      have B5 := hide (chain B4.out b5)
      clear b5 B4
      go_wp2_with fail
      refine Calls.mono (name_any (k : Int) w5) ?_
      rintro e w6 ⟨rfl, b6⟩
      have B6 := hide (chain B5.out b6)
      clear b6 B5
      go_wp2_with fail
      refine Calls.mono (rname_any (k : Int) w6) ?_
      rintro e w7 ⟨rfl, b7⟩
      have B7 := hide (chain B6.out b7)
      clear b7 B6
      generalize nameOf (k : Int) = N at *
      go_wp2_with fail
      refine Calls.mono (args_any (k : Int) w7) ?_
      rintro e w8 ⟨rfl, b8⟩
      have B8 := hide (chain B7.out b8)
      clear b8 B7
      go_wp2_with fail
      refine Calls.mono (rargs_any (k : Int) w8) ?_
      rintro e w9 ⟨rfl, rfl⟩
      generalize argsOf (k : Int) = M at *
      go_wp2
      go_roundw
      case rel => exact ⟨k + 1, by omega, by go_num, B8.out⟩
      case measure => simp [intOf]; omega
    · obtain rfl : k = 15 := by omega
      go_wp2_with fail
      refine Calls.mono (name_any n wr) ?_
      rintro e w4 ⟨rfl, b4⟩
      have B4 := hide (chain hb.out b4)
      clear b4
      go_wp2_with fail
      refine Calls.mono (rname_any n w4) ?_
      rintro e w5 ⟨rfl, b5⟩
      have B5 := hide (chain B4.out b5)
      clear b5 B4
      generalize nameOf n = N at *
      go_wp2_with fail
      refine Calls.mono (number_any x w5) ?_
      rintro e w6 ⟨rfl, b6⟩
      have B6 := hide (chain B5.out b6)
      clear b6 B5
      go_wp2_with fail
      refine Calls.mono (rnumber_any x w6) ?_
      rintro e w7 ⟨rfl, b7⟩
      have B7 := hide (chain B6.out b7)
      clear b7 B6
      generalize numOf x = M at *
      go_wp2_with fail
      refine Calls.mono (args_any n w7) ?_
      rintro e w8 ⟨rfl, b8⟩
      have B8 := hide (chain B7.out b8)
      clear b8 B7
      go_wp2_with fail
      refine Calls.mono (rargs_any n w8) ?_
      rintro e w9 ⟨rfl, rfl⟩
      generalize argsOf n = A at *
      go_wp2
      go_ret
      exact ⟨rfl, B8.out⟩
end Go.Proofs.YtoahbemdkfmokaaGreatDoor.sysNames
