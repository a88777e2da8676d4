/-
  Walk of the law AluOrder.
-/
import Derived.Test.YtbdhlpbddddpeaaDoorAluCut
namespace Go.Proofs.YtbdhlpbddddpeaaDoor.aluOrder
open Go.RowKit FerryAlu

theorem bit_eq (p : Bool) : (((p.toNat : Nat) : Int) == 1) = p := by cases p <;> rfl
theorem bit_lt (p : Bool) : p.toNat < 2 := by cases p <;> decide
theorem sym_eq (a b : Nat) : ((b : Int) == (a : Int)) = ((a : Int) == (b : Int)) := by
  rw [Bool.eq_iff_iff, beq_iff_eq, beq_iff_eq]
  exact eq_comm
theorem sym_ne (a b : Nat) : ((b : Int) != (a : Int)) = ((a : Int) != (b : Int)) := by
  unfold bne
  rw [sym_eq]

set_option maxRecDepth 100000 in
set_option maxHeartbeats 2000000 in
theorem law (a b : Nat) (w : World) (ha : a < 4294967296) (hb : b < 4294967296) :
    Calls Tryd.prog 5 #[.int .u32 (a : Int), .int .u32 (b : Int)] w fun e w' => e = .returned (.bool true) ∧ Below w.heap.size w w' := by
  have T0 := hide (test_lts 4294967295 0 w (by decide) (by decide))
  have D0 := hide (do_of (do_sltu 0 4294967295 w (by decide) (by decide)))
  have T48 := hide (test_eq a b w ha hb)
  have T48' := hide (test_eq b a w hb ha)
  have T49 := hide (test_ne a b w ha hb)
  have T49' := hide (test_ne b a w hb ha)
  have T50 := hide (test_ltu a b w ha hb)
  have T50' := hide (test_ltu b a w hb ha)
  have T51 := hide (test_lts a b w ha hb)
  have T51' := hide (test_lts b a w hb ha)
  have T52 := hide (test_geu a b w ha hb)
  have T52' := hide (test_geu b a w hb ha)
  have T53 := hide (test_ges a b w ha hb)
  have T53' := hide (test_ges b a w hb ha)
  have SA := hide (signed_any a w ha)
  have SB := hide (signed_any b w hb)
  have DU := hide (do_of (do_sltu a b w ha hb))
  have DS := hide (do_of (do_slts a b w ha hb))
  rw [show decide (sg 4294967295 < sg 0) = true by decide] at T0
  rw [show (((decide (0 < 4294967295)).toNat : Nat) : Int) = 1 by decide] at D0
  rw [sym_eq] at T48'
  rw [sym_ne] at T49'
  have eu := bit_eq (decide (a < b))
  have es := bit_eq (decide (sg a < sg b))
  have lu := bit_lt (decide (a < b))
  have ls := bit_lt (decide (sg a < sg b))
  generalize (decide (a < b)).toNat = u at DU eu lu
  generalize (decide (sg a < sg b)).toNat = v at DS es ls
  clear ha hb
  go_enter Tryd.func5, Tryd.ntmps5
  go_wp2_with fail
  refine Calls.mono T0.out ?_
  rintro e w' ⟨rfl, rfl⟩
  go_wp2_with fail
  refine Calls.mono D0.out ?_
  rintro e w' ⟨rfl, rfl⟩
  go_wp2_with fail
  refine wp_loop_rounds 7 ?_
  rw [rounds_succ]
  go_wp2_with fail
  refine Calls.mono T48.out ?_
  rintro e w' ⟨rfl, rfl⟩
  go_wp2_with fail
  refine Calls.mono T48'.out ?_
  rintro e w' ⟨rfl, rfl⟩
  go_wp2_with fail
  rw [rounds_succ]
  go_wp2_with fail
  refine Calls.mono T49.out ?_
  rintro e w' ⟨rfl, rfl⟩
  go_wp2_with fail
  refine Calls.mono T49'.out ?_
  rintro e w' ⟨rfl, rfl⟩
  go_wp2_with fail
  rw [rounds_succ]
  go_wp2_with fail
  refine Calls.mono T50.out ?_
  rintro e w' ⟨rfl, rfl⟩
  go_wp2_with fail
  refine Calls.mono T50'.out ?_
  rintro e w' ⟨rfl, rfl⟩
  go_wp2_with fail
  rw [rounds_succ]
  go_wp2_with fail
  refine Calls.mono T51.out ?_
  rintro e w' ⟨rfl, rfl⟩
  go_wp2_with fail
  refine Calls.mono T51'.out ?_
  rintro e w' ⟨rfl, rfl⟩
  go_wp2_with fail
  refine Calls.mono SA.out ?_
  rintro e w' ⟨rfl, rfl⟩
  go_wp2_with fail
  refine Calls.mono SB.out ?_
  rintro e w' ⟨rfl, rfl⟩
  go_wp2_with fail
  refine Calls.mono SB.out ?_
  rintro e w' ⟨rfl, rfl⟩
  go_wp2_with fail
  refine Calls.mono SA.out ?_
  rintro e w' ⟨rfl, rfl⟩
  go_wp2_with fail
  rw [rounds_succ]
  go_wp2_with fail
  refine Calls.mono T52.out ?_
  rintro e w' ⟨rfl, rfl⟩
  go_wp2_with fail
  refine Calls.mono T52'.out ?_
  rintro e w' ⟨rfl, rfl⟩
  go_wp2_with fail
  rw [rounds_succ]
  go_wp2_with fail
  refine Calls.mono T53.out ?_
  rintro e w' ⟨rfl, rfl⟩
  go_wp2_with fail
  refine Calls.mono T53'.out ?_
  rintro e w' ⟨rfl, rfl⟩
  go_wp2_with fail
  refine Calls.mono SA.out ?_
  rintro e w' ⟨rfl, rfl⟩
  go_wp2_with fail
  refine Calls.mono SB.out ?_
  rintro e w' ⟨rfl, rfl⟩
  go_wp2_with fail
  refine Calls.mono SB.out ?_
  rintro e w' ⟨rfl, rfl⟩
  go_wp2_with fail
  refine Calls.mono SA.out ?_
  rintro e w' ⟨rfl, rfl⟩
  go_wp2_with fail
  rw [rounds_succ]
  go_wp2_with fail
  refine Calls.mono T50.out ?_
  rintro e w' ⟨rfl, rfl⟩
  go_wp2_with fail
  refine Calls.mono T51.out ?_
  rintro e w' ⟨rfl, rfl⟩
  go_wp2_with fail
  refine Calls.mono DU.out ?_
  rintro e w' ⟨rfl, rfl⟩
  go_wp2_with fail
  refine Calls.mono DS.out ?_
  rintro e w' ⟨rfl, rfl⟩
  go_wp2_with fail
  refine Calls.mono DU.out ?_
  rintro e w' ⟨rfl, rfl⟩
  go_wp2_with fail
  refine Calls.mono DS.out ?_
  rintro e w' ⟨rfl, rfl⟩
  go_wp2
  go_ret
  exact ⟨ret_bool (by simp; omega), Below.refl _ _⟩
end Go.Proofs.YtbdhlpbddddpeaaDoor.aluOrder
