/-
  Walk of the law CrcMoves.
-/
import Derived.Test.YtfggpdddoaageabDoorShift
import Derived.Test.YtfggpdddoaageabDoorPlain
namespace Go.Proofs.YtfggpdddoaageabDoor.crcMoves
open Go.RowKit FerryCrc

theorem one_val : bitsN (8 * 1) 1 = 1996959894 := by decide +kernel
theorem shift_one (w : World) : Calls Tryd.prog 12 #[.int .u32 1, .int .i64 1] w fun e w' => e = .returned (.tuple #[.int .u32 1996959894, .nilIface]) ∧ w = w' := by
  have h := shift_any 1 1 w (by decide) (by decide)
  rw [one_val] at h
  exact h

theorem law_bad {w : World} {E : Nat → Addr} (he : Errs w E) (r o : Nat) (n : Int) (hn : n < 0) :
    Calls Tryd.prog 4 #[.int .u32 (r : Int), .int .u32 (o : Int), .int .i64 n] w fun e w' => e = .returned (.bool true) ∧ Below w.heap.size w w' := by
  have HE := hide he
  clear he
  go_enter Tryd.func4, Tryd.ntmps4
  go_wp2_with fail
  refine (shift_one w).mono ?_
  rintro e w' ⟨rfl, rfl⟩
  go_wp2_with fail
  refine (shift_bad HE.out r n hn).mono ?_
  rintro e w1 ⟨rfl, hb1⟩
  go_wp2_with fail
  refine (plain_yes (HE.out.below hb1) (sent (E 12)) 12 (bare_sent E 12 (by decide) (by decide))).mono ?_
  rintro e w2 ⟨rfl, hb2⟩
  go_wp2
  go_ret
  exact ⟨rfl, chain hb1 hb2⟩

theorem law_good (r o n : Nat) (w : World) (hr : r < 4294967296) (ho : o < 4294967296) (hn : n < 9223372036854775808) :
    Calls Tryd.prog 4 #[.int .u32 (r : Int), .int .u32 (o : Int), .int .i64 (n : Int)] w fun e w' => e = .returned (.bool true) ∧ Below w.heap.size w w' := by
  have HX := hide (u32_xor_nat r o hr ho)
  have hx := xor_lt32 hr ho
  have H1 := hide (shift_any r (n / 2) w hr (by omega))
  have H2 := hide (shift_any (bitsN (8 * (n / 2)) r) (n - n / 2) w (bitsN_lt hr) (by omega))
  have H3 := hide (shift_any r n w hr hn)
  have H4 := hide (shift_any o n w ho hn)
  have H5 := hide (shift_any (r ^^^ o) n w hx hn)
  have e2 : bitsN (8 * (n - n / 2)) (bitsN (8 * (n / 2)) r) = bitsN (8 * n) r := by
    rw [← bitsN_add]
    congr 1
    omega
  have HL := hide (bitsN_xor (8 * n) r o)
  have HV := hide (u32_xor_nat (bitsN (8 * n) r) (bitsN (8 * n) o) (bitsN_lt hr) (bitsN_lt ho))
  have HZ : Hid ((bitsN (8 * n) r = 0) ↔ r = 0) := ⟨fun h => bitsN_zero hr h, fun h => by subst h; have := bitsN_xor (8 * n) 0 0; simp at this; exact this⟩
  rw [e2] at H2
  rw [HL.out] at H5
  clear e2 HL
  generalize bitsN (8 * (n / 2)) r = x at *
  generalize bitsN (8 * n) r = p at *
  generalize bitsN (8 * n) o = v at *
  generalize r ^^^ o = ro at *
  generalize p ^^^ v = pv at *
  go_enter Tryd.func4, Tryd.ntmps4
  go_wp2_with fail
  refine (shift_one w).mono ?_
  rintro e w' ⟨rfl, rfl⟩
  go_wp2_with fail
  rw [half_i64]
  refine H1.out.mono ?_
  rintro e w' ⟨rfl, rfl⟩
  go_wp2_with fail
  rw [show ((n : Int) - (n : Int) / 2) = ((n - n / 2 : Nat) : Int) by omega]
  refine H2.out.mono ?_
  rintro e w' ⟨rfl, rfl⟩
  go_wp2_with fail
  refine H3.out.mono ?_
  rintro e w' ⟨rfl, rfl⟩
  go_wp2_with fail
  refine H4.out.mono ?_
  rintro e w' ⟨rfl, rfl⟩
  go_wp2_with fail
  rw [HX.out]
  refine H5.out.mono ?_
  rintro e w' ⟨rfl, rfl⟩
  have hv := HV.out
  go_wp2
  go_ret
  refine ⟨ret_bool ?_, Below.refl _ _⟩
  rw [beq_iff_eq, Bool.eq_iff_iff]
  simp
  exact HZ.out

theorem law {E : Nat → Addr} (r o : Nat) (n : Int) (w : World) (he : Errs w E) (hr : r < 4294967296) (ho : o < 4294967296) (_hn0 : -9223372036854775808 ≤ n) (hn1 : n ≤ 9223372036854775807) :
    Calls Tryd.prog 4 #[.int .u32 (r : Int), .int .u32 (o : Int), .int .i64 n] w fun e w' => e = .returned (.bool true) ∧ Below w.heap.size w w' := by
  by_cases h : n < 0
  · exact law_bad he r o n h
  · obtain ⟨m, rfl⟩ := Int.eq_ofNat_of_zero_le (show 0 ≤ n by omega)
    exact law_good r o m w hr ho (by omega)
end Go.Proofs.YtfggpdddoaageabDoor.crcMoves
