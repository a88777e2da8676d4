/-
  Walk of the law CrcShifts.
-/
import Derived.Test.YtfggpdddoaageaaDoorShift
import Derived.Test.YtfggpdddoaageaaDoorRefShift2
import Derived.Test.YtfggpdddoaageaaDoorPlain
namespace Go.Proofs.YtfggpdddoaageaaDoor.crcShifts
open Go.RowKit FerryCrc

theorem one_val : bitsN (8 * 1) 1 = 1996959894 := by decide +kernel
theorem shift_one (w : World) : Calls Tryd.prog 8 #[.int .u32 1, .int .i64 1] w fun e w' => e = .returned (.tuple #[.int .u32 1996959894, .nilIface]) ∧ w = w' := by
  have h := shift_any 1 1 w (by decide) (by decide)
  rw [one_val] at h
  exact h

set_option maxRecDepth 100000 in
theorem law_bad {w : World} {E : Nat → Addr} (he : Errs w E) (r o : Nat) (n : Int) (hn : n < 0) :
    Calls Tryd.prog 3 #[.int .u32 (r : Int), .int .u32 (o : Int), .int .i64 n] w fun e w' => e = .returned (.bool true) ∧ Below w.heap.size w w' := by
  have HE := hide he
  clear he
  go_enter Tryd.func3, Tryd.ntmps3
  go_wp2_with fail
  refine (shift_one w).mono ?_
  rintro e w' ⟨rfl, rfl⟩
  go_wp2_with fail
  refine (shift_bad HE.out r n hn).mono ?_
  rintro e w1 ⟨rfl, hb1⟩
  go_wp2_with fail
  refine (refShift_bad r n w1 hn).mono ?_
  rintro e w' ⟨rfl, rfl⟩
  go_wp2_with fail
  refine (plain_yes (HE.out.below hb1) (sent (E 12)) 12 (bare_sent E 12 (by decide) (by decide))).mono ?_
  rintro e w2 ⟨rfl, hb2⟩
  have HB2 := hide (chain hb1 hb2)
  clear hb1 hb2
  go_wp2_with fail
  refine (join_bad (HE.out.below HB2.out) r o n hn).mono ?_
  rintro e w3 ⟨rfl, hb3⟩
  have HB3 := hide (chain HB2.out hb3)
  clear hb3
  go_wp2_with fail
  refine (refJoin_bad r o n w3 hn).mono ?_
  rintro e w' ⟨rfl, rfl⟩
  go_wp2_with fail
  refine (plain_yes (HE.out.below HB3.out) (sent (E 12)) 12 (bare_sent E 12 (by decide) (by decide))).mono ?_
  rintro e w4 ⟨rfl, hb4⟩
  go_wp2
  go_ret
  exact ⟨rfl, chain HB3.out hb4⟩

set_option maxRecDepth 100000 in
theorem law_good {w : World} {E : Nat → Addr} (he : Errs w E) (r o n : Nat) (hr : r < 4294967296) (ho : o < 4294967296) (hn : n < 9223372036854775808) :
    Calls Tryd.prog 3 #[.int .u32 (r : Int), .int .u32 (o : Int), .int .i64 (n : Int)] w fun e w' => e = .returned (.bool true) ∧ Below w.heap.size w w' := by
  have HE := hide he
  have H1 := hide (fun wx => shift_any r n wx hr hn)
  have H2 := hide (fun wx => refShift_any r n wx hr hn)
  have H3 := hide (fun wx => join_any r o n wx hr ho hn)
  have H4 := hide (fun wx => refJoin_any r o n wx hr ho hn)
  clear he
  generalize bitsN (8 * n) r ^^^ o = z at *
  generalize bitsN (8 * n) r = x at *
  go_enter Tryd.func3, Tryd.ntmps3
  go_wp2_with fail
  refine (shift_one w).mono ?_
  rintro e w' ⟨rfl, rfl⟩
  go_wp2_with fail
  refine (H1.out _).mono ?_
  rintro e w' ⟨rfl, rfl⟩
  go_wp2_with fail
  refine (H2.out _).mono ?_
  rintro e w1 ⟨rfl, hb1⟩
  have HB1 := hide hb1
  clear hb1
  go_wp2_with fail
  refine (plain_yes (HE.out.below HB1.out) .nilIface 0 (bare_nil E)).mono ?_
  rintro e w2 ⟨rfl, hb2⟩
  have HB2 := hide (chain HB1.out hb2)
  clear hb2
  go_wp2_with fail
  refine (H3.out _).mono ?_
  rintro e w' ⟨rfl, rfl⟩
  go_wp2_with fail
  refine (H4.out _).mono ?_
  rintro e w3 ⟨rfl, hb3⟩
  have HB3 := hide (chain HB2.out hb3)
  clear hb3
  go_wp2_with fail
  refine (plain_yes (HE.out.below HB3.out) .nilIface 0 (bare_nil E)).mono ?_
  rintro e w4 ⟨rfl, hb4⟩
  go_wp2
  go_ret
  exact ⟨rfl, chain HB3.out hb4⟩

theorem law {E : Nat → Addr} (r o : Nat) (n : Int) (w : World) (he : Errs w E) (hr : r < 4294967296) (ho : o < 4294967296) (_hn0 : -9223372036854775808 ≤ n) (hn1 : n ≤ 9223372036854775807) :
    Calls Tryd.prog 3 #[.int .u32 (r : Int), .int .u32 (o : Int), .int .i64 n] w fun e w' => e = .returned (.bool true) ∧ Below w.heap.size w w' := by
  by_cases h : n < 0
  · exact law_bad he r o n h
  · obtain ⟨m, rfl⟩ := Int.eq_ofNat_of_zero_le (show 0 ≤ n by omega)
    exact law_good he r o m hr ho (by omega)
end Go.Proofs.YtfggpdddoaageaaDoor.crcShifts
