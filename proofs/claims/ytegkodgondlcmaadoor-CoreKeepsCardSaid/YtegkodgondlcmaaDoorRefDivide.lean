/-
  Contracts of the document's minus, magnitude and divide.
-/
import Derived.Test.YtegkodgondlcmaaDoorRefShl
namespace FerryAlu
/-- 0 - x. -/
def mn (x : Nat) : Nat := (0 + 8589934592 - x - Bool.toNat false) % 4294967296
theorem mn_lt (x : Nat) : mn x < 4294967296 := Nat.mod_lt _ (by decide)
theorem mn_un {q : Nat} (h : q < 4294967296) : mn q = un (-(q : Int)) := by unfold mn un; simp; omega
theorem mag_is {x : Nat} (hx : x < 4294967296) : (if sg x < 0 then mn x else x) = (sg x).natAbs := by
  unfold mn sg
  simp only [Bool.toNat_false]
  split <;> split <;> omega
theorem abs_le {x : Nat} (hx : x < 4294967296) : (sg x).natAbs ≤ 2147483648 := by
  have := sg_ge x
  have := sg_le hx
  omega
theorem tdiv_signs (B C : Int) : B.tdiv C = if decide (B < 0) = decide (C < 0) then ((B.natAbs / C.natAbs : Nat) : Int) else -((B.natAbs / C.natAbs : Nat) : Int) := by
  have pos : ∀ n m : Nat, (n : Int).tdiv (m : Int) = ((n / m : Nat) : Int) := fun n m => by rw [Int.tdiv_eq_ediv_of_nonneg (by omega), Int.natCast_ediv]
  by_cases h1 : B < 0 <;> by_cases h2 : C < 0
  · have e1 : B = -((B.natAbs : Nat) : Int) := by omega
    have e2 : C = -((C.natAbs : Nat) : Int) := by omega
    conv => lhs; rw [e1, e2]
    rw [Int.neg_tdiv, Int.tdiv_neg, Int.neg_neg, pos]
    simp [h1, h2]
  · have e1 : B = -((B.natAbs : Nat) : Int) := by omega
    have e2 : C = ((C.natAbs : Nat) : Int) := by omega
    conv => lhs; rw [e1, e2]
    rw [Int.neg_tdiv, pos]
    simp [h1, h2]
  · have e1 : B = ((B.natAbs : Nat) : Int) := by omega
    have e2 : C = -((C.natAbs : Nat) : Int) := by omega
    conv => lhs; rw [e1, e2]
    rw [Int.tdiv_neg, pos]
    simp [h1, h2]
  · have e1 : B = ((B.natAbs : Nat) : Int) := by omega
    have e2 : C = ((C.natAbs : Nat) : Int) := by omega
    conv => lhs; rw [e1, e2]
    rw [pos]
    simp [h1, h2]
theorem tmod_signs (B C : Int) : B.tmod C = if B < 0 then -((B.natAbs % C.natAbs : Nat) : Int) else ((B.natAbs % C.natAbs : Nat) : Int) := by
  have h := Int.natAbs_tmod B C
  by_cases h1 : B < 0
  · have h4 := Int.neg_tmod (a := B) (b := C)
    have h5 := Int.tmod_nonneg C (show 0 ≤ -B by omega)
    rw [if_pos h1, ← h]
    omega
  · have h5 := Int.tmod_nonneg C (show 0 ≤ B by omega)
    rw [if_neg h1, ← h]
    omega
end FerryAlu
namespace Go.Proofs.YtegkodgondlcmaaDoor
open Go.RowKit FerryAlu
set_option linter.unusedVariables false

theorem minus_any (x : Nat) (w : World) (hx : x < 4294967296) :
    Calls Tryd.prog 77 #[.int .u32 (x : Int)] w fun e w' => e = .returned (.int .u32 (mn x : Nat)) ∧ Below w.heap.size w w' := by
  have H := hide (refSub_any 0 x false w (by decide) hx)
  rw [show (0 + 8589934592 - x - Bool.toNat false) % 4294967296 = mn x from rfl] at H
  generalize mn x = r at *
  generalize decide (0 < x + Bool.toNat false) = q at *
  go_enter Tryd.func77, Tryd.ntmps77
  go_wp2_with fail
  refine Calls.mono H.out ?_
  rintro e w1 ⟨rfl, b1⟩
  go_wp2
  go_ret
  exact ⟨rfl, b1⟩
theorem magnitude_any (x : Nat) (w : World) (hx : x < 4294967296) :
    Calls Tryd.prog 76 #[.int .u32 (x : Int)] w fun e w' => e = .returned (.int .u32 ((sg x).natAbs : Nat)) ∧ Below w.heap.size w w' := by
  have HM := hide (minus_any x w hx)
  have HS := hide (refSigned_any x w hx)
  rw [← mag_is hx]
  by_cases h : sg x < 0
  · rw [if_pos h]
    have d : decide (sg x < 0) = true := by simp; omega
    generalize mn x = r at *
    generalize sg x = s at *
    go_enter Tryd.func76, Tryd.ntmps76
    go_wp2_with fail
    refine Calls.mono HS.out ?_
    rintro e w' ⟨rfl, rfl⟩
    go_wp2_with fail
    refine Calls.mono HM.out ?_
    rintro e w1 ⟨rfl, b1⟩
    go_wp2
    go_ret
    exact ⟨rfl, b1⟩
  · rw [if_neg h]
    have d : decide (sg x < 0) = false := by simp; omega
    generalize sg x = s at *
    go_enter Tryd.func76, Tryd.ntmps76
    go_wp2_with fail
    refine Calls.mono HS.out ?_
    rintro e w' ⟨rfl, rfl⟩
    go_wp2
    go_ret
    exact ⟨rfl, Below.refl _ _⟩

theorem divide_zero (op : Int) (b : Nat) (w : World) :
    Calls Tryd.prog 59 #[.int .i64 op, .int .u32 (b : Int), .int .u32 0] w fun e w' => e = .returned (.tuple #[.int .u32 0, .int .i64 20]) ∧ w = w' := by
  go_enter Tryd.func59, Tryd.ntmps59
  go_wp2
  go_ret2
  exact ⟨rfl, rfl⟩

theorem divide_10 (b c : Nat) (w : World) (hb : b < 4294967296) (hc : c < 4294967296) (h0 : c ≠ 0) :
    Calls Tryd.prog 59 #[.int .i64 10, .int .u32 (b : Int), .int .u32 (c : Int)] w fun e w' => e = .returned (.tuple #[.int .u32 (b / c : Nat), .int .i64 0]) ∧ Below w.heap.size w w' := by
  have H := hide (refDiv_any 0 b c w (by omega) hb hc)
  rw [Nat.zero_mul, Nat.zero_add] at H
  have c0 : ¬ c = 0 := h0
  have c1 : ((c : Int) == 0) = false := by simp; omega
  generalize b / c = q at *
  generalize b % c = r at *
  clear h0
  go_enter Tryd.func59, Tryd.ntmps59
  go_wp2_with fail
  refine Calls.mono H.out ?_
  rintro e w1 ⟨rfl, b1⟩
  go_wp2
  go_ret2
  exact ⟨rfl, b1⟩

theorem divide_12 (b c : Nat) (w : World) (hb : b < 4294967296) (hc : c < 4294967296) (h0 : c ≠ 0) :
    Calls Tryd.prog 59 #[.int .i64 12, .int .u32 (b : Int), .int .u32 (c : Int)] w fun e w' => e = .returned (.tuple #[.int .u32 (b % c : Nat), .int .i64 0]) ∧ Below w.heap.size w w' := by
  have H := hide (refDiv_any 0 b c w (by omega) hb hc)
  rw [Nat.zero_mul, Nat.zero_add] at H
  have c0 : ¬ c = 0 := h0
  have c1 : ((c : Int) == 0) = false := by simp; omega
  generalize b / c = q at *
  generalize b % c = r at *
  clear h0
  go_enter Tryd.func59, Tryd.ntmps59
  go_wp2_with fail
  refine Calls.mono H.out ?_
  rintro e w1 ⟨rfl, b1⟩
  go_wp2
  go_ret2
  exact ⟨rfl, b1⟩

set_option maxRecDepth 100000 in
set_option maxHeartbeats 400000 in
theorem divide_13 (b c : Nat) (w : World) (hb : b < 4294967296) (hc : c < 4294967296) (h0 : c ≠ 0) :
    Calls Tryd.prog 59 #[.int .i64 13, .int .u32 (b : Int), .int .u32 (c : Int)] w fun e w' => e = .returned (.tuple #[.int .u32 (un ((sg b).tmod (sg c)) : Nat), .int .i64 0]) ∧ Below w.heap.size w w' := by
  have lb := abs_le hb
  have lc := abs_le hc
  have zc : sg c ≠ 0 := fun h => h0 ((sg_zero hc).1 h)
  have H := hide (fun w => refDiv_any 0 (sg b).natAbs (sg c).natAbs w (by omega) (by omega) (by omega))
  rw [Nat.zero_mul, Nat.zero_add] at H
  have HB := hide (fun w => magnitude_any b w hb)
  have HC := hide (fun w => magnitude_any c w hc)
  have HS := hide (fun w => refSigned_any b w hb)
  have hr : (sg b).natAbs % (sg c).natAbs < 4294967296 := Nat.lt_of_le_of_lt (Nat.mod_le _ _) (by omega)
  have HM := hide (fun w => minus_any ((sg b).natAbs % (sg c).natAbs) w hr)
  have c0 : ¬ c = 0 := h0
  have c1 : ((c : Int) == 0) = false := by simp; omega
  rw [tmod_signs]
  rw [mn_un hr] at HM
  have B0 := hide (Below.refl w.heap.size w)
  by_cases h : sg b < 0
  · rw [if_pos h]
    have d : decide (sg b < 0) = true := by simp; omega
    generalize (sg b).natAbs / (sg c).natAbs = q at *
    generalize (sg b).natAbs % (sg c).natAbs = r at *
    generalize (sg b).natAbs = mb at *
    generalize (sg c).natAbs = mc at *
    generalize sg b = sb at *
    generalize un (-(r : Int)) = ur at *
    clear h0 lb lc zc hr
    go_enter Tryd.func59, Tryd.ntmps59
    go_wp2_with fail
    refine Calls.mono (HB.out _) ?_
    rintro e w1 ⟨rfl, b⟩
    have Bw1 := hide (chain B0.out b)
    clear b
    go_wp2_with fail
    refine Calls.mono (HC.out _) ?_
    rintro e w2 ⟨rfl, b⟩
    have Bw2 := hide (chain Bw1.out b)
    clear b
    go_wp2_with fail
    refine Calls.mono (H.out _) ?_
    rintro e w3 ⟨rfl, b⟩
    have Bw3 := hide (chain Bw2.out b)
    clear b
    go_wp2_with fail
    refine Calls.mono (HS.out _) ?_
    rintro e w' ⟨rfl, rfl⟩
    go_wp2_with fail
    refine Calls.mono (HM.out _) ?_
    rintro e w4 ⟨rfl, b⟩
    have Bw4 := hide (chain Bw3.out b)
    clear b
    go_wp2
    go_ret2
    exact ⟨rfl, Bw4.out⟩
  · rw [if_neg h]
    have d : decide (sg b < 0) = false := by simp; omega
    rw [un_nat hr]
    generalize (sg b).natAbs / (sg c).natAbs = q at *
    generalize (sg b).natAbs % (sg c).natAbs = r at *
    generalize (sg b).natAbs = mb at *
    generalize (sg c).natAbs = mc at *
    generalize sg b = sb at *
    clear h0 lb lc zc hr
    go_enter Tryd.func59, Tryd.ntmps59
    go_wp2_with fail
    refine Calls.mono (HB.out _) ?_
    rintro e w1 ⟨rfl, b⟩
    have Bw1 := hide (chain B0.out b)
    clear b
    go_wp2_with fail
    refine Calls.mono (HC.out _) ?_
    rintro e w2 ⟨rfl, b⟩
    have Bw2 := hide (chain Bw1.out b)
    clear b
    go_wp2_with fail
    refine Calls.mono (H.out _) ?_
    rintro e w3 ⟨rfl, b⟩
    have Bw3 := hide (chain Bw2.out b)
    clear b
    go_wp2_with fail
    refine Calls.mono (HS.out _) ?_
    rintro e w' ⟨rfl, rfl⟩
    go_wp2
    go_ret2
    exact ⟨rfl, Bw3.out⟩

set_option maxRecDepth 100000 in
set_option maxHeartbeats 400000 in
theorem divide_11 (b c : Nat) (w : World) (hb : b < 4294967296) (hc : c < 4294967296) (h0 : c ≠ 0) :
    Calls Tryd.prog 59 #[.int .i64 11, .int .u32 (b : Int), .int .u32 (c : Int)] w fun e w' => e = .returned (.tuple #[.int .u32 (un ((sg b).tdiv (sg c)) : Nat), .int .i64 0]) ∧ Below w.heap.size w w' := by
  have lb := abs_le hb
  have lc := abs_le hc
  have zc : sg c ≠ 0 := fun h => h0 ((sg_zero hc).1 h)
  have H := hide (fun w => refDiv_any 0 (sg b).natAbs (sg c).natAbs w (by omega) (by omega) (by omega))
  rw [Nat.zero_mul, Nat.zero_add] at H
  have HB := hide (fun w => magnitude_any b w hb)
  have HC := hide (fun w => magnitude_any c w hc)
  have HS := hide (fun w => refSigned_any b w hb)
  have HT := hide (fun w => refSigned_any c w hc)
  have hr : (sg b).natAbs / (sg c).natAbs < 4294967296 := Nat.lt_of_le_of_lt (Nat.div_le_self _ _) (by omega)
  have HM := hide (fun w => minus_any ((sg b).natAbs / (sg c).natAbs) w hr)
  have c0 : ¬ c = 0 := h0
  have c1 : ((c : Int) == 0) = false := by simp; omega
  rw [tdiv_signs]
  rw [mn_un hr] at HM
  have B0 := hide (Below.refl w.heap.size w)
  by_cases h : decide (sg b < 0) = decide (sg c < 0)
  · rw [if_pos h, un_nat hr]
    generalize (sg b).natAbs / (sg c).natAbs = q at *
    generalize (sg b).natAbs % (sg c).natAbs = r at *
    generalize (sg b).natAbs = mb at *
    generalize (sg c).natAbs = mc at *
    generalize sg b = sb at *
    generalize sg c = sc at *
    clear h0 lb lc zc hr
    go_enter Tryd.func59, Tryd.ntmps59
    go_wp2_with fail
    refine Calls.mono (HB.out _) ?_
    rintro e w1 ⟨rfl, b⟩
    have Bw1 := hide (chain B0.out b)
    clear b
    go_wp2_with fail
    refine Calls.mono (HC.out _) ?_
    rintro e w2 ⟨rfl, b⟩
    have Bw2 := hide (chain Bw1.out b)
    clear b
    go_wp2_with fail
    refine Calls.mono (H.out _) ?_
    rintro e w3 ⟨rfl, b⟩
    have Bw3 := hide (chain Bw2.out b)
    clear b
    go_wp2_with fail
    refine Calls.mono (HS.out _) ?_
    rintro e w' ⟨rfl, rfl⟩
    go_wp2_with fail
    refine Calls.mono (HT.out _) ?_
    rintro e w' ⟨rfl, rfl⟩
    go_wp2
    go_ret2
    exact ⟨rfl, Bw3.out⟩
  · rw [if_neg h]
    generalize (sg b).natAbs / (sg c).natAbs = q at *
    generalize (sg b).natAbs % (sg c).natAbs = r at *
    generalize (sg b).natAbs = mb at *
    generalize (sg c).natAbs = mc at *
    generalize sg b = sb at *
    generalize sg c = sc at *
    generalize un (-(q : Int)) = uq at *
    clear h0 lb lc zc hr
    have h2 : (!(decide (sb < 0) == decide (sc < 0))) = true := by simpa using h
    clear h
    go_enter Tryd.func59, Tryd.ntmps59
    go_wp2_with fail
    refine Calls.mono (HB.out _) ?_
    rintro e w1 ⟨rfl, b⟩
    have Bw1 := hide (chain B0.out b)
    clear b
    go_wp2_with fail
    refine Calls.mono (HC.out _) ?_
    rintro e w2 ⟨rfl, b⟩
    have Bw2 := hide (chain Bw1.out b)
    clear b
    go_wp2_with fail
    refine Calls.mono (H.out _) ?_
    rintro e w3 ⟨rfl, b⟩
    have Bw3 := hide (chain Bw2.out b)
    clear b
    go_wp2_with fail
    refine Calls.mono (HS.out _) ?_
    rintro e w' ⟨rfl, rfl⟩
    go_wp2_with fail
    refine Calls.mono (HT.out _) ?_
    rintro e w' ⟨rfl, rfl⟩
    go_wp2_with fail
    refine Calls.mono (HM.out _) ?_
    rintro e w4 ⟨rfl, b⟩
    have Bw4 := hide (chain Bw3.out b)
    clear b
    go_wp2
    go_ret2
    exact ⟨rfl, Bw4.out⟩
end Go.Proofs.YtegkodgondlcmaaDoor
