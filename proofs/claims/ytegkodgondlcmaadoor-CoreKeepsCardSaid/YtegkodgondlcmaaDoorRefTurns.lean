/-
  Contracts of the document's Rotate, Ones and Lead, and where its DivWide refuses.
  Contracts of the document's Signed, Word, Sext, Field and Place.
-/
import Derived.Test.YtegkodgondlcmaaDoorRefMul
import Derived.Test.YtegkodgondlcmaaDoorRefRow
import Derived.Deep.WholeRow
namespace FerryAlu
theorem pop_next (k x : Nat) : pop (k + 1) x = pop k x + (x.testBit k).toNat := by
  have h1 := pop_cut k 1 x
  have h2 := pop_cut k 0 x
  rw [show pop 0 (x / 2 ^ k) = 0 from rfl, Nat.add_zero, Nat.add_zero] at h2
  rw [h1, ← h2, show pop 1 (x / 2 ^ k) = x / 2 ^ k % 2 from rfl, Nat.testBit_eq_decide_div_mod_eq]
  rcases Nat.mod_two_eq_zero_or_one (x / 2 ^ k) with h | h <;> simp [h]
/-- The bits that were turned so far. -/
def rtf (x j k : Nat) (i : Nat) : Bool := if (i + 32 - j) % 32 < k then x.testBit ((i + 32 - j) % 32) else false
theorem rot_bits {x j : Nat} (hx : x < 4294967296) (hj : j < 32) (i : Nat) (hi : i < 32) : rtf x j 32 i = (rot x j).testBit i := by
  unfold rtf rot
  rw [if_pos (Nat.mod_lt _ (by decide)), Nat.mul_comm, Nat.testBit_two_pow_mul_add _ (high_lt hx (by omega))]
  by_cases h : i < j
  · rw [if_pos h, Nat.testBit_div_two_pow]
    congr 1
    omega
  · rw [if_neg h, Nat.testBit_mod_two_pow, show (i + 32 - j) % 32 = i - j by omega]
    simp
    intro _
    omega
end FerryAlu
namespace Go.Proofs.YtegkodgondlcmaaDoor
open Go.RowKit FerryAlu
set_option linter.unusedVariables false

theorem refDiv_zero (hi lo : Nat) (w : World) :
    Calls Tryd.prog 75 #[.int .u32 (hi : Int), .int .u32 (lo : Int), .int .u32 0] w fun e w' => e = .returned (.tuple #[.int .u32 0, .int .u32 0, .int .i64 20]) ∧ w = w' := by
  go_enter Tryd.func75, Tryd.ntmps75
  go_wp2
  go_ret3
  exact ⟨rfl, rfl⟩
theorem refDiv_range (hi lo c : Nat) (w : World) (h0 : c ≠ 0) (h : c ≤ hi) :
    Calls Tryd.prog 75 #[.int .u32 (hi : Int), .int .u32 (lo : Int), .int .u32 (c : Int)] w fun e w' => e = .returned (.tuple #[.int .u32 0, .int .u32 0, .int .i64 4]) ∧ w = w' := by
  have c0 : ¬ c = 0 := h0
  have c1 : ((c : Int) == 0) = false := by simp; omega
  have c3 : decide (c ≤ hi) = true := by simp; omega
  clear h0
  go_enter Tryd.func75, Tryd.ntmps75
  go_wp2
  go_ret3
  exact ⟨rfl, rfl⟩

end Go.Proofs.YtegkodgondlcmaaDoor
namespace Go.Proofs.YtegkodgondlcmaaDoor
open Go.RowKit FerryAlu
set_option linter.unusedVariables false

theorem ret_w0 {a b c : Int} (h : a = b) : Ending.returned (.tuple #[.int .u32 a, .int .i64 c]) = .returned (.tuple #[.int .u32 b, .int .i64 c]) := by rw [h]

theorem refSigned_any (x : Nat) (w : World) (hx : x < 4294967296) :
    Calls Tryd.prog 61 #[.int .u32 (x : Int)] w fun e w' => e = .returned (.int .i64 (sg x)) ∧ w = w' := by
  by_cases h : x < 2147483648
  · have d : decide ((2147483648 : Int) ≤ (x : Int)) = false := by simp; omega
    have e1 : sg x = (x : Int) := by unfold sg; rw [if_pos h]
    go_enter Tryd.func61, Tryd.ntmps61
    go_wp2
    go_ret
    exact ⟨ret_int e1.symm, rfl⟩
  · have d : decide ((2147483648 : Int) ≤ (x : Int)) = true := by simp; omega
    have e1 : sg x = (x : Int) - 4294967296 := by unfold sg; rw [if_neg h]
    have e2 : wrap64 ((x : Int) - 4294967296) = (x : Int) - 4294967296 := by unfold wrap64; omega
    go_enter Tryd.func61, Tryd.ntmps61
    go_wp2
    go_ret
    exact ⟨ret_int e1.symm, rfl⟩

/-- The bits of a word with those from n to k - 1 set as bit p. -/
def sxf (x p k : Nat) (i : Nat) : Bool := if p + 1 ≤ i ∧ i < k then x.testBit p else x.testBit i

theorem sxt_bits (x p : Nat) (hp : p < 32) (i : Nat) (hi : i < 32) : sxf x p 32 i = (sxt x (p + 1)).testBit i := by
  have h1 : 1 ≤ p + 1 := by omega
  have h2 : p + 1 ≤ 32 := by omega
  obtain ⟨p1, p2, p3⟩ := pow_parts h1 h2
  have e0 : sxt x (p + 1) = sxt (x % 2 ^ (p + 1)) (p + 1) := by
    unfold sxt
    have h := Nat.mul_mod_mul_right (2 ^ (32 - (p + 1))) x (2 ^ (p + 1))
    rw [p2] at h
    rw [h, Nat.mod_eq_of_lt (a := x % 2 ^ (p + 1) * 2 ^ (32 - (p + 1)))]
    rw [← p2]
    exact Nat.mul_lt_mul_of_pos_right (Nat.mod_lt _ (Nat.two_pow_pos _)) (Nat.two_pow_pos _)
  have hy : x % 2 ^ (p + 1) < 2 ^ (p + 1) := Nat.mod_lt _ (Nat.two_pow_pos _)
  rw [e0, sxt_small h1 h2 hy]
  have hb : ∀ j, (x % 2 ^ (p + 1)).testBit j = (decide (j < p + 1) && x.testBit j) := fun j => Nat.testBit_mod_two_pow _ _ _
  have htop : x.testBit p = decide (2 ^ p ≤ x % 2 ^ (p + 1)) := by
    have h := hb p
    rw [show decide (p < p + 1) = true by simp, Bool.true_and] at h
    rw [← h, Nat.testBit_eq_decide_div_mod_eq]
    have hpos : 0 < 2 ^ p := Nat.two_pow_pos p
    rw [Nat.pow_succ] at hy ⊢
    generalize x % (2 ^ p * 2) = y at *
    by_cases hc : 2 ^ p ≤ y
    · rw [show y / 2 ^ p = 1 from Nat.div_eq_of_lt_le (by omega) (by omega)]
      simp [hc]
    · rw [Nat.div_eq_of_lt (by omega)]
      simp [hc]
  unfold sxf
  rw [htop, show p + 1 - 1 = p by omega]
  by_cases hc : x % 2 ^ (p + 1) < 2 ^ p
  · rw [if_pos hc, hb]
    by_cases h3 : p + 1 ≤ i ∧ i < 32
    · rw [if_pos h3]
      simp [show ¬ i < p + 1 by omega, show ¬ 2 ^ p ≤ x % 2 ^ (p + 1) by omega]
    · rw [if_neg h3]
      simp [show i < p + 1 by omega]
  · rw [if_neg hc]
    have e : x % 2 ^ (p + 1) + (4294967296 - 2 ^ (p + 1)) = 2 ^ (p + 1) * (2 ^ (32 - (p + 1)) - 1) + x % 2 ^ (p + 1) := by
      rw [Nat.mul_sub, p2, Nat.mul_one, Nat.add_comm]
    rw [e, Nat.testBit_two_pow_mul_add _ hy, hb, Nat.testBit_two_pow_sub_one]
    by_cases h3 : p + 1 ≤ i ∧ i < 32
    · rw [if_pos h3, if_neg (by omega)]
      simp [show 2 ^ p ≤ x % 2 ^ (p + 1) by omega]
      omega
    · rw [if_neg h3, if_pos (by omega)]
      simp [show i < p + 1 by omega]

/-- The first k of the bits of x from lo on. -/
def fdf (x lo k : Nat) (i : Nat) : Bool := if i < k then x.testBit (lo + i) else false

end Go.Proofs.YtegkodgondlcmaaDoor
