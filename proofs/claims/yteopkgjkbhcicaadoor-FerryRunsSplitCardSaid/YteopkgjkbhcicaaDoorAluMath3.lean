/-
  More of the plain mathematics of words: fields and signs that are drawn out. No Go in it.
-/
import Derived.Test.YteopkgjkbhcicaaDoorAluMath2
namespace FerryAlu

/-- n bits of x from bit lo on. -/
def fld (x lo n : Nat) : Nat := x / 2 ^ lo % 2 ^ n
/-- x with v in the n bits from bit lo on. -/
def plc (x lo n v : Nat) : Nat := 2 ^ lo * (2 ^ n * (x / 2 ^ lo / 2 ^ n) + v) + x % 2 ^ lo

theorem two_pow_le {n : Nat} (h : n ≤ 32) : 2 ^ n ≤ 4294967296 := Nat.pow_le_pow_right (n := 2) (j := 32) (by decide) h
theorem fld_lt (x lo n : Nat) : fld x lo n < 2 ^ n := Nat.mod_lt _ (Nat.two_pow_pos n)
theorem fld_lt32 (x lo : Nat) {n : Nat} (h : n ≤ 32) : fld x lo n < 4294967296 := Nat.lt_of_lt_of_le (fld_lt x lo n) (two_pow_le h)
theorem plc_high (x lo n v : Nat) : plc x lo n v / 2 ^ lo = 2 ^ n * (x / 2 ^ lo / 2 ^ n) + v := by
  unfold plc
  rw [Nat.mul_add_div (Nat.two_pow_pos lo), Nat.div_eq_of_lt (Nat.mod_lt _ (Nat.two_pow_pos lo)), Nat.add_zero]
theorem plc_low (x lo n v : Nat) : plc x lo n v % 2 ^ lo = x % 2 ^ lo := by
  unfold plc
  rw [Nat.mul_add_mod, Nat.mod_mod]
theorem fld_plc {x lo n v : Nat} (hv : v < 2 ^ n) : fld (plc x lo n v) lo n = v := by
  unfold fld
  rw [plc_high, Nat.mul_add_mod, Nat.mod_eq_of_lt hv]
theorem plc_fld (x lo n : Nat) : plc x lo n (fld x lo n) = x := by
  unfold plc fld
  rw [Nat.div_add_mod, Nat.div_add_mod]
theorem plc_plc {x lo n v u : Nat} (hv : v < 2 ^ n) : plc (plc x lo n v) lo n u = plc x lo n u := by
  have e : plc x lo n v / 2 ^ lo / 2 ^ n = x / 2 ^ lo / 2 ^ n := by
    rw [plc_high, Nat.mul_add_div (Nat.two_pow_pos n), Nat.div_eq_of_lt hv, Nat.add_zero]
  rw [plc, e, plc_low]
  rfl
theorem plc_testBit {x lo n v : Nat} (hv : v < 2 ^ n) (i : Nat) : (plc x lo n v).testBit i = if i < lo then x.testBit i else if i < lo + n then v.testBit (i - lo) else x.testBit i := by
  unfold plc
  rw [Nat.testBit_two_pow_mul_add _ (Nat.mod_lt _ (Nat.two_pow_pos lo))]
  by_cases h : i < lo
  · rw [if_pos h, if_pos h, Nat.testBit_mod_two_pow]; simp [h]
  · rw [if_neg h, if_neg h, Nat.testBit_two_pow_mul_add _ hv]
    by_cases h2 : i < lo + n
    · rw [if_pos (by omega), if_pos h2]
    · rw [if_neg (by omega), if_neg h2, Nat.testBit_div_two_pow, Nat.testBit_div_two_pow]
      congr 1
      omega
theorem plc_lt {x lo n v : Nat} (hx : x < 4294967296) (hv : v < 2 ^ n) (h : lo + n ≤ 32) : plc x lo n v < 4294967296 := by
  apply Nat.lt_pow_two_of_testBit (n := 32)
  intro i hi
  rw [plc_testBit hv, if_neg (by omega), if_neg (by omega)]
  exact Nat.testBit_lt_two_pow (Nat.lt_of_lt_of_le hx (Nat.pow_le_pow_right (n := 2) (by decide) hi))
theorem or_place (x lo n v : Nat) (hv : v < 2 ^ n) : plc x lo n 0 ||| (v * 2 ^ lo) = plc x lo n v := by
  apply Nat.eq_of_testBit_eq
  intro i
  rw [Nat.testBit_or, plc_testBit hv, plc_testBit (Nat.two_pow_pos n), Nat.mul_comm, Nat.testBit_two_pow_mul]
  by_cases h : i < lo
  · simp [h, show ¬ lo ≤ i by omega]
  · by_cases h2 : i < lo + n
    · simp [h, h2, show lo ≤ i by omega]
    · have : v.testBit (i - lo) = false := Nat.testBit_lt_two_pow (Nat.lt_of_lt_of_le hv (Nat.pow_le_pow_right (by decide) (by omega)))
      simp [h, h2, this]
theorem and_place (x lo n v : Nat) (hv : v < 2 ^ n) : plc x lo n 0 &&& (v * 2 ^ lo) = 0 := by
  apply Nat.eq_of_testBit_eq
  intro i
  rw [Nat.testBit_and, plc_testBit (Nat.two_pow_pos n), Nat.mul_comm, Nat.testBit_two_pow_mul]
  by_cases h : i < lo
  · simp [h, show ¬ lo ≤ i by omega]
  · by_cases h2 : i < lo + n
    · simp [h, h2]
    · have : v.testBit (i - lo) = false := Nat.testBit_lt_two_pow (Nat.lt_of_lt_of_le hv (Nat.pow_le_pow_right (by decide) (by omega)))
      simp [this]
/-- The lowest n bits, the highest of them repeated above. -/
def sxt (x n : Nat) : Nat := un (sg (x * 2 ^ (32 - n) % 4294967296) / (2 ^ (32 - n) : Nat))
theorem pow_parts {n : Nat} (h1 : 1 ≤ n) (h2 : n ≤ 32) : 2 ^ (n - 1) * 2 ^ (32 - n) = 2147483648 ∧ 2 ^ n * 2 ^ (32 - n) = 4294967296 ∧ 2 ^ n = 2 * 2 ^ (n - 1) := by
  refine ⟨?_, ?_, ?_⟩
  · rw [← Nat.pow_add, show n - 1 + (32 - n) = 31 by omega]
  · rw [← Nat.pow_add, show n + (32 - n) = 32 by omega]
  · rw [← Nat.pow_succ', show (n - 1).succ = n by omega]
theorem sxt_small {x n : Nat} (h1 : 1 ≤ n) (h2 : n ≤ 32) (hx : x < 2 ^ n) : sxt x n = if x < 2 ^ (n - 1) then x else x + (4294967296 - 2 ^ n) := by
  obtain ⟨p1, p2, p3⟩ := pow_parts h1 h2
  have hs : 0 < 2 ^ (32 - n) := Nat.two_pow_pos _
  have hp : 0 < 2 ^ (n - 1) := Nat.two_pow_pos _
  have hle := two_pow_le h2
  have hlt : x * 2 ^ (32 - n) < 4294967296 := by rw [← p2]; exact Nat.mul_lt_mul_of_pos_right hx hs
  unfold sxt
  rw [Nat.mod_eq_of_lt hlt]
  by_cases h : x < 2 ^ (n - 1)
  · have hl : x * 2 ^ (32 - n) < 2147483648 := by rw [← p1]; exact Nat.mul_lt_mul_of_pos_right h hs
    rw [if_pos h, sg, if_pos hl, ← Int.natCast_ediv, Nat.mul_div_cancel _ hs, un_nat (by omega)]
  · have hl : ¬ x * 2 ^ (32 - n) < 2147483648 := by rw [← p1]; intro hc; exact h (Nat.lt_of_mul_lt_mul_right hc)
    rw [if_neg h, sg, if_neg hl]
    have e : ((x * 2 ^ (32 - n) : Nat) : Int) - 4294967296 = ((x : Int) - ((2 ^ n : Nat) : Int)) * ((2 ^ (32 - n) : Nat) : Int) := by
      rw [Int.sub_mul, ← Int.natCast_mul, ← Int.natCast_mul, p2]
      rfl
    rw [e, Int.mul_ediv_cancel _ (by omega)]
    unfold un
    omega
theorem sxt_lt (x n : Nat) : sxt x n < 4294967296 := un_lt _
theorem sxt_low {x n : Nat} (h1 : 1 ≤ n) (h2 : n ≤ 32) (hx : x < 2 ^ n) : fld (sxt x n) 0 n = x := by
  obtain ⟨p1, p2, p3⟩ := pow_parts h1 h2
  have hle := two_pow_le h2
  unfold fld
  rw [sxt_small h1 h2 hx, Nat.pow_zero, Nat.div_one]
  split
  · exact Nat.mod_eq_of_lt hx
  · obtain ⟨k, hk⟩ : ∃ k, 4294967296 - 2 ^ n = 2 ^ n * k := by
      refine ⟨2 ^ (32 - n) - 1, ?_⟩
      rw [Nat.mul_sub, p2, Nat.mul_one]
    rw [hk, Nat.add_mul_mod_self_left]
    exact Nat.mod_eq_of_lt hx
theorem sxt_sign {x n : Nat} (h1 : 1 ≤ n) (h2 : n ≤ 32) (hx : x < 2 ^ n) : sg (sxt x n) < 0 ↔ fld x (n - 1) 1 = 1 := by
  obtain ⟨p1, p2, p3⟩ := pow_parts h1 h2
  have hle := two_pow_le h2
  have hp : 0 < 2 ^ (n - 1) := Nat.two_pow_pos _
  unfold fld
  rw [sxt_small h1 h2 hx, Nat.pow_one]
  split
  · rename_i h
    rw [Nat.div_eq_of_lt h]
    unfold sg
    have : 2 ^ (n - 1) ≤ 2147483648 := Nat.pow_le_pow_right (n := 2) (j := 31) (by decide) (by omega)
    rw [if_pos (by omega)]
    omega
  · rename_i h
    have e : x / 2 ^ (n - 1) = 1 := by
      apply (Nat.div_eq_iff hp).2
      omega
    rw [e]
    have : 2 ^ n ≤ 4294967296 := hle
    have : 2 ^ (n - 1) ≤ 2147483648 := Nat.pow_le_pow_right (n := 2) (j := 31) (by decide) (by omega)
    unfold sg
    rw [if_neg (by omega)]
    omega
theorem mask_is {n : Nat} (h1 : n ≤ 32) : 4294967295 / 2 ^ (32 - n) = 2 ^ n - 1 := by
  have h : 2 ^ n * 2 ^ (32 - n) = 4294967296 := by rw [← Nat.pow_add, show n + (32 - n) = 32 by omega]
  have hs : 0 < 2 ^ (32 - n) := Nat.two_pow_pos _
  have hn : 0 < 2 ^ n := Nat.two_pow_pos _
  apply Nat.div_eq_of_lt_le
  · rw [Nat.sub_mul, h]; omega
  · rw [show 2 ^ n - 1 + 1 = 2 ^ n by omega, h]; decide
theorem field_is (x lo n : Nat) : (x / 2 ^ lo) &&& (2 ^ n - 1) = fld x lo n := by
  unfold fld
  rw [Nat.and_two_pow_sub_one_eq_mod]
theorem mask_bit (n lo i : Nat) : ((2 ^ n - 1) * 2 ^ lo).testBit i = (decide (lo ≤ i) && decide (i < lo + n)) := by
  rw [Nat.mul_comm, Nat.testBit_two_pow_mul, Nat.testBit_two_pow_sub_one]
  by_cases h : lo ≤ i
  · simp only [h, decide_true, Bool.true_and]
    congr 1
    apply propext
    omega
  · simp [h]
end FerryAlu
