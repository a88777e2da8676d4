/-
  Bytes turned twice.
-/
import Derived.Test.YtdbciciljeainaaDoorTurnW
import Derived.Test.YtdbciciljeainaaDoorTold
namespace FerryCrc
theorem num_bit {l : List Nat} (h : ∀ c ∈ l, c < 256) (i j : Nat) (hj : j < 8) : (num l).testBit (8 * i + j) = (l[i]?.getD 0).testBit j := by
  induction l generalizing i with
  | nil => simp [num]
  | cons c l ih =>
    have hc : c < 256 := h c (by simp)
    rw [num, Nat.testBit_xor, Nat.testBit_shiftLeft]
    cases i with
    | zero =>
      have : ¬ (8 ≤ j) := by omega
      simp [this]
    | succ i =>
      rw [Nat.testBit_lt_two_pow (Nat.lt_of_lt_of_le (show c < 2 ^ 8 from hc) (Nat.pow_le_pow_right (by decide) (by omega)))]
      have e : 8 * (i + 1) + j - 8 = 8 * i + j := by omega
      rw [e, ih (fun c hc => h c (by simp [hc]))]
      have : 8 ≤ 8 * (i + 1) + j := by omega
      simp [this]
theorem num_inj {l r : List Nat} (hl : ∀ c ∈ l, c < 256) (hr : ∀ c ∈ r, c < 256) (hn : l.length = r.length) (h : num l = num r) : l = r := by
  apply List.ext_getElem? 
  intro i
  by_cases hi : i < l.length
  · have hi2 : i < r.length := by omega
    rw [List.getElem?_eq_getElem hi, List.getElem?_eq_getElem hi2]
    congr 1
    have l1 : l[i] < 256 := hl _ (List.getElem_mem hi)
    have l2 : r[i] < 256 := hr _ (List.getElem_mem hi2)
    apply Nat.eq_of_testBit_eq
    intro j
    by_cases hj : j < 8
    · have a := num_bit hl i j hj
      have b := num_bit hr i j hj
      rw [List.getElem?_eq_getElem hi] at a
      rw [List.getElem?_eq_getElem hi2] at b
      simp only [Option.getD_some] at a b
      rw [← a, ← b, h]
    · rw [Nat.testBit_lt_two_pow (Nat.lt_of_lt_of_le (show l[i] < 2 ^ 8 from l1) (Nat.pow_le_pow_right (by decide) (by omega))), Nat.testBit_lt_two_pow (Nat.lt_of_lt_of_le (show r[i] < 2 ^ 8 from l2) (Nat.pow_le_pow_right (by decide) (by omega)))]
  · rw [List.getElem?_eq_none (by omega), List.getElem?_eq_none (by omega)]
end FerryCrc
namespace Go.Proofs.YtdbciciljeainaaDoor
open Go.RowKit FerryCrc
theorem turn_num {l : List Nat} {pos mask len : Nat} (hl : l.length = len) (hm : mask < 4294967296) (hfit : pos + lenOf mask ≤ 8 * len) : num (turnTo l pos mask 32) = num l ^^^ (mask <<< pos) := by
  rw [num_turnTo l pos mask 32, Nat.mod_eq_of_lt (show mask < 2 ^ 32 from hm)]
  intro i _ hb
  have : i < lenOf mask := by
    apply Classical.byContradiction
    intro hn
    rw [Nat.testBit_lt_two_pow (Nat.lt_of_lt_of_le (lenOf_spec mask) (Nat.pow_le_pow_right (by decide) (by omega)))] at hb
    simp at hb
  omega
theorem turn_twice {l : List Nat} {pos mask len : Nat} (hl : l.length = len) (hs : ∀ c ∈ l, c < 256) (hm : mask < 4294967296) (hfit : pos + lenOf mask ≤ 8 * len) : turnTo (turnTo l pos mask 32) pos mask 32 = l := by
  have h1 : (turnTo l pos mask 32).length = len := by rw [turnTo_length, hl]
  apply num_inj (turnTo_small _ _ _ (turnTo_small _ _ _ hs)) hs (by rw [turnTo_length, h1, hl])
  rw [turn_num h1 hm hfit, turn_num hl hm hfit, Nat.xor_assoc, Nat.xor_self, Nat.xor_zero]
/-- What is turned is told. -/
theorem turn_told {l : List Nat} {pos mask len : Nat} (hl : l.length = len) (h4 : 4 ≤ len) (hs : ∀ c ∈ l, c < 256) (h0 : mask ≠ 0) (hm : mask < 4294967296) (hfit : pos + lenOf mask ≤ 8 * len) (hg : Good l) : ¬ Good (turnTo l pos mask 32) := by
  refine told (l := l) (pos := pos) (mask := mask) (by omega) hs (turnTo_small pos mask 32 hs) (by rw [turnTo_length]) ?_ h0 hm hg
  rw [turn_num hl hm hfit]
end Go.Proofs.YtdbciciljeainaaDoor
