/-
  Numbers: single bits of an int of 64 bits, bytes as a number.
-/
import Derived.Test.YtbekdbgnpcbklaaDoorTiny
import Derived.Laws.BitsLemmas
namespace Go.Proofs.YtbekdbgnpcbklaaDoor
open Go.RowKit FerryCrc

/-- Is bit k of the number 1? -/
def rbit (r : Int) (k : Nat) : Bool := decide (r / 2 ^ k % 2 = 1)

theorem and_key (r : Int) (k : Nat) (hk : k < 63) : (BitVec.ofInt 64 r &&& BitVec.ofInt 64 ((2 ^ k : Nat) : Int)).toNat = (r % ((2 ^ 64 : Nat) : Int)).toNat / 2 ^ k % 2 * 2 ^ k := by
  have h2 : (BitVec.ofInt 64 ((2 ^ k : Nat) : Int)).toNat = 2 ^ k := by
    rw [BitVec.ofInt_natCast, BitVec.toNat_ofNat]
    exact Nat.mod_eq_of_lt (Nat.pow_lt_pow_right (by decide) (by omega))
  rw [BitVec.toNat_and, BitVec.toNat_ofInt, h2, nat_bit]
theorem i64_and1 (r : Int) : bits .and .i64 r 1 = r % 2 := by
  have key := and_key r 0 (by decide)
  show IntKind.i64.wrap ((BitVec.ofInt 64 r &&& BitVec.ofInt 64 1).toNat : Nat) = _
  rw [show ((2 ^ 0 : Nat) : Int) = 1 from rfl] at key
  rw [key, IntKind.wrap_i64]
  omega
theorem i64_and2 (r : Int) : bits .and .i64 r 2 = r / 2 % 2 * 2 := by
  have key := and_key r 1 (by decide)
  show IntKind.i64.wrap ((BitVec.ofInt 64 r &&& BitVec.ofInt 64 2).toNat : Nat) = _
  rw [show ((2 ^ 1 : Nat) : Int) = 2 from rfl] at key
  rw [key, IntKind.wrap_i64]
  omega
theorem i64_and4 (r : Int) : bits .and .i64 r 4 = r / 4 % 2 * 4 := by
  have key := and_key r 2 (by decide)
  show IntKind.i64.wrap ((BitVec.ofInt 64 r &&& BitVec.ofInt 64 4).toNat : Nat) = _
  rw [show ((2 ^ 2 : Nat) : Int) = 4 from rfl] at key
  rw [key, IntKind.wrap_i64]
  omega
theorem nat_or1 (x : Nat) : x ||| 1 = x / 2 * 2 + 1 := by
  have h : x / 2 * 2 ||| 1 = x / 2 * 2 + 1 := nat_join 1 (x / 2 * 2) 1 (by omega) (by decide)
  rcases Nat.mod_two_eq_zero_or_one x with e | e
  · rw [← h, show x / 2 * 2 = x by omega]
  · have h3 : x = x / 2 * 2 ||| 1 := by omega
    conv => lhs; rw [h3]
    rw [Nat.or_assoc, show (1 ||| 1 : Nat) = 1 from rfl, h]
theorem i64_or1 (r : Int) (h1 : -9223372036854775808 ≤ r) (h2 : r ≤ 9223372036854775807) : bits .or .i64 r 1 = r / 2 * 2 + 1 := by
  have key : (BitVec.ofInt 64 r ||| BitVec.ofInt 64 1).toNat = (r % ((2 ^ 64 : Nat) : Int)).toNat / 2 * 2 + 1 := by
    rw [BitVec.toNat_or, BitVec.toNat_ofInt, show (BitVec.ofInt 64 1).toNat = 1 by decide, nat_or1]
  show IntKind.i64.wrap ((BitVec.ofInt 64 r ||| BitVec.ofInt 64 1).toNat : Nat) = _
  rw [key, IntKind.wrap_i64]
  omega

/-- The number that bytes write, the first the highest. -/
def num (l : List Nat) : Nat := l.foldl (fun v c => v * 256 + c) 0
theorem num_snoc (l : List Nat) (c : Nat) : num (l ++ [c]) = num l * 256 + c := by simp [num]
theorem num_from : ∀ (l : List Nat) (v : Nat), (∀ c ∈ l, c < 256) → l.foldl (fun v c => v * 256 + c) v < (v + 1) * 256 ^ l.length := by
  intro l
  induction l with
  | nil => intro v _; simp
  | cons c l ih =>
    intro v h
    have h1 := ih (v * 256 + c) (fun x hx => h x (by simp [hx]))
    have h2 := h c (by simp)
    rw [List.foldl_cons, List.length_cons, Nat.pow_succ]
    refine Nat.lt_of_lt_of_le h1 ?_
    rw [Nat.mul_comm (256 ^ l.length) 256, ← Nat.mul_assoc]
    exact Nat.mul_le_mul_right _ (by omega)
theorem num_lt (l : List Nat) (h : ∀ c ∈ l, c < 256) : num l < 256 ^ l.length := by
  have := num_from l 0 h
  simpa [num] using this
end Go.Proofs.YtbekdbgnpcbklaaDoor
