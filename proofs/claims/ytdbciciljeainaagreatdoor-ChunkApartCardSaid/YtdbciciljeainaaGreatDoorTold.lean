/-
  The mathematics of sealed bytes: bytes whose last four are their sum, as one equation on one number; one burst in them is told.
-/
import Derived.Test.YtdbciciljeainaaGreatDoorSeal
namespace FerryCrc

theorem num_append (l m : List Nat) : num (l ++ m) = num l ^^^ (num m <<< (8 * l.length)) := by
  induction l with
  | nil => simp [num]
  | cons c l ih =>
    rw [List.cons_append, num, ih, num, Nat.shiftLeft_xor_distrib, Nat.xor_assoc, ← Nat.shiftLeft_add, List.length_cons, show 8 * l.length + 8 = 8 * (l.length + 1) by omega]

theorem xor_low {a m : Nat} (h : a < 256) : a ^^^ (m <<< 8) = a + 256 * m := by
  apply Nat.eq_of_testBit_eq
  intro i
  rw [Nat.testBit_xor, Nat.testBit_shiftLeft, Nat.add_comm, show (256 : Nat) = 2 ^ 8 by decide, Nat.testBit_two_pow_mul_add _ h]
  by_cases hi : i < 8
  · simp [hi, show ¬ 8 ≤ i by omega]
  · have ha : a.testBit i = false := Nat.testBit_lt_two_pow (Nat.lt_of_lt_of_le h (by
      have : 2 ^ 8 ≤ 2 ^ i := Nat.pow_le_pow_right (by decide) (by omega)
      simpa using this))
    simp [hi, show 8 ≤ i by omega, ha]

theorem num_four {l : List Nat} (hl : l.length = 4) (hs : ∀ c ∈ l, c < 256) : num l = num4 l := by
  match l, hl with
  | [a, b, c, d], _ =>
    simp at hs
    simp only [num, num4]
    rw [Nat.zero_shiftLeft, Nat.xor_zero, xor_low hs.2.2.1, xor_low hs.2.1, xor_low hs.1]
    simp
    omega

theorem xor_move {a b c : Nat} : a ^^^ b = c ↔ a ^^^ c = b := by
  constructor
  · intro h; rw [← h, ← Nat.xor_assoc, Nat.xor_self, Nat.zero_xor]
  · intro h; rw [← h, ← Nat.xor_assoc, Nat.xor_self, Nat.zero_xor]

/-- Bytes are sealed just if their number, moved on by all bits but the last 32, is all ones. -/
theorem good_iff {l : List Nat} (h4 : 4 ≤ l.length) (hs : ∀ c ∈ l, c < 256) :
    (sumOf (l.take (l.length - 4)) = num4 (l.drop (l.length - 4))) ↔ bitsN (8 * (l.length - 4)) (4294967295 ^^^ num l) = 4294967295 := by
  have hd : (l.drop (l.length - 4)).length = 4 := by rw [List.length_drop]; omega
  have ht : (l.take (l.length - 4)).length = l.length - 4 := by rw [List.length_take]; omega
  have e : num l = num (l.take (l.length - 4)) ^^^ (num (l.drop (l.length - 4)) <<< (8 * (l.length - 4))) := by
    have := num_append (l.take (l.length - 4)) (l.drop (l.length - 4))
    rw [List.take_append_drop, ht] at this
    exact this
  rw [← num_four hd (fun c hc => hs c (List.mem_of_mem_drop hc)), e, ← Nat.xor_assoc, bitsN_xor, bitsN_shift]
  unfold sumOf
  rw [mvs_num, ht, xor_move]

theorem seal_good {l : List Nat} (hs : ∀ c ∈ l, c < 256) : sumOf ((sealOf l).take ((sealOf l).length - 4)) = num4 ((sealOf l).drop ((sealOf l).length - 4)) := by
  rw [sealOf_length, show l.length + 4 - 4 = l.length by omega]
  unfold sealOf
  rw [List.take_left, List.drop_left, num4_le4 (sumOf_lt hs)]

theorem told {l t : List Nat} {pos mask : Nat} (h4 : 4 ≤ l.length) (hs : ∀ c ∈ l, c < 256) (hts : ∀ c ∈ t, c < 256) (hl : t.length = l.length) (hn : num t = num l ^^^ (mask <<< pos)) (h0 : mask ≠ 0) (hm : mask < 4294967296)
    (hg : sumOf (l.take (l.length - 4)) = num4 (l.drop (l.length - 4))) : ¬ sumOf (t.take (t.length - 4)) = num4 (t.drop (t.length - 4)) := by
  intro hg2
  rw [good_iff h4 hs] at hg
  rw [good_iff (by omega) hts, hl, hn, ← Nat.xor_assoc, bitsN_xor, hg] at hg2
  have e2 : bitsN (8 * (l.length - 4)) (mask <<< pos) = 0 := by
    have := congrArg (fun x => 4294967295 ^^^ x) hg2
    simp only [← Nat.xor_assoc, Nat.xor_self, Nat.zero_xor] at this
    exact this
  by_cases hp : pos ≤ 8 * (l.length - 4)
  · rw [show 8 * (l.length - 4) = pos + (8 * (l.length - 4) - pos) by omega, bitsN_add, bitsN_shift] at e2
    exact h0 (bitsN_zero hm e2)
  · rw [show pos = (pos - 8 * (l.length - 4)) + 8 * (l.length - 4) by omega, Nat.shiftLeft_add, bitsN_shift, Nat.shiftLeft_eq] at e2
    have hpw : 0 < 2 ^ (pos - 8 * (l.length - 4)) := Nat.two_pow_pos _
    rcases Nat.mul_eq_zero.1 e2 with h | h
    · exact h0 h
    · omega
end FerryCrc
