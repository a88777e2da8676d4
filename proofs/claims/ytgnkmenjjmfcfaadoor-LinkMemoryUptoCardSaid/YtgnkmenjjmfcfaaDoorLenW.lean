/-
  Contracts of math/bits' Len8 and Len32.
-/
import Derived.Test.YtgnkmenjjmfcfaaDoorBase
namespace FerryCrc
/-- How many bits a number takes. -/
def lenOf (x : Nat) : Nat := if x = 0 then 0 else Nat.log2 x + 1
theorem lenOf_spec (x : Nat) : x < 2 ^ lenOf x := by
  unfold lenOf
  split
  · next h => subst h; decide
  · exact Nat.lt_log2_self
theorem lenOf_top {x : Nat} (h : x ≠ 0) : x.testBit (lenOf x - 1) = true := by
  unfold lenOf
  rw [if_neg h, Nat.add_sub_cancel]
  have h1 := Nat.log2_self_le h
  have h2 : x < 2 ^ (Nat.log2 x + 1) := Nat.lt_log2_self
  rw [Nat.testBit_eq_decide_div_mod_eq, decide_eq_true_iff]
  have : x / 2 ^ Nat.log2 x = 1 := by
    apply Nat.div_eq_of_lt_le
    · rw [Nat.one_mul]; exact h1
    · rw [Nat.pow_succ] at h2; omega
  rw [this]
theorem lenOf_uniq {x n : Nat} (h1 : 2 ^ n ≤ x) (h2 : x < 2 ^ (n + 1)) : lenOf x = n + 1 := by
  have h0 : x ≠ 0 := by have := Nat.two_pow_pos n; omega
  unfold lenOf
  rw [if_neg h0, (Nat.log2_eq_iff h0).2 ⟨h1, h2⟩]
theorem lenOf_shift {x k : Nat} (h : 2 ^ k ≤ x) : lenOf x = k + lenOf (x / 2 ^ k) := by
  have hq : x / 2 ^ k ≠ 0 := by
    have := Nat.div_pos h (Nat.two_pow_pos k)
    omega
  have a := Nat.log2_self_le hq
  have b : x / 2 ^ k < 2 ^ (Nat.log2 (x / 2 ^ k) + 1) := Nat.lt_log2_self
  have e : lenOf (x / 2 ^ k) = Nat.log2 (x / 2 ^ k) + 1 := by unfold lenOf; rw [if_neg hq]
  rw [e]
  generalize Nat.log2 (x / 2 ^ k) = m at a b
  rw [lenOf_uniq (n := k + m)]
  · omega
  · rw [Nat.pow_add, Nat.mul_comm]
    exact (Nat.le_div_iff_mul_le (Nat.two_pow_pos k)).1 a
  · rw [Nat.add_assoc, Nat.pow_add, Nat.mul_comm]
    exact (Nat.div_lt_iff_lt_mul (Nat.two_pow_pos k)).1 b
theorem lenOf_le {x k : Nat} (h : x < 2 ^ k) : lenOf x ≤ k := by
  unfold lenOf
  split
  · omega
  · next h0 =>
    have := Nat.log2_self_le h0
    have : 2 ^ Nat.log2 x < 2 ^ k := by omega
    have := (Nat.pow_lt_pow_iff_right (by decide : 1 < 2)).1 this
    omega
def lenTab : ByteArray := ⟨#[0, 1, 2, 2, 3, 3, 3, 3, 4, 4, 4, 4, 4, 4, 4, 4, 5, 5, 5, 5, 5, 5, 5, 5, 5, 5, 5, 5, 5, 5, 5, 5, 6, 6, 6, 6, 6, 6, 6, 6, 6, 6, 6, 6, 6, 6, 6, 6, 6, 6, 6, 6, 6, 6, 6, 6, 6, 6, 6, 6, 6, 6, 6, 6, 7, 7, 7, 7, 7, 7, 7, 7, 7, 7, 7, 7, 7, 7, 7, 7, 7, 7, 7, 7, 7, 7, 7, 7, 7, 7, 7, 7, 7, 7, 7, 7, 7, 7, 7, 7, 7, 7, 7, 7, 7, 7, 7, 7, 7, 7, 7, 7, 7, 7, 7, 7, 7, 7, 7, 7, 7, 7, 7, 7, 7, 7, 7, 7, 8, 8, 8, 8, 8, 8, 8, 8, 8, 8, 8, 8, 8, 8, 8, 8, 8, 8, 8, 8, 8, 8, 8, 8, 8, 8, 8, 8, 8, 8, 8, 8, 8, 8, 8, 8, 8, 8, 8, 8, 8, 8, 8, 8, 8, 8, 8, 8, 8, 8, 8, 8, 8, 8, 8, 8, 8, 8, 8, 8, 8, 8, 8, 8, 8, 8, 8, 8, 8, 8, 8, 8, 8, 8, 8, 8, 8, 8, 8, 8, 8, 8, 8, 8, 8, 8, 8, 8, 8, 8, 8, 8, 8, 8, 8, 8, 8, 8, 8, 8, 8, 8, 8, 8, 8, 8, 8, 8, 8, 8, 8, 8, 8, 8, 8, 8, 8, 8, 8, 8, 8, 8, 8, 8, 8, 8, 8, 8]⟩
theorem lenTab_size : lenTab.size = 256 := by decide +kernel
theorem lenTab_at : ∀ x : Fin 256, (lenTab[x.1]'(by rw [lenTab_size]; exact x.2)).toNat = lenOf x.1 := by decide +kernel
end FerryCrc
namespace Go.Proofs.YtgnkmenjjmfcfaaDoor
open Go.RowKit FerryCrc

theorem wrap_little {n : Nat} (h : n ≤ 4611686018427387904) : wrap64 (n : Int) = (n : Int) := by
  rw [← IntWalk.i64_left, IntKind.wrap_i64]
  omega

set_option maxRecDepth 100000 in
theorem len32_any (x : Nat) (w : World) (hx : x < 4294967296) :
    Calls Tryd.prog 42 #[.int .u32 (x : Int)] w fun e w' => e = .returned (.int .i64 (lenOf x : Int)) ∧ w = w' := by
  by_cases hA : x < 256
  · have d1 : decide ((65536 : Int) ≤ (x : Int)) = false := by simp; omega
    have d2 : decide ((256 : Int) ≤ (x : Int)) = false := by simp; omega
    have d3 : (x : Int) % 256 = (x : Int) := by omega
    have HT := hide (lenTab_at ⟨x, hA⟩)
    have HL := hide (lenOf_le (x := x) (k := 8) hA)
    go_enter Tryd.func42, Tryd.ntmps42
    go_wp2
    go_ret
    refine ⟨?_, rfl⟩
    have h1 := HL.out
    refine congrArg (fun n : Int => Ending.returned (Value.int .i64 n)) ((congrArg (fun n : Nat => wrap64 (wrap64 (n : Int))) HT.out).trans ?_)
    show wrap64 (wrap64 (lenOf x : Int)) = (lenOf x : Int)
    rw [wrap_little (by omega), wrap_little (by omega)]
  · by_cases hB : x < 65536
    · obtain ⟨y, hy⟩ : ∃ y, y = x / 256 := ⟨_, rfl⟩
      have hy8 : y < 256 := by omega
      have HE : Hid (lenOf x = 8 + lenOf y) := by unfold Hid; rw [hy]; exact lenOf_shift (k := 8) (by omega)
      have d1 : decide ((65536 : Int) ≤ (x : Int)) = false := by simp; omega
      have d2 : decide ((256 : Int) ≤ (x : Int)) = true := by simp; omega
      have e1 : (x : Int) / 256 = (y : Int) := by omega
      have d3 : (y : Int) % 256 = (y : Int) := by omega
      clear hy
      have HT := hide (lenTab_at ⟨y, hy8⟩)
      have HL := hide (lenOf_le (x := y) (k := 8) hy8)
      go_enter Tryd.func42, Tryd.ntmps42
      go_wp2
      go_ret
      refine ⟨?_, rfl⟩
      have h1 := HL.out
      refine congrArg (fun n : Int => Ending.returned (Value.int .i64 n)) ((congrArg (fun n : Nat => wrap64 (8 + wrap64 (n : Int))) HT.out).trans ?_)
      show wrap64 (8 + wrap64 (lenOf y : Int)) = (lenOf x : Int)
      rw [HE.out, wrap_little (by omega)]
      exact wrap_little (n := 8 + lenOf y) (by omega)
    · obtain ⟨y, hy⟩ : ∃ y, y = x / 65536 := ⟨_, rfl⟩
      have HE : Hid (lenOf x = 16 + lenOf y) := by unfold Hid; rw [hy]; exact lenOf_shift (k := 16) (by omega)
      have d1 : decide ((65536 : Int) ≤ (x : Int)) = true := by simp; omega
      have e1 : (x : Int) / 65536 = (y : Int) := by omega
      have hy16 : y < 65536 := by omega
      clear hy
      by_cases hC : y < 256
      · have d2 : decide ((256 : Int) ≤ (y : Int)) = false := by simp; omega
        have d3 : (y : Int) % 256 = (y : Int) := by omega
        have HT := hide (lenTab_at ⟨y, hC⟩)
        have HL := hide (lenOf_le (x := y) (k := 8) hC)
        go_enter Tryd.func42, Tryd.ntmps42
        go_wp2
        go_ret
        refine ⟨?_, rfl⟩
        have h1 := HL.out
        refine congrArg (fun n : Int => Ending.returned (Value.int .i64 n)) ((congrArg (fun n : Nat => wrap64 (16 + wrap64 (n : Int))) HT.out).trans ?_)
        show wrap64 (16 + wrap64 (lenOf y : Int)) = (lenOf x : Int)
        rw [HE.out, wrap_little (by omega)]
        exact wrap_little (n := 16 + lenOf y) (by omega)
      · obtain ⟨z, hz⟩ : ∃ z, z = y / 256 := ⟨_, rfl⟩
        have hz8 : z < 256 := by omega
        have HF : Hid (lenOf y = 8 + lenOf z) := by unfold Hid; rw [hz]; exact lenOf_shift (k := 8) (by omega)
        have d2 : decide ((256 : Int) ≤ (y : Int)) = true := by simp; omega
        have e2 : (y : Int) / 256 = (z : Int) := by omega
        have d3 : (z : Int) % 256 = (z : Int) := by omega
        clear hz
        have HT := hide (lenTab_at ⟨z, hz8⟩)
        have HL := hide (lenOf_le (x := z) (k := 8) hz8)
        go_enter Tryd.func42, Tryd.ntmps42
        go_wp2
        go_ret
        refine ⟨?_, rfl⟩
        have h1 := HL.out
        refine congrArg (fun n : Int => Ending.returned (Value.int .i64 n)) ((congrArg (fun n : Nat => wrap64 (24 + wrap64 (n : Int))) HT.out).trans ?_)
        show wrap64 (24 + wrap64 (lenOf z : Int)) = (lenOf x : Int)
        rw [HE.out, HF.out, wrap_little (by omega)]
        refine (wrap_little (n := 24 + lenOf z) (by omega)).trans ?_
        omega
end Go.Proofs.YtgnkmenjjmfcfaaDoor
