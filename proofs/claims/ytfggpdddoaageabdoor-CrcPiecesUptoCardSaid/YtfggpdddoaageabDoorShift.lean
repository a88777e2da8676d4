/-
  Walks of the program's times, Shift and Join: the register moved on by n bytes 0 is the register moved on by 8 n bits.
-/
import Derived.Test.YtfggpdddoaageabDoorCrc
import Derived.Test.YtfggpdddoaageabDoorPoly
import Derived.Test.YtfggpdddoaageabDoorErrCode
import Derived.BigRegion
import Derived.BigQuiet
import Derived.Deep.QuietTactic
namespace Go.Proofs.YtfggpdddoaageabDoor
open Go.RowKit FerryCrc

theorem shr31 {x : Nat} : ((x : Int) / 2147483648) = ((x / 2147483648 : Nat) : Int) := by omega
theorem shl_one (x : Nat) : ((x : Int) * 2 % 4294967296) = ((x * 2 % 4294967296 : Nat) : Int) := by omega

theorem shl_small {y : Nat} (hy : y < 4294967296) (h : ¬ y / 2147483648 = 1) : ((y : Int) * 2) = ((y * 2 % 4294967296 : Nat) : Int) := by omega

theorem times_any (a b : Nat) (w : World) (ha : a < 4294967296) (hb : b < 4294967296) :
    Calls Tryd.prog 22 #[.int .u32 (a : Int), .int .u32 (b : Int)] w fun e w' => e = .returned (.int .u32 (tms a b : Nat)) ∧ w = w' := by
  go_enter Tryd.func22, Tryd.ntmps22
  go_wp2
  go_loop [0, 1, 5] (fun x y p => ∃ k : Nat, k ≤ 32 ∧ x = .int .u32 (bitsN k a : Nat) ∧ y = .int .u32 (b * 2 ^ k % 4294967296 : Nat) ∧ p = .int .u32 (T k a b : Nat)) (fun _ y _ => mu (intOf y).toNat)
  case atStart => exact ⟨0, by omega, rfl, by rw [Nat.pow_zero, Nat.mul_one, Nat.mod_eq_of_lt hb], rfl⟩
  case round =>
    obtain ⟨k, hk, rfl, rfl, rfl⟩ := hrel
    have hx := bitsN_lt (n := k) ha
    have hT := T_lt (k := k) (b := b) ha
    have HS := hide (bitsN_succ k a)
    by_cases h0 : b * 2 ^ k % 4294967296 = 0
    · have HR := hide (T_rest a b k hk h0)
      rw [h0]
      go_wp2
      go_ret
      exact ⟨ret_int (by unfold tms; rw [HR.out]), rfl⟩
    · have hk32 : k < 32 := by
        refine Nat.lt_of_le_of_ne hk ?_
        rintro rfl
        exact h0 (by simp)
      have HB := hide (top_bit b k hk32)
      have HM := hide (mu_less _ h0)
      have HT : Hid (T (k + 1) a b = T k a b ^^^ (if b.testBit (31 - k) then bitsN k a else 0)) := rfl
      have HY : Hid (b * 2 ^ (k + 1) % 4294967296 = b * 2 ^ k % 4294967296 * 2 % 4294967296) := by
        unfold Hid
        rw [Nat.mod_mul_mod, Nat.pow_succ, Nat.mul_assoc]
      have hy : b * 2 ^ k % 4294967296 < 4294967296 := Nat.mod_lt _ (by decide)
      generalize b * 2 ^ k % 4294967296 = y at *
      generalize bitsN k a = x at *
      generalize T k a b = p at *
      have hne : ((y : Int) != 0) = true := by simp; omega
      by_cases h1 : y / 2147483648 = 1
      · have ht := HB.out.1 h1
        have h1' : (y : Int) / 2147483648 = 1 := by omega
        have HT2 : Hid (T (k + 1) a b = p ^^^ x) := by unfold Hid; rw [HT.out, ht]; rfl
        clear HB HT ht
        go_wp2_with (go_at_call 33; refine (moveBit_any _ _ hx).mono ?_; rintro e w' ⟨rfl, rfl⟩)
        go_round
        case rel => exact ⟨k + 1, by omega, by rw [HS.out], by rw [HY.out, shl_one], by rw [HT2.out, u32_xor_nat p x hT hx]⟩
        case measure => rw [shl_one]; exact HM.out
      · have ht : b.testBit (31 - k) = false := by
          cases e : b.testBit (31 - k)
          · rfl
          · exact absurd (HB.out.2 e) h1
        have h1' : ((y : Int) / 2147483648 == 1) = false := by simp; omega
        have HT2 : Hid (T (k + 1) a b = p) := by unfold Hid; rw [HT.out, ht]; simp
        clear HB HT ht
        go_wp2_with (go_at_call 33; refine (moveBit_any _ _ hx).mono ?_; rintro e w' ⟨rfl, rfl⟩)
        go_round
        case rel => exact ⟨k + 1, by omega, by rw [HS.out], by rw [HY.out, shl_small hy h1], by rw [HT2.out]⟩
        case measure => rw [shl_small hy h1]; exact HM.out

theorem shift_bad {w : World} {E : Nat → Addr} (he : Errs w E) (r : Nat) (n : Int) (h : n < 0) :
    Calls Tryd.prog 12 #[.int .u32 (r : Int), .int .i64 n] w fun e w' => e = .returned (.tuple #[.int .u32 0, sent (E 12)]) ∧ Below w.heap.size w w' := by
  have v := he.v12
  go_enter Tryd.func12, Tryd.ntmps12
  go_wp2
  go_region
  all_goals go_wp2
  all_goals (go_ret2; exact ⟨rfl, (Below.refl _ _).drew⟩)

theorem and1_i64 (m : Nat) (h : m < 9223372036854775808) : bits .and .i64 (m : Int) 1 = ((m % 2 : Nat) : Int) := by
  have := bits_mask .i64 63 (by decide) (fun n h0 h1 => by rw [IntKind.wrap_i64]; omega) 1 (by decide) (m : Int) (by omega) (by omega)
  simpa using this
theorem odd_way {m : Nat} (h : m < 9223372036854775808) (g : (bits .and .i64 (m : Int) 1 == 1) = true) : m % 2 = 1 := by
  rw [and1_i64 m h] at g
  have := beq_iff_eq.1 g
  omega
theorem even_way {m : Nat} (h : m < 9223372036854775808) (g : (bits .and .i64 (m : Int) 1 == 1) = false) : m % 2 = 0 := by
  rw [and1_i64 m h] at g
  have := beq_eq_false_iff_ne.1 g
  omega
theorem step_odd {s m q t : Nat} (h : bitsN (s * m) q = t) (ho : m % 2 = 1) : bitsN (2 * s * (m / 2)) (bitsN s q) = t := by
  rw [← bitsN_add, ← h]
  congr 1
  have e : m = 1 + 2 * (m / 2) := by omega
  conv => rhs; rw [e]
  rw [Nat.mul_add, Nat.mul_one, ← Nat.mul_assoc, Nat.mul_comm s 2]
theorem step_even {s m q t : Nat} (h : bitsN (s * m) q = t) (ho : m % 2 = 0) : bitsN (2 * s * (m / 2)) q = t := by
  rw [← h]
  congr 1
  have e : m = 2 * (m / 2) := by omega
  conv => rhs; rw [e]
  rw [← Nat.mul_assoc, Nat.mul_comm s 2]
theorem half_i64 (m : Nat) : ((m : Int) / 2) = ((m / 2 : Nat) : Int) := by omega
theorem shift_any (r n : Nat) (w : World) (hr : r < 4294967296) (hn : n < 9223372036854775808) :
    Calls Tryd.prog 12 #[.int .u32 (r : Int), .int .i64 (n : Int)] w fun e w' => e = .returned (.tuple #[.int .u32 (bitsN (8 * n) r : Nat), .nilIface]) ∧ w = w' := by
  go_enter Tryd.func12, Tryd.ntmps12
  go_wp2
  go_loop [0, 1, 6] (fun x y p => ∃ m s q : Nat, m < 9223372036854775808 ∧ q < 4294967296 ∧ x = .int .u32 (q : Nat) ∧ y = .int .i64 (m : Nat) ∧ p = .int .u32 (pw s : Nat) ∧ bitsN (s * m) q = bitsN (8 * n) r) (fun _ y _ => (intOf y).toNat)
  case atStart => exact ⟨n, 8, r, hn, hr, rfl, rfl, by rw [pw_eight]; rfl, rfl⟩
  case round =>
    obtain ⟨m, s, q, hm, hq, rfl, rfl, rfl, heq⟩ := hrel
    have HQ := hide heq
    clear heq
    have hp := pw_lt s
    have H1 := hide (tms_pw s q hq)
    have H2 := hide (pw_pw s)
    by_cases h0 : m = 0
    · subst h0
      go_wp2
      go_ret2
      exact ⟨by rw [← HQ.out]; rfl, rfl⟩
    · have hmp : 0 < m := by omega
      go_wp2_with (go_at_call 22; refine (times_any _ _ _ (by assumption) (by assumption)).mono ?_; rintro e w' ⟨rfl, rfl⟩)
      · go_round
        case rel => exact ⟨m / 2, 2 * s, bitsN s q, by omega, bitsN_lt hq, by rw [H1.out], by rw [half_i64], by rw [H2.out], step_odd HQ.out (odd_way hm ‹_›)⟩
        case measure => simp [intOf]; omega
      · go_round
        case rel => exact ⟨m / 2, 2 * s, q, by omega, hq, rfl, by rw [half_i64], by rw [H2.out], step_even HQ.out (even_way hm ‹_›)⟩
        case measure => simp [intOf]; omega

theorem join_bad {w : World} {E : Nat → Addr} (he : Errs w E) (r q : Nat) (n : Int) (h : n < 0) :
    Calls Tryd.prog 11 #[.int .u32 (r : Int), .int .u32 (q : Int), .int .i64 n] w fun e w' => e = .returned (.tuple #[.int .u32 0, sent (E 12)]) ∧ Below w.heap.size w w' := by
  have HC := hide (shift_bad he r n h)
  unfold sent at *
  go_enter Tryd.func11, Tryd.ntmps11
  go_wp2_with (go_at_call 12; refine HC.out.mono ?_; rintro e w' ⟨rfl, hb⟩)
  go_ret2
  exact ⟨rfl, hb⟩
theorem join_any (r q n : Nat) (w : World) (hr : r < 4294967296) (hq : q < 4294967296) (hn : n < 9223372036854775808) :
    Calls Tryd.prog 11 #[.int .u32 (r : Int), .int .u32 (q : Int), .int .i64 (n : Int)] w fun e w' => e = .returned (.tuple #[.int .u32 (bitsN (8 * n) r ^^^ q : Nat), .nilIface]) ∧ w = w' := by
  have HC := hide (shift_any r n w hr hn)
  have HX := hide (u32_xor_nat (bitsN (8 * n) r) q (bitsN_lt hr) hq)
  generalize bitsN (8 * n) r ^^^ q = z at *
  generalize bitsN (8 * n) r = x at *
  go_enter Tryd.func11, Tryd.ntmps11
  go_wp2_with (go_at_call 12; refine HC.out.mono ?_; rintro e w' ⟨rfl, rfl⟩)
  go_ret2
  exact ⟨by rw [HX.out]; rfl, rfl⟩
end Go.Proofs.YtfggpdddoaageabDoor
