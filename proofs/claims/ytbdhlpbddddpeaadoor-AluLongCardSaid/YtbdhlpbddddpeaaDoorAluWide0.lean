/-
  Contracts of alu's AddCarry, SubBorrow, MulWide and DivWide.
-/
import Derived.Test.YtbdhlpbddddpeaaDoorAluCut
import Derived.Test.YtbdhlpbddddpeaaDoorErrCode0
import Derived.Deep.QuietTactic
import Derived.BigQuiet
namespace Go.Proofs.YtbdhlpbddddpeaaDoor
open Go.RowKit FerryAlu
set_option linter.unusedVariables false

theorem wu64 {n : Nat} (h : n < 18446744073709551616) : IntKind.u64.wrap (n : Int) = (n : Int) := by rw [IntKind.wrap_u64]; omega
theorem ret_uu {a b c d : Int} (h1 : a = b) (h2 : c = d) : Ending.returned (.tuple #[.int .u32 a, .int .u32 c]) = .returned (.tuple #[.int .u32 b, .int .u32 d]) := by rw [h1, h2]
theorem ret_ub {a b : Int} {p q : Bool} (h1 : a = b) (h2 : p = q) : Ending.returned (.tuple #[.int .u32 a, .bool p]) = .returned (.tuple #[.int .u32 b, .bool q]) := by rw [h1, h2]

theorem add32_any (b c k : Nat) (w : World) (hb : b < 4294967296) (hc : c < 4294967296) (hk : k < 2) :
    Calls Tryd.prog 38 #[.int .u32 (b : Int), .int .u32 (c : Int), .int .u32 (k : Int)] w fun e w' => e = .returned (.tuple #[.int .u32 ((b + c + k) % 4294967296 : Nat), .int .u32 ((b + c + k) / 4294967296 : Nat)]) ∧ w = w' := by
  have e1 := wu64 (n := b) (by omega)
  have e2 := wu64 (n := c) (by omega)
  have e3 := wu64 (n := k) (by omega)
  have e4 : IntKind.u64.wrap ((b : Int) + (c : Int)) = (b : Int) + (c : Int) := by rw [IntKind.wrap_u64]; omega
  have e5 : IntKind.u64.wrap ((b : Int) + (c : Int) + (k : Int)) = (b : Int) + (c : Int) + (k : Int) := by rw [IntKind.wrap_u64]; omega
  go_enter Tryd.func38, Tryd.ntmps38
  go_wp2
  go_ret2
  refine ⟨ret_uu ?_ ?_, rfl⟩
  · omega
  · omega
theorem bit_any (k : Bool) (w : World) : Calls Tryd.prog 27 #[.bool k] w fun e w' => e = .returned (.int .u32 (k.toNat : Nat)) ∧ w = w' := by
  cases k
  · go_enter Tryd.func27, Tryd.ntmps27
    go_wp2
    go_ret
    exact ⟨rfl, rfl⟩
  · go_enter Tryd.func27, Tryd.ntmps27
    go_wp2
    go_ret
    exact ⟨rfl, rfl⟩
theorem addCarry_any (b c : Nat) (k : Bool) (w : World) (hb : b < 4294967296) (hc : c < 4294967296) :
    Calls Tryd.prog 25 #[.int .u32 (b : Int), .int .u32 (c : Int), .bool k] w fun e w' => e = .returned (.tuple #[.int .u32 ((b + c + k.toNat) % 4294967296 : Nat), .bool (decide (4294967296 ≤ b + c + k.toNat))]) ∧ w = w' := by
  have hk : k.toNat < 2 := by cases k <;> decide
  have H := hide (add32_any b c k.toNat w hb hc hk)
  have hq : (b + c + k.toNat) / 4294967296 < 2 := by omega
  have hd : decide (4294967296 ≤ b + c + k.toNat) = (((b + c + k.toNat) / 4294967296 : Nat) == 1) := by
    rw [Bool.eq_iff_iff, decide_eq_true_iff, beq_iff_eq]
    omega
  rw [hd]
  clear hd
  have HK := hide (bit_any k w)
  generalize k.toNat = kn at *
  generalize (b + c + kn) % 4294967296 = r at *
  generalize (b + c + kn) / 4294967296 = q at *
  go_enter Tryd.func25, Tryd.ntmps25
  go_wp2_with fail
  refine Calls.mono HK.out ?_
  rintro e w' ⟨rfl, rfl⟩
  go_wp2_with fail
  refine Calls.mono H.out ?_
  rintro e w' ⟨rfl, rfl⟩
  go_wp2
  go_ret2
  refine ⟨ret_ub rfl ?_, rfl⟩
  rw [Bool.eq_iff_iff, beq_iff_eq, beq_iff_eq]
  omega

theorem top_bit {n : Nat} (h : n < 4294967296) : n / 2147483648 = (n.testBit 31).toNat := by
  rw [Nat.testBit_eq_decide_div_mod_eq, show (2 ^ 31 : Nat) = 2147483648 by decide]
  have : n / 2147483648 < 2 := by omega
  rcases (by omega : n / 2147483648 = 0 ∨ n / 2147483648 = 1) with e | e <;> rw [e] <;> rfl
theorem top_is (n : Nat) (h : n < 4294967296) : n.testBit 31 = decide (2147483648 ≤ n) := by
  rw [Nat.testBit_eq_decide_div_mod_eq, show (2 ^ 31 : Nat) = 2147483648 by decide]
  congr 1
  apply propext
  omega
theorem borrow_bit (b c k d : Nat) (hb : b < 4294967296) (hc : c < 4294967296) (hk : k < 2) (hd : d = (b + 8589934592 - c - k) % 4294967296) :
    (((b ^^^ 4294967295) &&& c) ||| (((b ^^^ c) ^^^ 4294967295) &&& d)) / 2147483648 = (decide (b < c + k)).toNat := by
  have hd2 : d < 4294967296 := by omega
  have l1 : b ^^^ 4294967295 < 4294967296 := Nat.xor_lt_two_pow (n := 32) hb (by decide)
  have l2 : (b ^^^ 4294967295) &&& c < 4294967296 := Nat.and_lt_two_pow (n := 32) _ hc
  have l3 : ((b ^^^ c) ^^^ 4294967295) &&& d < 4294967296 := Nat.and_lt_two_pow (n := 32) _ hd2
  rw [top_bit (Nat.or_lt_two_pow (n := 32) l2 l3), Nat.testBit_or, Nat.testBit_and, Nat.testBit_and, Nat.testBit_xor, Nat.testBit_xor, Nat.testBit_xor, show (4294967295 : Nat).testBit 31 = true by decide, top_is b hb, top_is c hc, top_is d hd2]
  congr 1
  rw [Bool.eq_iff_iff, decide_eq_true_iff]
  by_cases h1 : 2147483648 ≤ b <;> by_cases h2 : 2147483648 ≤ c <;> by_cases h3 : 2147483648 ≤ d <;> simp [h1, h2, h3] <;> omega

theorem sub32_any (b c k : Nat) (w : World) (hb : b < 4294967296) (hc : c < 4294967296) (hk : k < 2) :
    Calls Tryd.prog 42 #[.int .u32 (b : Int), .int .u32 (c : Int), .int .u32 (k : Int)] w fun e w' => e = .returned (.tuple #[.int .u32 ((b + 8589934592 - c - k) % 4294967296 : Nat), .int .u32 ((decide (b < c + k)).toNat : Nat)]) ∧ w = w' := by
  obtain ⟨d, hd⟩ : ∃ d, d = (b + 8589934592 - c - k) % 4294967296 := ⟨_, rfl⟩
  have HB := hide (borrow_bit b c k d hb hc hk hd)
  rw [← hd]
  have e0 : ((b : Int) - (c : Int) - (k : Int)) % 4294967296 = (d : Int) := by omega
  have hd2 : d < 4294967296 := by omega
  have l1 : b ^^^ 4294967295 < 4294967296 := Nat.xor_lt_two_pow (n := 32) hb (by decide)
  have l2 : b ^^^ c < 4294967296 := Nat.xor_lt_two_pow (n := 32) hb hc
  have l3 : (b ^^^ c) ^^^ 4294967295 < 4294967296 := Nat.xor_lt_two_pow (n := 32) l2 (by decide)
  have l4 : (b ^^^ 4294967295) &&& c < 4294967296 := Nat.and_lt_two_pow (n := 32) _ hc
  have l5 : ((b ^^^ c) ^^^ 4294967295) &&& d < 4294967296 := Nat.and_lt_two_pow (n := 32) _ hd2
  have nx : ∀ r : Nat, r < 4294967296 → bits .xor .u32 IntKind.u32.max (r : Int) = ((r ^^^ 4294967295 : Nat) : Int) := fun r h => by
    have := u32_xor_nat 4294967295 r (by decide) h
    rw [Nat.xor_comm] at this
    exact this
  have q1 := nx b hb
  have q2 := u32_and_nat _ c l1 hc
  have q3 := u32_xor_nat b c hb hc
  have q4 := nx _ l2
  have q5 := u32_and_nat _ d l3 hd2
  have q6 := u32_or_nat _ _ l4 l5
  clear nx hd
  generalize b ^^^ 4294967295 = nb at *
  generalize b ^^^ c = bc at *
  generalize bc ^^^ 4294967295 = nbc at *
  generalize nb &&& c = m1 at *
  generalize nbc &&& d = m2 at *
  generalize m1 ||| m2 = m3 at *
  go_enter Tryd.func42, Tryd.ntmps42
  go_wp2
  go_ret2
  refine ⟨ret_uu rfl ?_, rfl⟩
  have := HB.out
  omega
theorem subBorrow_any (b c : Nat) (k : Bool) (w : World) (hb : b < 4294967296) (hc : c < 4294967296) :
    Calls Tryd.prog 36 #[.int .u32 (b : Int), .int .u32 (c : Int), .bool k] w fun e w' => e = .returned (.tuple #[.int .u32 ((b + 8589934592 - c - k.toNat) % 4294967296 : Nat), .bool (decide (b < c + k.toNat))]) ∧ w = w' := by
  have hk : k.toNat < 2 := by cases k <;> decide
  have H := hide (sub32_any b c k.toNat w hb hc hk)
  have HK := hide (bit_any k w)
  have hd : decide (b < c + k.toNat) = ((((decide (b < c + k.toNat)).toNat : Nat) : Int) == 1) := by cases decide (b < c + k.toNat) <;> rfl
  rw [hd]
  clear hd
  generalize (decide (b < c + k.toNat)).toNat = q at *
  generalize k.toNat = kn at *
  generalize (b + 8589934592 - c - kn) % 4294967296 = r at *
  go_enter Tryd.func36, Tryd.ntmps36
  go_wp2_with fail
  refine Calls.mono HK.out ?_
  rintro e w' ⟨rfl, rfl⟩
  go_wp2_with fail
  refine Calls.mono H.out ?_
  rintro e w' ⟨rfl, rfl⟩
  go_wp2
  go_ret2
  exact ⟨rfl, rfl⟩
theorem mul32_any (b c : Nat) (w : World) (hb : b < 4294967296) (hc : c < 4294967296) :
    Calls Tryd.prog 35 #[.int .u32 (b : Int), .int .u32 (c : Int)] w fun e w' => e = .returned (.tuple #[.int .u32 (b * c / 4294967296 : Nat), .int .u32 (b * c % 4294967296 : Nat)]) ∧ w = w' := by
  have hm : b * c < 18446744073709551616 := Nat.lt_of_lt_of_le (Nat.mul_lt_mul'' hb hc) (by decide)
  have e1 := wu64 (n := b) (by omega)
  have e2 := wu64 (n := c) (by omega)
  have e3 : IntKind.u64.wrap ((b : Int) * (c : Int)) = ((b * c : Nat) : Int) := by rw [← Int.natCast_mul]; exact wu64 hm
  generalize b * c = m at *
  go_enter Tryd.func35, Tryd.ntmps35
  go_wp2
  go_ret2
  refine ⟨ret_uu ?_ ?_, rfl⟩
  · omega
  · omega
theorem div32_any (hi lo c : Nat) (w : World) (hh : hi < c) (hl : lo < 4294967296) (hc : c < 4294967296) :
    Calls Tryd.prog 37 #[.int .u32 (hi : Int), .int .u32 (lo : Int), .int .u32 (c : Int)] w fun e w' => e = .returned (.tuple #[.int .u32 ((hi * 4294967296 + lo) / c : Nat), .int .u32 ((hi * 4294967296 + lo) % c : Nat)]) ∧ Below w.heap.size w w' := by
  have c0 : ¬ c = 0 := by omega
  have c1 : ((c : Int) != 0) = true := by simp; omega
  have c2 : decide ((c : Int) ≤ (hi : Int)) = false := by simp; omega
  have c3 : decide (c ≤ hi) = false := by simp; omega
  have c4 : ¬ c ≤ hi := by omega
  have e1 := wu64 (n := hi) (by omega)
  have e2 := wu64 (n := lo) (by omega)
  have e3 := wu64 (n := c) (by omega)
  have hz : hi * 4294967296 + lo < 18446744073709551616 := by omega
  have e4 : bits .or .u64 ((hi : Int) * 4294967296) (lo : Int) = ((hi * 4294967296 + lo : Nat) : Int) := by
    have h1 := Nat.two_pow_add_eq_or_of_lt (i := 32) (b := lo) (by rw [show (2 : Nat) ^ 32 = 4294967296 by decide]; exact hl) hi
    rw [show (2 : Nat) ^ 32 = 4294967296 by decide] at h1
    have hhi : hi * 4294967296 < 18446744073709551616 := Nat.lt_of_le_of_lt (Nat.le_add_right _ lo) hz
    have hlo : lo < 18446744073709551616 := Nat.lt_trans hl (by decide)
    have h2 := u64_or_nat (hi * 4294967296) lo hhi hlo
    rw [show hi * 4294967296 ||| lo = hi * 4294967296 + lo by rw [Nat.mul_comm]; exact h1.symm] at h2
    rw [← h2]
    rfl
  have HQ : Hid ((hi * 4294967296 + lo) / c < 4294967296) := by
    unfold Hid
    rw [Nat.div_lt_iff_lt_mul (by omega)]
    have : (hi + 1) * 4294967296 ≤ c * 4294967296 := Nat.mul_le_mul_right _ hh
    rw [Nat.mul_comm 4294967296 c]
    omega
  have HR : Hid ((hi * 4294967296 + lo) % c < 4294967296) := Nat.lt_trans (Nat.mod_lt _ (by omega)) hc
  generalize hi * 4294967296 + lo = z at *
  have cI : (c : Int) ≠ 0 := by omega
  have cB : ((c : Int) == 0) = false := by simp; omega
  go_enter Tryd.func37, Tryd.ntmps37
  go_wp2
  go_quiet (fail)
  go_wp2
  go_ret2
  refine ⟨ret_uu ?_ ?_, below_drewN (Below.refl _ _) _⟩
  · have hq := HQ.out
    rw [← Int.natCast_ediv]
    generalize z / c = q at *
    rw [wu64 (by omega)]
    omega
  · have hr := HR.out
    rw [← Int.natCast_emod]
    generalize z % c = r at *
    omega

theorem mulWide_any (b c : Nat) (w : World) (hb : b < 4294967296) (hc : c < 4294967296) :
    Calls Tryd.prog 21 #[.int .u32 (b : Int), .int .u32 (c : Int)] w fun e w' => e = .returned (.tuple #[.int .u32 (b * c / 4294967296 : Nat), .int .u32 (b * c % 4294967296 : Nat)]) ∧ w = w' := by
  have H := hide (mul32_any b c w hb hc)
  generalize b * c / 4294967296 = q at *
  generalize b * c % 4294967296 = r at *
  go_enter Tryd.func21, Tryd.ntmps21
  go_wp2_with (go_at_call 35; refine H.out.mono ?_; rintro e w' ⟨rfl, rfl⟩)
  go_ret2
  exact ⟨rfl, rfl⟩

theorem divWide_any (hi lo c : Nat) (w : World) (hh : hi < c) (hl : lo < 4294967296) (hc : c < 4294967296) :
    Calls Tryd.prog 24 #[.int .u32 (hi : Int), .int .u32 (lo : Int), .int .u32 (c : Int)] w fun e w' => e = .returned (.tuple #[.int .u32 ((hi * 4294967296 + lo) / c : Nat), .int .u32 ((hi * 4294967296 + lo) % c : Nat), .nilIface]) ∧ Below w.heap.size w w' := by
  have H := hide (div32_any hi lo c w hh hl hc)
  have c0 : ¬ c = 0 := by omega
  have c1 : ((c : Int) == 0) = false := by simp; omega
  have c3 : decide (c ≤ hi) = false := by simp; omega
  generalize (hi * 4294967296 + lo) / c = q at *
  generalize (hi * 4294967296 + lo) % c = r at *
  go_enter Tryd.func24, Tryd.ntmps24
  go_wp2_with (go_at_call 37; refine H.out.mono ?_; rintro e w' ⟨rfl, b⟩)
  go_ret3
  exact ⟨rfl, b⟩

theorem divWide_zero {w : World} {E : Nat → Addr} (he : Errs w E) (hi lo : Nat) :
    Calls Tryd.prog 24 #[.int .u32 (hi : Int), .int .u32 (lo : Int), .int .u32 0] w fun e w' => e = .returned (.tuple #[.int .u32 0, .int .u32 0, sent (E 20)]) ∧ Below w.heap.size w w' := by
  have v20 := he.v20
  clear he
  go_enter Tryd.func24, Tryd.ntmps24
  go_wp2_with fail
  go_region
  all_goals go_wp2
  all_goals (go_ret3; exact ⟨rfl, (Below.refl _ _).drew⟩)

theorem divWide_range {w : World} {E : Nat → Addr} (he : Errs w E) (hi lo c : Nat) (h0 : c ≠ 0) (h : c ≤ hi) :
    Calls Tryd.prog 24 #[.int .u32 (hi : Int), .int .u32 (lo : Int), .int .u32 (c : Int)] w fun e w' => e = .returned (.tuple #[.int .u32 0, .int .u32 0, sent (E 4)]) ∧ Below w.heap.size w w' := by
  have v4 := he.v4
  have c0 : ¬ c = 0 := h0
  have c1 : ((c : Int) == 0) = false := by simp; omega
  have c3 : decide (c ≤ hi) = true := by simp; omega
  clear he h0
  go_enter Tryd.func24, Tryd.ntmps24
  go_wp2_with fail
  go_region
  all_goals go_wp2
  all_goals (go_ret3; exact ⟨rfl, (Below.refl _ _).drew⟩)
end Go.Proofs.YtbdhlpbddddpeaaDoor
