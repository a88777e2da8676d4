/-
  Contracts of math/bits' RotateLeft32 and OnesCount32, and of alu's Rotate, Ones and Lead.
-/
import Derived.Test.YthmibakcjhappaaDoorAluCut
import Derived.Test.YthmibakcjhappaaDoorLenT
import Derived.Deep.QuietTactic
import Derived.BigQuiet
namespace FerryAlu
def popTab : ByteArray := ⟨#[0, 1, 1, 2, 1, 2, 2, 3, 1, 2, 2, 3, 2, 3, 3, 4, 1, 2, 2, 3, 2, 3, 3, 4, 2, 3, 3, 4, 3, 4, 4, 5, 1, 2, 2, 3, 2, 3, 3, 4, 2, 3, 3, 4, 3, 4, 4, 5, 2, 3, 3, 4, 3, 4, 4, 5, 3, 4, 4, 5, 4, 5, 5, 6, 1, 2, 2, 3, 2, 3, 3, 4, 2, 3, 3, 4, 3, 4, 4, 5, 2, 3, 3, 4, 3, 4, 4, 5, 3, 4, 4, 5, 4, 5, 5, 6, 2, 3, 3, 4, 3, 4, 4, 5, 3, 4, 4, 5, 4, 5, 5, 6, 3, 4, 4, 5, 4, 5, 5, 6, 4, 5, 5, 6, 5, 6, 6, 7, 1, 2, 2, 3, 2, 3, 3, 4, 2, 3, 3, 4, 3, 4, 4, 5, 2, 3, 3, 4, 3, 4, 4, 5, 3, 4, 4, 5, 4, 5, 5, 6, 2, 3, 3, 4, 3, 4, 4, 5, 3, 4, 4, 5, 4, 5, 5, 6, 3, 4, 4, 5, 4, 5, 5, 6, 4, 5, 5, 6, 5, 6, 6, 7, 2, 3, 3, 4, 3, 4, 4, 5, 3, 4, 4, 5, 4, 5, 5, 6, 3, 4, 4, 5, 4, 5, 5, 6, 4, 5, 5, 6, 5, 6, 6, 7, 3, 4, 4, 5, 4, 5, 5, 6, 4, 5, 5, 6, 5, 6, 6, 7, 4, 5, 5, 6, 5, 6, 6, 7, 5, 6, 6, 7, 6, 7, 7, 8]⟩
theorem popTab_size : popTab.size = 256 := by decide +kernel
theorem popTab_at : ∀ x : Fin 256, (popTab[x.1]'(by rw [popTab_size]; exact x.2)).toNat = pop 8 x.1 := by decide +kernel
theorem pop_bytes (x : Nat) : pop 32 x = pop 8 (x / 16777216) + pop 8 (x / 65536 % 256) + pop 8 (x / 256 % 256) + pop 8 (x % 256) := by
  have h1 : pop 32 x = pop 8 (x % 256) + pop 24 (x / 256) := pop_cut 8 24 x
  have h2 : pop 24 (x / 256) = pop 8 (x / 256 % 256) + pop 16 (x / 256 / 256) := pop_cut 8 16 _
  have h3 : pop 16 (x / 256 / 256) = pop 8 (x / 256 / 256 % 256) + pop 8 (x / 256 / 256 / 256) := pop_cut 8 8 _
  rw [h1, h2, h3, show x / 256 / 256 = x / 65536 by omega, show x / 65536 / 256 = x / 16777216 by omega]
  omega
end FerryAlu
namespace Go.Proofs.YthmibakcjhappaaDoor
open Go.RowKit FerryAlu
set_option linter.unusedVariables false

theorem sum4 {A B C D a b c d t : Nat} (hA : A = a) (hB : B = b) (hC : C = c) (hD : D = d) (ht : t = a + b + c + d) (h1 : a ≤ 8) (h2 : b ≤ 8) (h3 : c ≤ 8) (h4 : d ≤ 8) :
    ((A : Int) + (B : Int) + (C : Int) + (D : Int)) % 256 = (t : Int) := by omega

theorem and31 (m : Int) : bits .and .u64 (IntKind.u64.wrap m) 31 = (((m % 32).toNat : Nat) : Int) := by
  rw [IntKind.wrap_u64]
  have := bits_mask .u64 64 (by decide) (fun n h0 h1 => by rw [IntKind.wrap_u64]; omega) 5 (by decide) (m % 18446744073709551616) (by omega) (by omega)
  rw [show ((31 : Int)) = 2 ^ 5 - 1 by decide, this]
  omega

theorem rotl_any (x : Nat) (m : Int) (w : World) (hx : x < 4294967296) :
    Calls Tryd.prog 54 #[.int .u32 (x : Int), .int .i64 m] w fun e w' => e = .returned (.int .u32 (rot x (m % 32).toNat : Nat)) ∧ w = w' := by
  have h1 := and31 m
  have hj : (m % 32).toNat < 32 := by omega
  generalize (m % 32).toNat = j at *
  have h2 : IntKind.u64.wrap (32 - (j : Int)) = ((32 - j : Nat) : Int) := by rw [IntKind.wrap_u64]; omega
  go_enter Tryd.func54, Tryd.ntmps54
  go_wp2
  go_ret
  refine ⟨ret_int ?_, rfl⟩
  have e1 : (x : Int) * 2 ^ j % 4294967296 = ((x % 2 ^ (32 - j) * 2 ^ j : Nat) : Int) := by
    have h := Nat.mul_mod_mul_right (2 ^ j) x (2 ^ (32 - j))
    rw [two_split (by omega)] at h
    rw [← h]
    simp
  have e2 : (x : Int) / 2 ^ (32 - j) = ((x / 2 ^ (32 - j) : Nat) : Int) := by simp
  have l1 : x % 2 ^ (32 - j) * 2 ^ j < 4294967296 := by
    rw [← two_split (j := j) (by omega)]
    exact Nat.mul_lt_mul_of_pos_right (Nat.mod_lt _ (Nat.two_pow_pos _)) (Nat.two_pow_pos _)
  have l2 := high_lt hx (show j ≤ 32 by omega)
  have e3 := u32_or_nat _ (x / 2 ^ (32 - j)) l1 (Nat.lt_of_le_of_lt (Nat.div_le_self _ _) hx)
  refine (congr (congrArg _ e1) e2).trans (e3.trans ?_)
  unfold rot
  rw [Nat.mul_comm, Nat.two_pow_add_eq_or_of_lt l2]

set_option maxRecDepth 100000 in
theorem onesCount_any (x : Nat) (w : World) (hx : x < 4294967296) :
    Calls Tryd.prog 55 #[.int .u32 (x : Int)] w fun e w' => e = .returned (.int .i64 (pop 32 x : Nat)) ∧ Below w.heap.size w w' := by
  obtain ⟨a, ha⟩ : ∃ a, a = x / 16777216 := ⟨_, rfl⟩
  obtain ⟨p, hp⟩ : ∃ p, p = x / 65536 := ⟨_, rfl⟩
  obtain ⟨q, hq⟩ : ∃ q, q = x / 256 := ⟨_, rfl⟩
  obtain ⟨b, hb⟩ : ∃ b, b = p % 256 := ⟨_, rfl⟩
  obtain ⟨c, hc⟩ : ∃ c, c = q % 256 := ⟨_, rfl⟩
  obtain ⟨d, hd⟩ : ∃ d, d = x % 256 := ⟨_, rfl⟩
  have HP : Hid (pop 32 x = pop 8 a + pop 8 b + pop 8 c + pop 8 d) := by
    unfold Hid
    rw [ha, hb, hc, hd, hp, hq]
    exact pop_bytes x
  have m255 : ∀ n : Nat, n < 4294967296 → bits .and .u32 (n : Int) 255 = ((n % 256 : Nat) : Int) := fun n h => by
    have := u32_and_nat n 255 h (by decide)
    rw [show 255 = 2 ^ 8 - 1 by decide, Nat.and_two_pow_sub_one_eq_mod] at this
    exact this
  have e1 : (x : Int) / 16777216 = (a : Int) := by omega
  have e2 : (x : Int) / 65536 = (p : Int) := by omega
  have e3 : (x : Int) / 256 = (q : Int) := by omega
  have e4 : bits .and .u32 (p : Int) 255 = (b : Int) := by rw [m255 p (by omega), hb]
  have e5 : bits .and .u32 (q : Int) 255 = (c : Int) := by rw [m255 q (by omega), hc]
  have e6 : bits .and .u32 (x : Int) 255 = (d : Int) := by rw [m255 x hx, hd]
  have la : a < 256 := by omega
  have lb : b < 256 := by omega
  have lc : c < 256 := by omega
  have ld : d < 256 := by omega
  have TA := hide (popTab_at ⟨a, la⟩)
  have TB := hide (popTab_at ⟨b, lb⟩)
  have TC := hide (popTab_at ⟨c, lc⟩)
  have TD := hide (popTab_at ⟨d, ld⟩)
  clear ha hp hq hb hc hd m255
  have ia : (a : Int) < 256 := by omega
  have ib : (b : Int) < 256 := by omega
  have ic : (c : Int) < 256 := by omega
  have id : (d : Int) < 256 := by omega
  go_enter Tryd.func55, Tryd.ntmps55
  go_wp2
  go_quiet (fail)
  go_wp2
  go_ret
  exact ⟨congrArg (fun n : Int => Ending.returned (Value.int .i64 n)) (sum4 TA.out TB.out TC.out TD.out HP.out (pop_le 8 a) (pop_le 8 b) (pop_le 8 c) (pop_le 8 d)), below_drewN (Below.refl _ _) _⟩

theorem rotate_any (x : Nat) (m : Int) (w : World) (hx : x < 4294967296) :
    Calls Tryd.prog 29 #[.int .u32 (x : Int), .int .i64 m] w fun e w' => e = .returned (.int .u32 (rot x (m % 32).toNat : Nat)) ∧ w = w' := by
  have H := hide (rotl_any x m w hx)
  generalize rot x (m % 32).toNat = r at *
  go_enter Tryd.func29, Tryd.ntmps29
  go_wp2_with (go_at_call 54; refine H.out.mono ?_; rintro e w' ⟨rfl, rfl⟩)
  go_ret
  exact ⟨rfl, rfl⟩

theorem ones_any (x : Nat) (w : World) (hx : x < 4294967296) :
    Calls Tryd.prog 31 #[.int .u32 (x : Int)] w fun e w' => e = .returned (.int .i64 (pop 32 x : Nat)) ∧ Below w.heap.size w w' := by
  have H := hide (onesCount_any x w hx)
  generalize pop 32 x = r at *
  go_enter Tryd.func31, Tryd.ntmps31
  go_wp2_with (go_at_call 55; refine H.out.mono ?_; rintro e w' ⟨rfl, hb⟩)
  go_ret
  exact ⟨rfl, hb⟩

theorem leading_any (x : Nat) (w : World) (hx : x < 4294967296) :
    Calls Tryd.prog 56 #[.int .u32 (x : Int)] w fun e w' => e = .returned (.int .i64 ((32 - FerryCrc.lenOf x : Nat) : Int)) ∧ w = w' := by
  have H := hide (len32_any x w hx)
  have hl : FerryCrc.lenOf x ≤ 32 := FerryCrc.lenOf_le (k := 32) hx
  generalize FerryCrc.lenOf x = r at *
  have e0 : wrap64 (32 - (r : Int)) = ((32 - r : Nat) : Int) := by unfold wrap64; omega
  go_enter Tryd.func56, Tryd.ntmps56
  go_wp2_with (go_at_call 62; refine H.out.mono ?_; rintro e w' ⟨rfl, rfl⟩)
  go_ret
  refine ⟨ret_int ?_, rfl⟩
  omega
theorem lead_any (x : Nat) (w : World) (hx : x < 4294967296) :
    Calls Tryd.prog 33 #[.int .u32 (x : Int)] w fun e w' => e = .returned (.int .i64 ((32 - FerryCrc.lenOf x : Nat) : Int)) ∧ w = w' := by
  have H := hide (leading_any x w hx)
  generalize 32 - FerryCrc.lenOf x = r at *
  go_enter Tryd.func33, Tryd.ntmps33
  go_wp2_with (go_at_call 56; refine H.out.mono ?_; rintro e w' ⟨rfl, rfl⟩)
  go_ret
  exact ⟨rfl, rfl⟩
end Go.Proofs.YthmibakcjhappaaDoor
