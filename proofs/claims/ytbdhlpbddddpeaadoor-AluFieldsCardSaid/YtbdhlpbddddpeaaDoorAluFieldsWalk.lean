/-
  Walk of the law AluFields.
-/
import Derived.Test.YtbdhlpbddddpeaaDoorAluField
namespace Go.Proofs.YtbdhlpbddddpeaaDoor.aluFields
open Go.RowKit FerryAlu
set_option linter.unusedVariables false

theorem place1 (w : World) : Calls Tryd.prog 17 #[.int .u32 305419896, .int .i64 8, .int .i64 8, .int .u32 255] w fun e w' => e = .returned (.tuple #[.int .u32 305463160, .nilIface]) ∧ Below w.heap.size w w' := place_any 305419896 8 8 255 w (by decide) (by decide) (by decide) (by decide)
/-- The law's own do answers so. -/
def Does (w : World) (op : Int) (b c r : Int) : Prop := Calls Tryd.prog 11 #[.int .i64 op, .int .u32 b, .int .u32 c] w fun e w' => e = .returned (.int .u32 r) ∧ w = w'

set_option maxRecDepth 100000 in
set_option maxHeartbeats 800000 in
theorem walk (x lo n f z g s top c d : Nat) (lo0 n0 k : Int) (w : World)
    (el : wrap64 ((IntKind.u64.wrap lo0).tmod 32) = (lo : Int)) (ec : wrap64 (32 - (lo : Int)) = 32 - (lo : Int)) (ec2 : IntKind.u64.wrap (32 - (lo : Int)) = (c : Int)) (hc0 : ((c : Int) == 0) = false) (hc1 : ¬ c = 0)
    (ed : wrap64 ((IntKind.u64.wrap n0).tmod (c : Int)) = (d : Int)) (en : wrap64 (1 + (d : Int)) = (n : Int)) (eu : (lo : Int) % 4294967296 = (lo : Int))
    (hn1 : wrap64 ((n : Int) - 1) = (n : Int) - 1) (hk1 : decide (k < -2147483648) = false) (hk2 : decide (2147483647 < k) = false) (sgs : Int) (hx64 : wrap64 (x : Int) = (x : Int)) (hend : Hid ((decide (sgs < 0) == ((top : Int) == 1)) = true))
    (S11 : Hid (∀ w : World, Calls Tryd.prog 12 #[.int .u32 (s : Int)] w fun e w' => e = .returned (.int .i64 sgs) ∧ w = w'))
    (F1 : Hid (∀ w : World, Calls Tryd.prog 18 #[.int .u32 (x : Int), .int .i64 (lo : Int), .int .i64 (n : Int)] w fun e w' => e = .returned (.tuple #[.int .u32 (f : Int), .nilIface]) ∧ Below w.heap.size w w'))
    (P2 : Hid (∀ w : World, Calls Tryd.prog 17 #[.int .u32 (x : Int), .int .i64 (lo : Int), .int .i64 (n : Int), .int .u32 (f : Int)] w fun e w' => e = .returned (.tuple #[.int .u32 (x : Int), .nilIface]) ∧ Below w.heap.size w w'))
    (P3 : Hid (∀ w : World, Calls Tryd.prog 17 #[.int .u32 (x : Int), .int .i64 (lo : Int), .int .i64 (n : Int), .int .u32 0] w fun e w' => e = .returned (.tuple #[.int .u32 (z : Int), .nilIface]) ∧ Below w.heap.size w w'))
    (P4 : Hid (∀ w : World, Calls Tryd.prog 17 #[.int .u32 (z : Int), .int .i64 (lo : Int), .int .i64 (n : Int), .int .u32 (f : Int)] w fun e w' => e = .returned (.tuple #[.int .u32 (x : Int), .nilIface]) ∧ Below w.heap.size w w'))
    (F5 : Hid (∀ w : World, Calls Tryd.prog 18 #[.int .u32 (z : Int), .int .i64 (lo : Int), .int .i64 (n : Int)] w fun e w' => e = .returned (.tuple #[.int .u32 0, .nilIface]) ∧ Below w.heap.size w w'))
    (D6 : Hid (∀ w : World, Does w 6 f lo g)) (D4 : Hid (∀ w : World, Does w 4 z g x)) (D3 : Hid (∀ w : World, Does w 3 z g 0))
    (S6 : Hid (∀ w : World, Calls Tryd.prog 19 #[.int .u32 (f : Int), .int .i64 (n : Int)] w fun e w' => e = .returned (.tuple #[.int .u32 (s : Int), .nilIface]) ∧ w = w'))
    (SX : Hid (∀ w : World, Calls Tryd.prog 12 #[.int .u32 (x : Int)] w fun e w' => e = .returned (.int .i64 k) ∧ w = w'))
    (W7 : Hid (∀ w : World, Calls Tryd.prog 20 #[.int .i64 k] w fun e w' => e = .returned (.tuple #[.int .u32 (x : Int), .nilIface]) ∧ w = w')) (W8 : Hid (∀ w : World, Calls Tryd.prog 20 #[.int .i64 (x : Int)] w fun e w' => e = .returned (.tuple #[.int .u32 (x : Int), .nilIface]) ∧ w = w'))
    (F9 : Hid (∀ w : World, Calls Tryd.prog 18 #[.int .u32 (s : Int), .int .i64 0, .int .i64 (n : Int)] w fun e w' => e = .returned (.tuple #[.int .u32 (f : Int), .nilIface]) ∧ Below w.heap.size w w'))
    (F10 : Hid (∀ w : World, Calls Tryd.prog 18 #[.int .u32 (f : Int), .int .i64 ((n : Int) - 1), .int .i64 1] w fun e w' => e = .returned (.tuple #[.int .u32 (top : Int), .nilIface]) ∧ Below w.heap.size w w')) :
    Calls Tryd.prog 7 #[.int .u32 (x : Int), .int .i64 lo0, .int .i64 n0] w fun e w' => e = .returned (.bool true) ∧ Below w.heap.size w w' := by
  have P0 := hide (place1 w)
  go_enter Tryd.func7, Tryd.ntmps7
  go_wp2_with fail
  refine Calls.mono P0.out ?_
  rintro e w1 ⟨rfl, b1⟩
  have B1 := hide b1
  clear b1
  go_wp2_with fail
  refine Calls.mono (F1.out _) ?_
  rintro e w2 ⟨rfl, b2⟩
  have B2 := hide b2
  clear b2
  go_wp2_with fail
  refine Calls.mono (P2.out _) ?_
  rintro e w3 ⟨rfl, b3⟩
  have B3 := hide b3
  clear b3
  go_wp2_with fail
  refine Calls.mono (P3.out _) ?_
  rintro e w4 ⟨rfl, b4⟩
  have B4 := hide b4
  clear b4
  go_wp2_with fail
  refine Calls.mono (P4.out _) ?_
  rintro e w5 ⟨rfl, b5⟩
  have B5 := hide b5
  clear b5
  go_wp2_with fail
  refine Calls.mono (F5.out _) ?_
  rintro e w6 ⟨rfl, b6⟩
  have B6 := hide b6
  clear b6
  go_wp2_with fail
  refine Calls.mono (D6.out _) ?_
  rintro e w' ⟨rfl, rfl⟩
  go_wp2_with fail
  refine Calls.mono (D4.out _) ?_
  rintro e w' ⟨rfl, rfl⟩
  go_wp2_with fail
  refine Calls.mono (D6.out _) ?_
  rintro e w' ⟨rfl, rfl⟩
  go_wp2_with fail
  refine Calls.mono (D3.out _) ?_
  rintro e w' ⟨rfl, rfl⟩
  go_wp2_with fail
  refine Calls.mono (S6.out _) ?_
  rintro e w' ⟨rfl, rfl⟩
  go_wp2_with fail
  refine Calls.mono (SX.out _) ?_
  rintro e w' ⟨rfl, rfl⟩
  go_wp2_with fail
  refine Calls.mono (W7.out _) ?_
  rintro e w' ⟨rfl, rfl⟩
  go_wp2_with fail
  refine Calls.mono (W8.out _) ?_
  rintro e w' ⟨rfl, rfl⟩
  go_wp2_with fail
  refine Calls.mono (F9.out _) ?_
  rintro e w7 ⟨rfl, b7⟩
  have B7 := hide b7
  clear b7
  go_wp2_with fail
  refine Calls.mono (F10.out _) ?_
  rintro e w8 ⟨rfl, b8⟩
  have B8 := hide b8
  clear b8
  go_wp2_with fail
  refine Calls.mono (S11.out _) ?_
  rintro e w' ⟨rfl, rfl⟩
  go_wp2
  go_ret
  exact ⟨ret_bool hend.out, chain (chain (chain (chain (chain (chain (chain B1.out B2.out) B3.out) B4.out) B5.out) B6.out) B7.out) B8.out⟩

theorem law (x : Nat) (lo0 n0 : Int) (w : World) (hx : x < 4294967296) (hl0 : -9223372036854775808 ≤ lo0) (hl1 : lo0 ≤ 9223372036854775807) (hn0 : -9223372036854775808 ≤ n0) (hn1 : n0 ≤ 9223372036854775807) :
    Calls Tryd.prog 7 #[.int .u32 (x : Int), .int .i64 lo0, .int .i64 n0] w fun e w' => e = .returned (.bool true) ∧ Below w.heap.size w w' := by
  obtain ⟨lo, hlo⟩ : ∃ lo : Nat, (lo : Int) = lo0 % 18446744073709551616 % 32 := ⟨(lo0 % 18446744073709551616 % 32).toNat, by omega⟩
  obtain ⟨c, hc⟩ : ∃ c : Nat, (c : Int) = 32 - (lo : Int) := ⟨32 - lo, by omega⟩
  have hcp : (0 : Int) < (c : Int) := by omega
  have m1 := Int.emod_nonneg (n0 % 18446744073709551616) (show (c : Int) ≠ 0 by omega)
  have m2 := Int.emod_lt_of_pos (n0 % 18446744073709551616) hcp
  obtain ⟨d, hd⟩ : ∃ d : Nat, (d : Int) = n0 % 18446744073709551616 % (c : Int) := ⟨(n0 % 18446744073709551616 % (c : Int)).toNat, by omega⟩
  have h1 : 1 ≤ 1 + d := by omega
  have h2 : lo + (1 + d) ≤ 32 := by omega
  have h32 : 1 + d ≤ 32 := by omega
  have hf := fld_lt x lo (1 + d)
  have hf32 := fld_lt32 x lo h32
  have hz := plc_lt (x := x) (lo := lo) (n := 1 + d) (v := 0) hx (Nat.two_pow_pos _) h2
  have hsx := sxt_lt (fld x lo (1 + d)) (1 + d)
  have hg : fld x lo (1 + d) * 2 ^ lo < 4294967296 := by
    have hle : 2 ^ (1 + d) * 2 ^ lo ≤ 4294967296 := by rw [← Nat.pow_add]; exact two_pow_le (by omega)
    exact Nat.lt_of_lt_of_le (Nat.mul_lt_mul_of_pos_right hf (Nat.two_pow_pos lo)) hle
  have g : ∀ {w : World} {op a b r r' : Int}, Does w op a b r → r = r' → Does w op a b r' := fun h e => e ▸ h
  have q : ∀ {w : World} {f : FuncId} {args : Array Value} {r r' : Nat}, Calls Tryd.prog f args w (fun e w' => e = .returned (.tuple #[.int .u32 (r : Int), .nilIface]) ∧ Below w.heap.size w w') → r = r' → Calls Tryd.prog f args w (fun e w' => e = .returned (.tuple #[.int .u32 (r' : Int), .nilIface]) ∧ Below w.heap.size w w') := fun h e => e ▸ h
  have q' : ∀ {w : World} {f : FuncId} {args : Array Value} {r r' : Nat}, Calls Tryd.prog f args w (fun e w' => e = .returned (.tuple #[.int .u32 (r : Int), .nilIface]) ∧ w = w') → r = r' → Calls Tryd.prog f args w (fun e w' => e = .returned (.tuple #[.int .u32 (r' : Int), .nilIface]) ∧ w = w') := fun h e => e ▸ h
  refine walk x lo (1 + d) (fld x lo (1 + d)) (plc x lo (1 + d) 0) (fld x lo (1 + d) * 2 ^ lo) (sxt (fld x lo (1 + d)) (1 + d)) (fld (fld x lo (1 + d)) (1 + d - 1) 1) c d lo0 n0 (sg x) w
    ?_ (by unfold wrap64; omega) (by rw [IntKind.wrap_u64]; omega) (by simp; omega) (by omega) ?_ (by unfold wrap64; omega) (by omega) (by unfold wrap64; omega)
    (by have := sg_ge x; simp; omega) (by have := sg_le hx; simp; omega) (sg (sxt (fld x lo (1 + d)) (1 + d))) (by unfold wrap64; omega) ?_ (fun w => signed_any _ w hsx)
    (fun w => field_any x lo (1 + d) w hx h1 h2) (fun w => q (place_any x lo (1 + d) _ w hx h1 h2 hf) (plc_fld _ _ _)) (fun w => place_any x lo (1 + d) 0 w hx h1 h2 (Nat.two_pow_pos _))
    (fun w => q (place_any _ lo (1 + d) _ w hz h1 h2 hf) (by rw [plc_plc (Nat.two_pow_pos _), plc_fld])) (fun w => q (field_any _ lo (1 + d) w hz h1 h2) (fld_plc (Nat.two_pow_pos _)))
    (fun w => g (do_of (do_shl _ lo w hf32 (by omega))) (by rw [Nat.mod_eq_of_lt (show lo < 32 by omega), Nat.mod_eq_of_lt hg]))
    (fun w => g (do_of (do_or _ _ w hz hg)) (by rw [or_place _ _ _ _ hf, plc_fld])) (fun w => g (do_of (do_and _ _ w hz hg)) (by rw [and_place _ _ _ _ hf]; rfl))
    (fun w => sext_any _ (1 + d) w hf32 h1 h32) (fun w => signed_any x w hx) (fun w => q' (word_any (sg x) w (sg_ge x) (by have := sg_le hx; omega)) (un_sg hx)) (fun w => q' (word_any (x : Int) w (by omega) (by omega)) (un_nat hx))
    (fun w => q (field_any _ 0 (1 + d) w hsx h1 (by omega)) (sxt_low h1 h32 hf)) (fun w => ?_)
  · rw [IntKind.wrap_u64, Int.tmod_eq_emod_of_nonneg (by omega)]
    unfold wrap64
    omega
  · rw [IntKind.wrap_u64, Int.tmod_eq_emod_of_nonneg (by omega), ← hd]
    unfold wrap64
    omega
  · have hs := sxt_sign h1 h32 hf
    unfold Hid
    rw [beq_iff_eq, Bool.eq_iff_iff, decide_eq_true_iff, beq_iff_eq, hs]
    omega
  · have h := field_any (fld x lo (1 + d)) (1 + d - 1) 1 w hf32 (by decide) (by omega)
    rw [show ((1 + d - 1 : Nat) : Int) = ((1 + d : Nat) : Int) - 1 by omega] at h
    exact h
end Go.Proofs.YtbdhlpbddddpeaaDoor.aluFields
