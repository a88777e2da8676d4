/-
  Contracts of the document's Signed, Word, Sext, Field and Place.
-/
import Derived.Test.YthmibakcjhappaaDoorRefRow
import Derived.Deep.WholeRow
namespace Go.Proofs.YthmibakcjhappaaDoor
open Go.RowKit FerryAlu
set_option linter.unusedVariables false

theorem ret_w0 {a b c : Int} (h : a = b) : Ending.returned (.tuple #[.int .u32 a, .int .i64 c]) = .returned (.tuple #[.int .u32 b, .int .i64 c]) := by rw [h]

theorem refSigned_any (x : Nat) (w : World) (hx : x < 4294967296) :
    Calls Tryd.prog 15 #[.int .u32 (x : Int)] w fun e w' => e = .returned (.int .i64 (sg x)) ∧ w = w' := by
  by_cases h : x < 2147483648
  · have d : decide ((2147483648 : Int) ≤ (x : Int)) = false := by simp; omega
    have e1 : sg x = (x : Int) := by unfold sg; rw [if_pos h]
    go_enter Tryd.func15, Tryd.ntmps15
    go_wp2
    go_ret
    exact ⟨ret_int e1.symm, rfl⟩
  · have d : decide ((2147483648 : Int) ≤ (x : Int)) = true := by simp; omega
    have e1 : sg x = (x : Int) - 4294967296 := by unfold sg; rw [if_neg h]
    have e2 : wrap64 ((x : Int) - 4294967296) = (x : Int) - 4294967296 := by unfold wrap64; omega
    go_enter Tryd.func15, Tryd.ntmps15
    go_wp2
    go_ret
    exact ⟨ret_int e1.symm, rfl⟩

theorem refWord_good (k : Int) (w : World) (h1 : -2147483648 ≤ k) (h2 : k ≤ 4294967295) :
    Calls Tryd.prog 12 #[.int .i64 k] w fun e w' => e = .returned (.tuple #[.int .u32 (un k : Nat), .int .i64 0]) ∧ w = w' := by
  go_enter Tryd.func12, Tryd.ntmps12
  go_wp2
  all_goals (go_ret2; exact ⟨ret_w0 (by rw [un_cast]; omega), rfl⟩)
theorem refWord_bad (k : Int) (w : World) (h : k < -2147483648 ∨ 4294967295 < k) :
    Calls Tryd.prog 12 #[.int .i64 k] w fun e w' => e = .returned (.tuple #[.int .u32 0, .int .i64 4]) ∧ w = w' := by
  have d : (decide (k < -2147483648) || decide (4294967295 < k)) = true := by simpa using h
  go_enter Tryd.func12, Tryd.ntmps12
  go_wp2
  all_goals first | (exfalso; omega) | (go_ret2; exact ⟨rfl, rfl⟩)
theorem refSext_bad (x : Nat) (n : Int) (w : World) (h : n < 1 ∨ 32 < n) :
    Calls Tryd.prog 16 #[.int .u32 (x : Int), .int .i64 n] w fun e w' => e = .returned (.tuple #[.int .u32 0, .int .i64 12]) ∧ w = w' := by
  go_enter Tryd.func16, Tryd.ntmps16
  go_wp2_with fail
  all_goals first | (exfalso; omega) | (go_ret2; exact ⟨rfl, rfl⟩)

theorem within_yes (lo n : Nat) (w : World) (h1 : 1 ≤ n) (h2 : lo + n ≤ 32) :
    Calls Tryd.prog 47 #[.int .i64 (lo : Int), .int .i64 (n : Int)] w fun e w' => e = .returned (.bool true) ∧ w = w' := by
  have d1 : decide ((0 : Int) ≤ (lo : Int)) = true := by simp
  have d2 : decide ((lo : Int) ≤ 31) = true := by simp; omega
  have d3 : decide ((1 : Int) ≤ (n : Int)) = true := by simp; omega
  have d4 : decide ((n : Int) ≤ 32) = true := by simp; omega
  have e1 : wrap64 ((lo : Int) + (n : Int)) = (lo : Int) + (n : Int) := by unfold wrap64; omega
  have d5 : decide ((lo : Int) + (n : Int) ≤ 32) = true := by simp; omega
  go_enter Tryd.func47, Tryd.ntmps47
  go_wp2
  go_ret
  exact ⟨rfl, rfl⟩

/-- The bits of a word with those from n to k - 1 set as bit p. -/
def sxf (x p k : Nat) (i : Nat) : Bool := if p + 1 ≤ i ∧ i < k then x.testBit p else x.testBit i

set_option maxRecDepth 100000 in
set_option maxHeartbeats 400000 in
theorem refSext_row (x n p : Nat) (w : World) (hx : x < 4294967296) (h2 : p < 32) (hn : n = p + 1) :
    Calls Tryd.prog 16 #[.int .u32 (x : Int), .int .i64 (n : Int)] w fun e w' => e = .returned (.tuple #[.int .u32 (nm (sxf x p 32) 32 : Nat), .int .i64 0]) ∧ Below w.heap.size w w' := by
  have d1 : decide ((n : Int) < 1) = false := by simp; omega
  have d2 : decide ((32 : Int) < (n : Int)) = false := by simp; omega
  have e0 : wrap64 ((n : Int) - 1) = (p : Int) := by unfold wrap64; omega
  have hn1 : 1 ≤ n := by omega
  have hn2 : n ≤ 32 := by omega
  have HN0 := hide hn
  clear hn
  have HR := hide (row_any x w hx)
  have HI := hide (size62 x.testBit)
  have HA := hide (Tb_all x.testBit 32)
  have HS := hide (Tb_size x.testBit 32)
  go_enter Tryd.func16, Tryd.ntmps16
  go_wp2_with fail
  refine Calls.mono HR.out ?_
  rintro e w1 ⟨rfl, b1⟩
  have B1 := hide b1
  have HR0 := hide (Rw.new w1 x.testBit)
  have HB0 : Hid (Below w.heap.size w (w1.alloc (.cells (Tb x.testBit 32) 62))) := b1.alloc b1.size _
  clear b1 HR
  generalize Tb x.testBit 32 = T at *
  go_wp2_with (refine wpList_store_row rfl 62 _ _ rfl w1.heap.size T rfl rfl 62 _ (zero_heap w1) HI.out (zero_size HS.out) HA.out ?_)
  rw [zero_lay]
  generalize w1.alloc (.cells T 62) = W at *
  have hwB : w.heap.size ≤ w1.heap.size := B1.out.size
  generalize w1.heap.size = B at *
  go_loopw [7] (fun i wr => ∃ k : Nat, p + 1 ≤ k ∧ k ≤ 32 ∧ i = .int .i64 (k : Int) ∧ Rw wr B (sxf x p k) ∧ Below w.heap.size w wr) (fun i _ => 32 - (intOf i).toNat)
  case atStart => exact ⟨n, by have := HN0.out; omega, by omega, rfl, HR0.out.congr (fun i _ => by have := HN0.out; unfold sxf; rw [if_neg (by omega)]), HB0.out⟩
  case round =>
    obtain ⟨k, hk1, hk2, rfl, hR, hB⟩ := hrel
    have HRw := hide hR
    have HBw := hide hB
    clear hR hB
    by_cases hlt : k < 32
    · have c1 := HRw.out.cell p (by omega)
      have c2 := HRw.out.cell k hlt
      have f2 := HRw.out.frozen k
      have e1 : sxf x p k p = x.testBit p := by unfold sxf; rw [if_neg (by omega)]
      rw [e1, show p = n - 1 by have := HN0.out; omega] at c1
      rw [show x.testBit (n - 1) = x.testBit p by rw [show n - 1 = p by have := HN0.out; omega]] at c1
      have HN : Hid (∀ wr : World, Rw wr B (sxf x p k) → Rw (wr.setCell ⟨B, k, none⟩ (.bool (x.testBit p))) B (sxf x p (k + 1))) := fun wr h => (h.set k (x.testBit p) hlt).congr (fun i _ => by
        unfold sxf
        by_cases h : i = k
        · subst h; rw [if_pos rfl, if_pos (by omega)]
        · rw [if_neg h]
          by_cases h3 : p + 1 ≤ i ∧ i < k
          · rw [if_pos h3, if_pos (by omega)]
          · rw [if_neg h3, if_neg (by omega)])
      generalize x.testBit p = bt at *
      generalize sxf x p k k = old at *
      go_wp2
      go_roundw
      case rel => exact ⟨k + 1, by omega, by omega, by go_num, HN.out _ HRw.out, HBw.out.setCell hwB _⟩
      case measure => simp [intOf]; omega
    · obtain rfl : k = 32 := by omega
      have HNu := hide (fun w => number_any (sxf x p 32) w)
      have HI2 := hide (size62 (sxf x p 32))
      have HR2 := HRw
      unfold Rw at HR2
      generalize Tb (sxf x p 32) 32 = T2 at *
      go_wp2_with (refine wpList_load_row rfl 62 _ rfl B rfl 62 T2 (0, 0) _ HR2.out Tryd.underlying62 rfl HI2.out ?_)
      refine Calls.mono (HNu.out _) ?_
      rintro e w2 ⟨rfl, b2⟩
      go_wp2
      go_ret2
      exact ⟨rfl, HBw.out.trans (b2.mono HBw.out.size)⟩

theorem sxt_bits (x p : Nat) (hp : p < 32) (i : Nat) (hi : i < 32) : sxf x p 32 i = (sxt x (p + 1)).testBit i := by
  have h1 : 1 ≤ p + 1 := by omega
  have h2 : p + 1 ≤ 32 := by omega
  obtain ⟨p1, p2, p3⟩ := pow_parts h1 h2
  have e0 : sxt x (p + 1) = sxt (x % 2 ^ (p + 1)) (p + 1) := by
    unfold sxt
    have h := Nat.mul_mod_mul_right (2 ^ (32 - (p + 1))) x (2 ^ (p + 1))
    rw [p2] at h
    rw [h, Nat.mod_eq_of_lt (a := x % 2 ^ (p + 1) * 2 ^ (32 - (p + 1)))]
    rw [← p2]
    exact Nat.mul_lt_mul_of_pos_right (Nat.mod_lt _ (Nat.two_pow_pos _)) (Nat.two_pow_pos _)
  have hy : x % 2 ^ (p + 1) < 2 ^ (p + 1) := Nat.mod_lt _ (Nat.two_pow_pos _)
  rw [e0, sxt_small h1 h2 hy]
  have hb : ∀ j, (x % 2 ^ (p + 1)).testBit j = (decide (j < p + 1) && x.testBit j) := fun j => Nat.testBit_mod_two_pow _ _ _
  have htop : x.testBit p = decide (2 ^ p ≤ x % 2 ^ (p + 1)) := by
    have h := hb p
    rw [show decide (p < p + 1) = true by simp, Bool.true_and] at h
    rw [← h, Nat.testBit_eq_decide_div_mod_eq]
    have hpos : 0 < 2 ^ p := Nat.two_pow_pos p
    rw [Nat.pow_succ] at hy ⊢
    generalize x % (2 ^ p * 2) = y at *
    by_cases hc : 2 ^ p ≤ y
    · rw [show y / 2 ^ p = 1 from Nat.div_eq_of_lt_le (by omega) (by omega)]
      simp [hc]
    · rw [Nat.div_eq_of_lt (by omega)]
      simp [hc]
  unfold sxf
  rw [htop, show p + 1 - 1 = p by omega]
  by_cases hc : x % 2 ^ (p + 1) < 2 ^ p
  · rw [if_pos hc, hb]
    by_cases h3 : p + 1 ≤ i ∧ i < 32
    · rw [if_pos h3]
      simp [show ¬ i < p + 1 by omega, show ¬ 2 ^ p ≤ x % 2 ^ (p + 1) by omega]
    · rw [if_neg h3]
      simp [show i < p + 1 by omega]
  · rw [if_neg hc]
    have e : x % 2 ^ (p + 1) + (4294967296 - 2 ^ (p + 1)) = 2 ^ (p + 1) * (2 ^ (32 - (p + 1)) - 1) + x % 2 ^ (p + 1) := by
      rw [Nat.mul_sub, p2, Nat.mul_one, Nat.add_comm]
    rw [e, Nat.testBit_two_pow_mul_add _ hy, hb, Nat.testBit_two_pow_sub_one]
    by_cases h3 : p + 1 ≤ i ∧ i < 32
    · rw [if_pos h3, if_neg (by omega)]
      simp [show 2 ^ p ≤ x % 2 ^ (p + 1) by omega]
      omega
    · rw [if_neg h3, if_pos (by omega)]
      simp [show i < p + 1 by omega]

theorem refSext_any (x n : Nat) (w : World) (hx : x < 4294967296) (h1 : 1 ≤ n) (h2 : n ≤ 32) :
    Calls Tryd.prog 16 #[.int .u32 (x : Int), .int .i64 (n : Int)] w fun e w' => e = .returned (.tuple #[.int .u32 (sxt x n : Nat), .int .i64 0]) ∧ Below w.heap.size w w' := by
  obtain ⟨p, rfl⟩ : ∃ p, n = p + 1 := ⟨n - 1, by omega⟩
  have h := refSext_row x (p + 1) p w hx (by omega) rfl
  rw [nm_eq (sxt_lt x (p + 1)) (fun i hi => sxt_bits x p (by omega) i hi)] at h
  exact h

/-- The first k of the bits of x from lo on. -/
def fdf (x lo k : Nat) (i : Nat) : Bool := if i < k then x.testBit (lo + i) else false

set_option maxRecDepth 100000 in
set_option maxHeartbeats 400000 in
theorem refField_row (x lo n : Nat) (w : World) (hx : x < 4294967296) (h1 : 1 ≤ n) (h2 : lo + n ≤ 32) :
    Calls Tryd.prog 18 #[.int .u32 (x : Int), .int .i64 (lo : Int), .int .i64 (n : Int)] w fun e w' => e = .returned (.tuple #[.int .u32 (nm (fdf x lo n) 32 : Nat), .int .i64 0]) ∧ Below w.heap.size w w' := by
  have HW := hide (within_yes lo n w h1 h2)
  have HR := hide (row_any x w hx)
  have HI := hide (size62 x.testBit)
  have HA := hide (Tb_all x.testBit 32)
  have HS := hide (Tb_size x.testBit 32)
  go_enter Tryd.func18, Tryd.ntmps18
  go_wp2_with fail
  refine Calls.mono HW.out ?_
  rintro e w0 ⟨rfl, rfl⟩
  go_wp2_with fail
  refine Calls.mono HR.out ?_
  rintro e w1 ⟨rfl, b1⟩
  have B1 := hide b1
  have HR0 := hide (Rw.new w1 x.testBit)
  have HB0 : Hid (Below w.heap.size w (w1.alloc (.cells (Tb x.testBit 32) 62))) := b1.alloc b1.size _
  clear b1 HR
  generalize Tb x.testBit 32 = T at *
  go_wp2_with (refine wpList_store_row rfl 62 _ _ rfl w1.heap.size T rfl rfl 62 _ (zero_heap w1) HI.out (zero_size HS.out) HA.out ?_)
  rw [zero_lay]
  have HF := hide (zero_after HR0.out)
  have HB1 : Hid (Below w.heap.size w ((w1.alloc (.cells T 62)).alloc (.cells #[.bool false, .bool false, .bool false, .bool false, .bool false, .bool false, .bool false, .bool false, .bool false, .bool false, .bool false, .bool false, .bool false, .bool false, .bool false, .bool false, .bool false, .bool false, .bool false, .bool false, .bool false, .bool false, .bool false, .bool false, .bool false, .bool false, .bool false, .bool false, .bool false, .bool false, .bool false, .bool false] 62))) := HB0.out.alloc HB0.out.size _
  generalize (w1.alloc (.cells T 62)).alloc (.cells #[.bool false, .bool false, .bool false, .bool false, .bool false, .bool false, .bool false, .bool false, .bool false, .bool false, .bool false, .bool false, .bool false, .bool false, .bool false, .bool false, .bool false, .bool false, .bool false, .bool false, .bool false, .bool false, .bool false, .bool false, .bool false, .bool false, .bool false, .bool false, .bool false, .bool false, .bool false, .bool false] 62) = W at *
  have hwB : w.heap.size ≤ w1.heap.size := B1.out.size
  clear HR0 HB0 B1
  generalize w1.heap.size = B at *
  go_loopw [10] (fun i wr => ∃ k : Nat, k ≤ n ∧ i = .int .i64 (k : Int) ∧ Rw wr B x.testBit ∧ Rw wr (B + 1) (fdf x lo k) ∧ Below w.heap.size w wr) (fun i _ => n - (intOf i).toNat)
  case atStart => exact ⟨0, by omega, rfl, HF.out.1, HF.out.2.congr (fun i _ => by unfold fdf; rw [if_neg (by omega)]), HB1.out⟩
  case round =>
    obtain ⟨k, hk2, rfl, hR, hF, hB⟩ := hrel
    have HRw := hide hR
    have HFw := hide hF
    have HBw := hide hB
    clear hR hF hB
    by_cases hlt : k < n
    · have c1 := HRw.out.cell (lo + k) (by omega)
      have c2 := HFw.out.cell k (by omega)
      have f2 := HFw.out.frozen k
      have e1 : wrap64 ((lo : Int) + (k : Int)) = ((lo + k : Nat) : Int) := by unfold wrap64; omega
      have hk32 : k < 32 := by omega
      have hlk : lo + k < 32 := by omega
      have d1 : decide ((k : Int) < (n : Int)) = true := by simp; omega
      have HN : Hid (∀ wr : World, Rw wr (B + 1) (fdf x lo k) → Rw (wr.setCell ⟨B + 1, k, none⟩ (.bool (x.testBit (lo + k)))) (B + 1) (fdf x lo (k + 1))) := fun wr h => (h.set k (x.testBit (lo + k)) hk32).congr (fun i _ => by
        unfold fdf
        by_cases h : i = k
        · subst h; rw [if_pos rfl, if_pos (by omega)]
        · rw [if_neg h]
          by_cases h3 : i < k
          · rw [if_pos h3, if_pos (by omega)]
          · rw [if_neg h3, if_neg (by omega)])
      generalize x.testBit (lo + k) = bt at *
      generalize fdf x lo k k = old at *
      go_wp2
      go_roundw
      case rel => exact ⟨k + 1, by omega, by go_num, HRw.out.other _ _ (by simp), HN.out _ HFw.out, HBw.out.setCell (by show w.heap.size ≤ B + 1; omega) _⟩
      case measure => simp [intOf]; omega
    · obtain rfl : k = n := by omega
      have d1 : decide ((k : Int) < (k : Int)) = false := by simp
      have HNu := hide (fun w => number_any (fdf x lo k) w)
      have HI2 := hide (size62 (fdf x lo k))
      have HR2 := HFw
      unfold Rw at HR2
      generalize Tb (fdf x lo k) 32 = T2 at *
      go_wp2_with (refine wpList_load_row rfl 62 _ rfl (B + 1) rfl 62 T2 (0, 0) _ HR2.out Tryd.underlying62 rfl HI2.out ?_)
      refine Calls.mono (HNu.out _) ?_
      rintro e w2 ⟨rfl, b2⟩
      go_wp2
      go_ret2
      exact ⟨rfl, HBw.out.trans (b2.mono HBw.out.size)⟩

theorem refField_any (x lo n : Nat) (w : World) (hx : x < 4294967296) (h1 : 1 ≤ n) (h2 : lo + n ≤ 32) :
    Calls Tryd.prog 18 #[.int .u32 (x : Int), .int .i64 (lo : Int), .int .i64 (n : Int)] w fun e w' => e = .returned (.tuple #[.int .u32 (fld x lo n : Nat), .int .i64 0]) ∧ Below w.heap.size w w' := by
  have h := refField_row x lo n w hx h1 h2
  rw [nm_eq (fld_lt32 x lo (n := n) (by omega)) (fun i hi => by
    unfold fdf fld
    rw [Nat.testBit_mod_two_pow, Nat.testBit_div_two_pow, Nat.add_comm i lo]
    by_cases h3 : i < n <;> simp [h3])] at h
  exact h
end Go.Proofs.YthmibakcjhappaaDoor
