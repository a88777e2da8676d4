/-
  Contracts of the document's Rotate, Ones and Lead, and where its DivWide refuses.
-/
import Derived.Test.YthmibakcjhappaaDoorRefMul
import Derived.Test.YthmibakcjhappaaDoorLenT
namespace FerryAlu
theorem pop_next (k x : Nat) : pop (k + 1) x = pop k x + (x.testBit k).toNat := by
  have h1 := pop_cut k 1 x
  have h2 := pop_cut k 0 x
  rw [show pop 0 (x / 2 ^ k) = 0 from rfl, Nat.add_zero, Nat.add_zero] at h2
  rw [h1, ← h2, show pop 1 (x / 2 ^ k) = x / 2 ^ k % 2 from rfl, Nat.testBit_eq_decide_div_mod_eq]
  rcases Nat.mod_two_eq_zero_or_one (x / 2 ^ k) with h | h <;> simp [h]
/-- The bits that were turned so far. -/
def rtf (x j k : Nat) (i : Nat) : Bool := if (i + 32 - j) % 32 < k then x.testBit ((i + 32 - j) % 32) else false
theorem rot_bits {x j : Nat} (hx : x < 4294967296) (hj : j < 32) (i : Nat) (hi : i < 32) : rtf x j 32 i = (rot x j).testBit i := by
  unfold rtf rot
  rw [if_pos (Nat.mod_lt _ (by decide)), Nat.mul_comm, Nat.testBit_two_pow_mul_add _ (high_lt hx (by omega))]
  by_cases h : i < j
  · rw [if_pos h, Nat.testBit_div_two_pow]
    congr 1
    omega
  · rw [if_neg h, Nat.testBit_mod_two_pow, show (i + 32 - j) % 32 = i - j by omega]
    simp
    intro _
    omega
end FerryAlu
namespace Go.Proofs.YthmibakcjhappaaDoor
open Go.RowKit FerryAlu
set_option linter.unusedVariables false

theorem refDiv_zero (hi lo : Nat) (w : World) :
    Calls Tryd.prog 28 #[.int .u32 (hi : Int), .int .u32 (lo : Int), .int .u32 0] w fun e w' => e = .returned (.tuple #[.int .u32 0, .int .u32 0, .int .i64 20]) ∧ w = w' := by
  go_enter Tryd.func28, Tryd.ntmps28
  go_wp2
  go_ret3
  exact ⟨rfl, rfl⟩
theorem refDiv_range (hi lo c : Nat) (w : World) (h0 : c ≠ 0) (h : c ≤ hi) :
    Calls Tryd.prog 28 #[.int .u32 (hi : Int), .int .u32 (lo : Int), .int .u32 (c : Int)] w fun e w' => e = .returned (.tuple #[.int .u32 0, .int .u32 0, .int .i64 4]) ∧ w = w' := by
  have c0 : ¬ c = 0 := h0
  have c1 : ((c : Int) == 0) = false := by simp; omega
  have c3 : decide (c ≤ hi) = true := by simp; omega
  clear h0
  go_enter Tryd.func28, Tryd.ntmps28
  go_wp2
  go_ret3
  exact ⟨rfl, rfl⟩

set_option maxRecDepth 100000 in
set_option maxHeartbeats 400000 in
theorem refOnes_any (x : Nat) (w : World) (hx : x < 4294967296) :
    Calls Tryd.prog 32 #[.int .u32 (x : Int)] w fun e w' => e = .returned (.int .i64 (pop 32 x : Nat)) ∧ Below w.heap.size w w' := by
  have HR := hide (fun w => row_any x w hx)
  have HI := hide (size62 x.testBit)
  have HA := hide (Tb_all x.testBit 32)
  have HS := hide (Tb_size x.testBit 32)
  go_enter Tryd.func32, Tryd.ntmps32
  go_wp2_with fail
  refine Calls.mono (HR.out _) ?_
  rintro e w1 ⟨rfl, b1⟩
  have B1 := hide b1
  have HR0 := hide (Rw.new w1 x.testBit)
  have HB0 : Hid (Below w.heap.size w (w1.alloc (.cells (Tb x.testBit 32) 62))) := b1.alloc b1.size _
  clear b1 HR
  generalize Tb x.testBit 32 = T at *
  go_wp2_with (refine wpList_store_row rfl 62 _ _ rfl w1.heap.size T rfl rfl 62 _ (zero_heap w1) HI.out (zero_size HS.out) HA.out ?_)
  rw [zero_lay]
  generalize w1.alloc (.cells T 62) = W at *
  have hwB : w.heap.size ≤ w1.heap.size := B1.out.size
  generalize w1.heap.size = B at *
  go_loop [4, 5] (fun n i => ∃ k : Nat, k ≤ 32 ∧ n = .int .i64 (pop k x : Nat) ∧ i = .int .i64 (k : Int)) (fun _ i => 32 - (intOf i).toNat)
  case atStart => exact ⟨0, by omega, rfl, rfl⟩
  case round =>
    obtain ⟨k, hk, rfl, rfl⟩ := hrel
    by_cases hlt : k < 32
    · have hcell := HR0.out.cell k hlt
      have HP := hide (pop_next k x)
      have hpl := pop_le k x
      obtain ⟨bt, hbt⟩ : ∃ bt, x.testBit k = bt := ⟨_, rfl⟩
      rw [hbt] at hcell HP
      clear hbt
      generalize pop k x = p at *
      have e1 : wrap64 ((p : Int) + 1) = (p : Int) + 1 := by unfold wrap64; omega
      cases bt
      · go_wp2
        go_round
        case rel => exact ⟨k + 1, by omega, by rw [HP.out]; simp, by go_num⟩
        case measure => simp [intOf]; omega
      · go_wp2
        go_round
        case rel => exact ⟨k + 1, by omega, by rw [HP.out]; simp, by go_num⟩
        case measure => simp [intOf]; omega
    · obtain rfl : k = 32 := by omega
      go_wp2
      go_ret
      exact ⟨rfl, HB0.out⟩

set_option maxRecDepth 100000 in
set_option maxHeartbeats 400000 in
theorem refLead_any (x : Nat) (w : World) (hx : x < 4294967296) :
    Calls Tryd.prog 34 #[.int .u32 (x : Int)] w fun e w' => e = .returned (.int .i64 ((32 - FerryCrc.lenOf x : Nat) : Int)) ∧ Below w.heap.size w w' := by
  have HR := hide (fun w => row_any x w hx)
  have HI := hide (size62 x.testBit)
  have HA := hide (Tb_all x.testBit 32)
  have HS := hide (Tb_size x.testBit 32)
  go_enter Tryd.func34, Tryd.ntmps34
  go_wp2_with fail
  refine Calls.mono (HR.out _) ?_
  rintro e w1 ⟨rfl, b1⟩
  have B1 := hide b1
  have HR0 := hide (Rw.new w1 x.testBit)
  have HB0 : Hid (Below w.heap.size w (w1.alloc (.cells (Tb x.testBit 32) 62))) := b1.alloc b1.size _
  clear b1 HR
  generalize Tb x.testBit 32 = T at *
  go_wp2_with (refine wpList_store_row rfl 62 _ _ rfl w1.heap.size T rfl rfl 62 _ (zero_heap w1) HI.out (zero_size HS.out) HA.out ?_)
  rw [zero_lay]
  generalize w1.alloc (.cells T 62) = W at *
  have hwB : w.heap.size ≤ w1.heap.size := B1.out.size
  generalize w1.heap.size = B at *
  go_loop [4] (fun n => ∃ k : Nat, k ≤ 32 ∧ n = .int .i64 (k : Int) ∧ ∀ j, j < k → x.testBit (31 - j) = false) (fun n => 32 - (intOf n).toNat)
  case atStart => exact ⟨0, by omega, rfl, fun j hj => absurd hj (by omega)⟩
  case round =>
    obtain ⟨k, hk, rfl, hJ⟩ := hrel
    have HJ := hide hJ
    clear hJ
    by_cases hlt : k < 32
    · have hcell := HR0.out.cell (31 - k) (by omega)
      have d1 : decide ((k : Int) < 32) = true := by simp; omega
      have l1 : (k : Int) < 32 := by omega
      have e1 : wrap64 (31 - (k : Int)) = ((31 - k : Nat) : Int) := by unfold wrap64; omega
      obtain ⟨bt, hbt⟩ : ∃ bt, x.testBit (31 - k) = bt := ⟨_, rfl⟩
      rw [hbt] at hcell
      have HBt := hide hbt
      clear hbt
      cases bt
      · go_wp2
        go_round
        case rel =>
          refine ⟨k + 1, by omega, by go_num, fun j hj => ?_⟩
          by_cases e : j = k
          · subst e; exact HBt.out
          · exact HJ.out j (by omega)
        case measure => simp [intOf]; omega
      · have HL : Hid (32 - FerryCrc.lenOf x = k) := by
          unfold Hid
          have h1 : 2 ^ (31 - k) ≤ x := by
            have := Nat.ge_two_pow_of_testBit HBt.out
            exact this
          have h2 : x < 2 ^ (31 - k + 1) := by
            apply Nat.lt_pow_two_of_testBit
            intro i hi
            by_cases h3 : i < 32
            · have := HJ.out (31 - i) (by omega)
              rw [show 31 - (31 - i) = i by omega] at this
              exact this
            · exact Nat.testBit_lt_two_pow (Nat.lt_of_lt_of_le hx (Nat.pow_le_pow_right (n := 2) (i := 32) (by decide) (by omega)))
          rw [FerryCrc.lenOf_uniq h1 h2]
          omega
        go_wp2
        go_ret
        exact ⟨by rw [HL.out]; rfl, HB0.out⟩
    · obtain rfl : k = 32 := by omega
      have HL : Hid (32 - FerryCrc.lenOf x = 32) := by
        unfold Hid
        have h2 : x < 2 ^ 0 := by
          apply Nat.lt_pow_two_of_testBit
          intro i hi
          by_cases h3 : i < 32
          · have := HJ.out (31 - i) (by omega)
            rw [show 31 - (31 - i) = i by omega] at this
            exact this
          · exact Nat.testBit_lt_two_pow (Nat.lt_of_lt_of_le hx (Nat.pow_le_pow_right (n := 2) (i := 32) (by decide) (by omega)))
        have := FerryCrc.lenOf_le h2
        omega
      go_wp2
      go_ret
      exact ⟨by rw [HL.out]; rfl, HB0.out⟩

set_option maxRecDepth 100000 in
set_option maxHeartbeats 400000 in
theorem refRot_row (x j : Nat) (m : Int) (w : World) (hx : x < 4294967296) (hj : j < 32) (hd : (m.tmod 32 < 0 ∧ wrap64 (m.tmod 32 + 32) = (j : Int)) ∨ (0 ≤ m.tmod 32 ∧ m.tmod 32 = (j : Int))) :
    Calls Tryd.prog 30 #[.int .u32 (x : Int), .int .i64 m] w fun e w' => e = .returned (.int .u32 (rot x j : Nat)) ∧ Below w.heap.size w w' := by
  have HR := hide (fun w => row_any x w hx)
  have HI := hide (size62 x.testBit)
  have HA := hide (Tb_all x.testBit 32)
  have HS := hide (Tb_size x.testBit 32)
  rcases hd with ⟨hd1, hd2⟩ | ⟨hd1, hd2⟩
  · have dd : decide (m.tmod 32 < 0) = true := by simp; omega
    have HD := hide hd2
    clear hd1 hd2
    go_enter Tryd.func30, Tryd.ntmps30
    go_wp2_with fail
    rw [HD.out]
    refine Calls.mono (HR.out _) ?_
    rintro e w1 ⟨rfl, b1⟩
    have B1 := hide b1
    have HR0 := hide (Rw.new w1 x.testBit)
    have HB0 : Hid (Below w.heap.size w (w1.alloc (.cells (Tb x.testBit 32) 62))) := b1.alloc b1.size _
    clear b1 HR
    generalize Tb x.testBit 32 = T at *
    go_wp2_with (refine wpList_store_row rfl 62 _ _ rfl w1.heap.size T rfl rfl 62 _ (zero_heap w1) HI.out (zero_size HS.out) HA.out ?_)
    rw [zero_lay]
    have HF := hide (zero_after HR0.out)
    have HB1 : Hid (Below w.heap.size w ((w1.alloc (.cells T 62)).alloc (.cells #[.bool false, .bool false, .bool false, .bool false, .bool false, .bool false, .bool false, .bool false, .bool false, .bool false, .bool false, .bool false, .bool false, .bool false, .bool false, .bool false, .bool false, .bool false, .bool false, .bool false, .bool false, .bool false, .bool false, .bool false, .bool false, .bool false, .bool false, .bool false, .bool false, .bool false, .bool false, .bool false] 62))) := HB0.out.alloc HB0.out.size _
    generalize (w1.alloc (.cells T 62)).alloc (.cells #[.bool false, .bool false, .bool false, .bool false, .bool false, .bool false, .bool false, .bool false, .bool false, .bool false, .bool false, .bool false, .bool false, .bool false, .bool false, .bool false, .bool false, .bool false, .bool false, .bool false, .bool false, .bool false, .bool false, .bool false, .bool false, .bool false, .bool false, .bool false, .bool false, .bool false, .bool false, .bool false] 62) = W at *
    have hwB : w.heap.size ≤ w1.heap.size := B1.out.size
    clear HR0 HB0 B1
    generalize w1.heap.size = B at *
    go_loopw [7] (fun i wr => ∃ k : Nat, k ≤ 32 ∧ i = .int .i64 (k : Int) ∧ Rw wr B x.testBit ∧ Rw wr (B + 1) (rtf x j k) ∧ Below w.heap.size w wr) (fun i _ => 32 - (intOf i).toNat)
    case atStart => exact ⟨0, by omega, rfl, HF.out.1, HF.out.2.congr (fun i _ => by unfold rtf; rw [if_neg (by omega)]), HB1.out⟩
    case round =>
      obtain ⟨k, hk2, rfl, hR, hF, hB⟩ := hrel
      have HRw := hide hR
      have HFw := hide hF
      have HBw := hide hB
      clear hR hF hB
      by_cases hlt : k < 32
      · have hkj : (k + j) % 32 < 32 := Nat.mod_lt _ (by decide)
        have c1 := HRw.out.cell k hlt
        have c2 := HFw.out.cell ((k + j) % 32) hkj
        have f2 := HFw.out.frozen ((k + j) % 32)
        have e1 : wrap64 ((k : Int) + (j : Int)) = (k : Int) + (j : Int) := by unfold wrap64; omega
        have e2 : ((k : Int) + (j : Int)).tmod 32 = (((k + j) % 32 : Nat) : Int) := by rw [Int.tmod_eq_emod_of_nonneg (by omega)]; omega
        have e3 : ((k : Int) + (j : Int)) % 32 = (((k + j) % 32 : Nat) : Int) := by omega
        have HN : Hid (∀ wr : World, Rw wr (B + 1) (rtf x j k) → Rw (wr.setCell ⟨B + 1, (k + j) % 32, none⟩ (.bool (x.testBit k))) (B + 1) (rtf x j (k + 1))) := fun wr h => (h.set ((k + j) % 32) (x.testBit k) hkj).congr (fun i hi => by
          unfold rtf
          by_cases h : i = (k + j) % 32
          · rw [if_pos h, show (i + 32 - j) % 32 = k by omega, if_pos (by omega)]
          · rw [if_neg h]
            by_cases h3 : (i + 32 - j) % 32 < k
            · rw [if_pos h3, if_pos (by omega)]
            · rw [if_neg h3, if_neg (by omega)])
        generalize x.testBit k = bt at *
        generalize rtf x j k ((k + j) % 32) = old at *
        generalize (k + j) % 32 = p at *
        go_wp2
        go_roundw
        case rel => exact ⟨k + 1, by omega, by go_num, HRw.out.other _ _ (by simp), HN.out _ HFw.out, HBw.out.setCell (by show w.heap.size ≤ B + 1; omega) _⟩
        case measure => simp [intOf]; omega
      · obtain rfl : k = 32 := by omega
        have HNu := hide (fun w => number_any (rtf x j 32) w)
        rw [nm_eq (rot_lt hx (show j ≤ 32 by omega)) (fun i hi => rot_bits hx hj i hi)] at HNu
        have HI2 := hide (size62 (rtf x j 32))
        have HR2 := HFw
        unfold Rw at HR2
        generalize Tb (rtf x j 32) 32 = T2 at *
        go_wp2_with (refine wpList_load_row rfl 62 _ rfl (B + 1) rfl 62 T2 (0, 0) _ HR2.out Tryd.underlying62 rfl HI2.out ?_)
        refine Calls.mono (HNu.out _) ?_
        rintro e w2 ⟨rfl, b2⟩
        go_wp2
        go_ret
        exact ⟨rfl, HBw.out.trans (b2.mono HBw.out.size)⟩
  · have dd : decide (m.tmod 32 < 0) = false := by simp; omega
    have HD := hide hd2
    clear hd1 hd2
    go_enter Tryd.func30, Tryd.ntmps30
    go_wp2_with fail
    rw [HD.out]
    refine Calls.mono (HR.out _) ?_
    rintro e w1 ⟨rfl, b1⟩
    have B1 := hide b1
    have HR0 := hide (Rw.new w1 x.testBit)
    have HB0 : Hid (Below w.heap.size w (w1.alloc (.cells (Tb x.testBit 32) 62))) := b1.alloc b1.size _
    clear b1 HR
    generalize Tb x.testBit 32 = T at *
    go_wp2_with (refine wpList_store_row rfl 62 _ _ rfl w1.heap.size T rfl rfl 62 _ (zero_heap w1) HI.out (zero_size HS.out) HA.out ?_)
    rw [zero_lay]
    have HF := hide (zero_after HR0.out)
    have HB1 : Hid (Below w.heap.size w ((w1.alloc (.cells T 62)).alloc (.cells #[.bool false, .bool false, .bool false, .bool false, .bool false, .bool false, .bool false, .bool false, .bool false, .bool false, .bool false, .bool false, .bool false, .bool false, .bool false, .bool false, .bool false, .bool false, .bool false, .bool false, .bool false, .bool false, .bool false, .bool false, .bool false, .bool false, .bool false, .bool false, .bool false, .bool false, .bool false, .bool false] 62))) := HB0.out.alloc HB0.out.size _
    generalize (w1.alloc (.cells T 62)).alloc (.cells #[.bool false, .bool false, .bool false, .bool false, .bool false, .bool false, .bool false, .bool false, .bool false, .bool false, .bool false, .bool false, .bool false, .bool false, .bool false, .bool false, .bool false, .bool false, .bool false, .bool false, .bool false, .bool false, .bool false, .bool false, .bool false, .bool false, .bool false, .bool false, .bool false, .bool false, .bool false, .bool false] 62) = W at *
    have hwB : w.heap.size ≤ w1.heap.size := B1.out.size
    clear HR0 HB0 B1
    generalize w1.heap.size = B at *
    go_loopw [7] (fun i wr => ∃ k : Nat, k ≤ 32 ∧ i = .int .i64 (k : Int) ∧ Rw wr B x.testBit ∧ Rw wr (B + 1) (rtf x j k) ∧ Below w.heap.size w wr) (fun i _ => 32 - (intOf i).toNat)
    case atStart => exact ⟨0, by omega, rfl, HF.out.1, HF.out.2.congr (fun i _ => by unfold rtf; rw [if_neg (by omega)]), HB1.out⟩
    case round =>
      obtain ⟨k, hk2, rfl, hR, hF, hB⟩ := hrel
      have HRw := hide hR
      have HFw := hide hF
      have HBw := hide hB
      clear hR hF hB
      by_cases hlt : k < 32
      · have hkj : (k + j) % 32 < 32 := Nat.mod_lt _ (by decide)
        have c1 := HRw.out.cell k hlt
        have c2 := HFw.out.cell ((k + j) % 32) hkj
        have f2 := HFw.out.frozen ((k + j) % 32)
        have e1 : wrap64 ((k : Int) + (j : Int)) = (k : Int) + (j : Int) := by unfold wrap64; omega
        have e2 : ((k : Int) + (j : Int)).tmod 32 = (((k + j) % 32 : Nat) : Int) := by rw [Int.tmod_eq_emod_of_nonneg (by omega)]; omega
        have e3 : ((k : Int) + (j : Int)) % 32 = (((k + j) % 32 : Nat) : Int) := by omega
        have HN : Hid (∀ wr : World, Rw wr (B + 1) (rtf x j k) → Rw (wr.setCell ⟨B + 1, (k + j) % 32, none⟩ (.bool (x.testBit k))) (B + 1) (rtf x j (k + 1))) := fun wr h => (h.set ((k + j) % 32) (x.testBit k) hkj).congr (fun i hi => by
          unfold rtf
          by_cases h : i = (k + j) % 32
          · rw [if_pos h, show (i + 32 - j) % 32 = k by omega, if_pos (by omega)]
          · rw [if_neg h]
            by_cases h3 : (i + 32 - j) % 32 < k
            · rw [if_pos h3, if_pos (by omega)]
            · rw [if_neg h3, if_neg (by omega)])
        generalize x.testBit k = bt at *
        generalize rtf x j k ((k + j) % 32) = old at *
        generalize (k + j) % 32 = p at *
        go_wp2
        go_roundw
        case rel => exact ⟨k + 1, by omega, by go_num, HRw.out.other _ _ (by simp), HN.out _ HFw.out, HBw.out.setCell (by show w.heap.size ≤ B + 1; omega) _⟩
        case measure => simp [intOf]; omega
      · obtain rfl : k = 32 := by omega
        have HNu := hide (fun w => number_any (rtf x j 32) w)
        rw [nm_eq (rot_lt hx (show j ≤ 32 by omega)) (fun i hi => rot_bits hx hj i hi)] at HNu
        have HI2 := hide (size62 (rtf x j 32))
        have HR2 := HFw
        unfold Rw at HR2
        generalize Tb (rtf x j 32) 32 = T2 at *
        go_wp2_with (refine wpList_load_row rfl 62 _ rfl (B + 1) rfl 62 T2 (0, 0) _ HR2.out Tryd.underlying62 rfl HI2.out ?_)
        refine Calls.mono (HNu.out _) ?_
        rintro e w2 ⟨rfl, b2⟩
        go_wp2
        go_ret
        exact ⟨rfl, HBw.out.trans (b2.mono HBw.out.size)⟩

theorem refRot_any (x : Nat) (m : Int) (w : World) (hx : x < 4294967296) :
    Calls Tryd.prog 30 #[.int .u32 (x : Int), .int .i64 m] w fun e w' => e = .returned (.int .u32 (rot x (m % 32).toNat : Nat)) ∧ Below w.heap.size w w' := by
  have h := tmod_size (a := m) (b := 32) (by decide)
  have h2 := Int.mul_tdiv_add_tmod m 32
  refine refRot_row x (m % 32).toNat m w hx (by omega) ?_
  by_cases hn : m.tmod 32 < 0
  · exact .inl ⟨hn, by unfold wrap64; omega⟩
  · exact .inr ⟨by omega, by omega⟩
end Go.Proofs.YthmibakcjhappaaDoor
