/-
  Contract of the document's Place.
-/
import Derived.Test.YthmibakcjhappaaDoorRefCut
namespace Go.Proofs.YthmibakcjhappaaDoor
open Go.RowKit FerryAlu
set_option linter.unusedVariables false

/-- x with the first k bits of v laid from lo on. -/
def plf (x lo n v k : Nat) (i : Nat) : Bool := if lo ≤ i ∧ i < lo + n ∧ i < lo + k then v.testBit (i - lo) else x.testBit i
theorem high_zero {v n : Nat} (hv : v < 4294967296) (h : ∀ j, n ≤ j → j < 32 → v.testBit j = false) : v < 2 ^ n := by
  apply Nat.lt_pow_two_of_testBit
  intro i hi
  by_cases h3 : i < 32
  · exact h i hi h3
  · exact Nat.testBit_lt_two_pow (Nat.lt_of_lt_of_le hv (Nat.pow_le_pow_right (n := 2) (i := 32) (by decide) (by omega)))
theorem not_small {v n j : Nat} (hj : n ≤ j) (h : v.testBit j = true) : ¬ v < 2 ^ n := fun hc => by
  have := Nat.testBit_lt_two_pow (Nat.lt_of_lt_of_le hc (Nat.pow_le_pow_right (n := 2) (by decide) hj))
  rw [this] at h
  cases h

set_option maxRecDepth 100000 in
set_option maxHeartbeats 400000 in
theorem refPlace_row (x lo n v : Nat) (w : World) (hx : x < 4294967296) (hv : v < 4294967296) (h1 : 1 ≤ n) (h2 : lo + n ≤ 32) (r : Nat) (c : Int) (h3 : v < 2 ^ n → r = nm (plf x lo n v 32) 32 ∧ c = 0) (h4 : ¬ v < 2 ^ n → r = 0 ∧ c = 4) :
    Calls Tryd.prog 19 #[.int .u32 (x : Int), .int .i64 (lo : Int), .int .i64 (n : Int), .int .u32 (v : Int)] w fun e w' => e = .returned (.tuple #[.int .u32 (r : Int), .int .i64 c]) ∧ Below w.heap.size w w' := by
  have H3 := hide h3
  have H4 := hide h4
  have HV0 := hide hv
  clear h3 h4
  have HW := hide (within_yes lo n w h1 h2)
  have HR := hide (row_any x w hx)
  have HV := hide (fun w => row_any v w hv)
  have HI := hide (size62 x.testBit)
  have HA := hide (Tb_all x.testBit 32)
  have HS := hide (Tb_size x.testBit 32)
  have HIv := hide (size62 v.testBit)
  have HAv := hide (Tb_all v.testBit 32)
  have HSv := hide (Tb_size v.testBit 32)
  go_enter Tryd.func19, Tryd.ntmps19
  go_wp2_with fail
  refine Calls.mono HW.out ?_
  rintro e w0 ⟨rfl, rfl⟩
  go_wp2_with fail
  refine Calls.mono HR.out ?_
  rintro e w1 ⟨rfl, b1⟩
  have B1 := hide b1
  obtain ⟨T, hT0⟩ : ∃ T, Tb x.testBit 32 = T := ⟨_, rfl⟩
  have hT := hide hT0
  rw [hT0] at HI HA HS ⊢
  clear b1 HR hT0
  go_wp2_with fail
  refine Calls.mono (HV.out _) ?_
  rintro e w2 ⟨rfl, b2⟩
  have B2 := hide b2
  obtain ⟨T2, hT2⟩ : ∃ T2, Tb v.testBit 32 = T2 := ⟨_, rfl⟩
  have HZ := hide (zero2_rows (w := w2) x.testBit v.testBit hT.out hT2)
  rw [hT2] at HIv HAv HSv ⊢
  clear b2 HV hT2 hT
  go_wp2_with (first | refine wpList_store_row rfl 62 _ _ rfl w2.heap.size T rfl rfl 62 _ (zero2_a w2) HI.out (zero_size HS.out) HA.out ?_ | refine wpList_store_row rfl 62 _ _ rfl (w2.heap.size + 1) T2 rfl rfl 62 _ (zero2_b w2 T) HIv.out (zero_size HSv.out) HAv.out ?_)
  have HB : Hid (Below w.heap.size w ((((w2.alloc (.cells #[.bool false, .bool false, .bool false, .bool false, .bool false, .bool false, .bool false, .bool false, .bool false, .bool false, .bool false, .bool false, .bool false, .bool false, .bool false, .bool false, .bool false, .bool false, .bool false, .bool false, .bool false, .bool false, .bool false, .bool false, .bool false, .bool false, .bool false, .bool false, .bool false, .bool false, .bool false, .bool false] 62)).alloc (.cells #[.bool false, .bool false, .bool false, .bool false, .bool false, .bool false, .bool false, .bool false, .bool false, .bool false, .bool false, .bool false, .bool false, .bool false, .bool false, .bool false, .bool false, .bool false, .bool false, .bool false, .bool false, .bool false, .bool false, .bool false, .bool false, .bool false, .bool false, .bool false, .bool false, .bool false, .bool false, .bool false] 62)).setRow w2.heap.size T).setRow (w2.heap.size + 1) T2)) := (B1.out.trans (B2.out.mono B1.out.size)).trans (HZ.out.2.2.mono (Nat.le_trans B1.out.size B2.out.size))
  have hwB : w.heap.size ≤ w2.heap.size := Nat.le_trans B1.out.size B2.out.size
  have HX := hide HZ.out.1
  have HY := hide HZ.out.2.1
  clear HZ B1 B2
  generalize ((((w2.alloc (.cells #[.bool false, .bool false, .bool false, .bool false, .bool false, .bool false, .bool false, .bool false, .bool false, .bool false, .bool false, .bool false, .bool false, .bool false, .bool false, .bool false, .bool false, .bool false, .bool false, .bool false, .bool false, .bool false, .bool false, .bool false, .bool false, .bool false, .bool false, .bool false, .bool false, .bool false, .bool false, .bool false] 62)).alloc (.cells #[.bool false, .bool false, .bool false, .bool false, .bool false, .bool false, .bool false, .bool false, .bool false, .bool false, .bool false, .bool false, .bool false, .bool false, .bool false, .bool false, .bool false, .bool false, .bool false, .bool false, .bool false, .bool false, .bool false, .bool false, .bool false, .bool false, .bool false, .bool false, .bool false, .bool false, .bool false, .bool false] 62)).setRow w2.heap.size T).setRow (w2.heap.size + 1) T2) = W at *
  generalize w2.heap.size = B at *
  go_loopw [12] (fun i wr => ∃ k : Nat, k ≤ 32 ∧ i = .int .i64 (k : Int) ∧ Rw wr B (plf x lo n v k) ∧ Rw wr (B + 1) v.testBit ∧ Below w.heap.size w wr ∧ ∀ j, n ≤ j → j < k → v.testBit j = false) (fun i _ => 32 - (intOf i).toNat)
  case atStart => exact ⟨0, by omega, rfl, HX.out.congr (fun i _ => by unfold plf; rw [if_neg (by omega)]), HY.out, HB.out, fun j _ hj => absurd hj (by omega)⟩
  case round =>
    obtain ⟨k, hk, rfl, hX, hY, hW, hJ⟩ := hrel
    have HXw := hide hX
    have HYw := hide hY
    have HBw := hide hW
    have HJ := hide hJ
    clear hX hY hW hJ
    by_cases hlt : k < 32
    · by_cases hkn : k < n
      · have c1 := HYw.out.cell k hlt
        have c2 := HXw.out.cell (lo + k) (by omega)
        have f2 := HXw.out.frozen (lo + k)
        have e1 : wrap64 ((lo : Int) + (k : Int)) = ((lo + k : Nat) : Int) := by unfold wrap64; omega
        have hlk : lo + k < 32 := by omega
        have d1 : decide ((n : Int) ≤ (k : Int)) = false := by simp; omega
        have d2 : decide ((k : Int) < (n : Int)) = true := by simp; omega
        have HN : Hid (∀ wr : World, Rw wr B (plf x lo n v k) → Rw (wr.setCell ⟨B, lo + k, none⟩ (.bool (v.testBit k))) B (plf x lo n v (k + 1))) := fun wr h => (h.set (lo + k) (v.testBit k) hlk).congr (fun i _ => by
          unfold plf
          by_cases h : i = lo + k
          · subst h; rw [if_pos rfl, if_pos (by omega), show lo + k - lo = k by omega]
          · rw [if_neg h]
            by_cases h3 : lo ≤ i ∧ i < lo + n ∧ i < lo + k
            · rw [if_pos h3, if_pos (by omega)]
            · rw [if_neg h3, if_neg (by omega)])
        generalize v.testBit k = bt at *
        generalize plf x lo n v k (lo + k) = old at *
        go_wp2
        go_roundw
        case rel => exact ⟨k + 1, by omega, by go_num, HN.out _ HXw.out, HYw.out.other _ _ (by simp), HBw.out.setCell hwB _, fun j hj1 hj2 => absurd hj2 (by omega)⟩
        case measure => simp [intOf]; omega
      · have c1 := HYw.out.cell k hlt
        have d1 : decide ((n : Int) ≤ (k : Int)) = true := by simp; omega
        have d2 : decide ((k : Int) < (n : Int)) = false := by simp; omega
        have l1 : (n : Int) ≤ (k : Int) := by omega
        cases hb : v.testBit k
        · rw [hb] at c1
          have HN : Hid (∀ wr : World, Rw wr B (plf x lo n v k) → Rw wr B (plf x lo n v (k + 1))) := fun wr h => h.congr (fun i _ => by
            unfold plf
            by_cases h3 : lo ≤ i ∧ i < lo + n ∧ i < lo + k
            · rw [if_pos h3, if_pos (by omega)]
            · rw [if_neg h3, if_neg (by omega)])
          have HBt := hide hb
          clear hb
          go_wp2
          go_roundw
          case rel =>
            refine ⟨k + 1, by omega, by go_num, HN.out _ HXw.out, HYw.out, HBw.out, fun j hj1 hj2 => ?_⟩
            by_cases e : j = k
            · subst e; exact HBt.out
            · exact HJ.out j hj1 (by omega)
          case measure => simp [intOf]; omega
        · rw [hb] at c1
          have hr := H4.out (not_small (by omega) hb)
          have hr1 := hr.1
          have hr2 := hr.2
          clear hr hb
          go_wp2
          go_ret2
          refine ⟨by rw [hr1, hr2]; rfl, HBw.out⟩
    · obtain rfl : k = 32 := by omega
      have hr := H3.out (high_zero HV0.out HJ.out)
      have hr1 := hr.1
      have hr2 := hr.2
      clear hr
      have HNu := hide (fun w => number_any (plf x lo n v 32) w)
      rw [← hr1] at HNu
      have HI2 := hide (size62 (plf x lo n v 32))
      have HR2 := HXw
      unfold Rw at HR2
      clear hr1
      generalize Tb (plf x lo n v 32) 32 = T3 at *
      go_wp2_with (refine wpList_load_row rfl 62 _ rfl B rfl 62 T3 (0, 0) _ HR2.out Tryd.underlying62 rfl HI2.out ?_)
      refine Calls.mono (HNu.out _) ?_
      rintro e w3 ⟨rfl, b3⟩
      go_wp2
      go_ret2
      exact ⟨by rw [hr2]; rfl, HBw.out.trans (b3.mono HBw.out.size)⟩

theorem refPlace_any (x lo n v : Nat) (w : World) (hx : x < 4294967296) (h1 : 1 ≤ n) (h2 : lo + n ≤ 32) (hv : v < 2 ^ n) :
    Calls Tryd.prog 19 #[.int .u32 (x : Int), .int .i64 (lo : Int), .int .i64 (n : Int), .int .u32 (v : Int)] w fun e w' => e = .returned (.tuple #[.int .u32 (plc x lo n v : Nat), .int .i64 0]) ∧ Below w.heap.size w w' := by
  refine refPlace_row x lo n v w hx (Nat.lt_of_lt_of_le hv (two_pow_le (by omega))) h1 h2 _ _ (fun _ => ⟨?_, rfl⟩) (fun h => absurd hv h)
  refine (nm_eq (plc_lt hx hv h2) (fun i hi => ?_)).symm
  rw [plc_testBit hv]
  unfold plf
  by_cases h3 : i < lo
  · rw [if_neg (by omega), if_pos h3]
  · rw [if_neg h3]
    by_cases h4 : i < lo + n
    · rw [if_pos (by omega), if_pos h4]
    · rw [if_neg (by omega), if_neg h4]
theorem refPlace_range (x lo n v : Nat) (w : World) (hx : x < 4294967296) (hv : v < 4294967296) (h1 : 1 ≤ n) (h2 : lo + n ≤ 32) (h3 : ¬ v < 2 ^ n) :
    Calls Tryd.prog 19 #[.int .u32 (x : Int), .int .i64 (lo : Int), .int .i64 (n : Int), .int .u32 (v : Int)] w fun e w' => e = .returned (.tuple #[.int .u32 0, .int .i64 4]) ∧ Below w.heap.size w w' :=
  refPlace_row x lo n v w hx hv h1 h2 0 4 (fun h => absurd h h3) (fun _ => ⟨rfl, rfl⟩)
end Go.Proofs.YthmibakcjhappaaDoor
