/-
  Contracts of the document's shift and logic.
-/
import Derived.Test.YtegkodgondlcmaaDoorRefTurns
import Derived.RegionTactic
import Derived.BigRegion
namespace Go.Proofs.YtegkodgondlcmaaDoor
open Go.RowKit FerryAlu
set_option linter.unusedVariables false

/-- The row moved by n places towards the top. -/
def shf (f : Nat → Bool) (n : Int) (fill : Bool) (i : Nat) : Bool := if 0 ≤ (i : Int) - n ∧ (i : Int) - n < 32 then f ((i : Int) - n).toNat else fill
theorem cell_set_apart {w : World} {g k g' i : Nat} {v : Value} (h : g' ≠ g) : (w.setCell ⟨g, k, none⟩ v).cell? ⟨g', i, none⟩ = w.cell? ⟨g', i, none⟩ := World.cell?_of_block (a := ⟨g', i, none⟩) (heap_setCell_other w ⟨g, k, none⟩ g' v h)
set_option maxRecDepth 100000 in
set_option maxHeartbeats 400000 in
theorem shift_row (f : Nat → Bool) (n : Int) (fill : Bool) (w : World) (h1 : -32 < n) (h2 : n < 32) :
    Calls Tryd.prog 57 #[.agg (Tb f 32), .int .i64 n, .bool fill] w fun e w' => e = .returned (.agg (Tb (shf f n fill) 32)) ∧ Below w.heap.size w w' := by
  have hsf := Tb_size f 32
  obtain ⟨T, hT⟩ : ∃ T, Tb f 32 = T := ⟨_, rfl⟩
  rw [hT] at hsf ⊢
  go_enter Tryd.func57, Tryd.ntmps57
  go_wp2
  have HZ := hide (zero3 (w := w) f hT)
  clear hT
  generalize (((w.alloc (.cells T 102)).alloc (.cells #[.bool false, .bool false, .bool false, .bool false, .bool false, .bool false, .bool false, .bool false, .bool false, .bool false, .bool false, .bool false, .bool false, .bool false, .bool false, .bool false, .bool false, .bool false, .bool false, .bool false, .bool false, .bool false, .bool false, .bool false, .bool false, .bool false, .bool false, .bool false, .bool false, .bool false, .bool false, .bool false] 102)).alloc (.cells #[.bool false, .bool false, .bool false, .bool false, .bool false, .bool false, .bool false, .bool false, .bool false, .bool false, .bool false, .bool false, .bool false, .bool false, .bool false, .bool false, .bool false, .bool false, .bool false, .bool false, .bool false, .bool false, .bool false, .bool false, .bool false, .bool false, .bool false, .bool false, .bool false, .bool false, .bool false, .bool false] 102)) = W at *
  generalize hBB : w.heap.size = B at HZ ⊢
  go_loopw [8] (fun i wr => ∃ k : Nat, k ≤ 32 ∧ i = .int .i64 (k : Int) ∧ Rw wr B f ∧ Rw wr (B + 1) (fun _ => false) ∧ Rw wr (B + 1 + 1) (fun i => if i < k then shf f n fill i else false) ∧ Below B w wr) (fun i _ => 32 - (intOf i).toNat)
  case atStart => exact ⟨0, by omega, rfl, HZ.out.1, HZ.out.2.1, HZ.out.2.2.1.congr (fun i _ => by rw [if_neg (by omega)]), HZ.out.2.2.2⟩
  case round =>
    obtain ⟨k, hk, rfl, hF, hO, hS, hW⟩ := hrel
    have HF := hide hF
    have HO := hide hO
    have HS := hide hS
    have HW := hide hW
    clear hF hO hS hW
    by_cases hlt : k < 32
    · have c3 := HS.out.cell k hlt
      have f3 := HS.out.frozen k
      rw [if_neg (by omega)] at c3
      have HN : Hid (∀ (wr : World) (g : Nat → Bool), Rw wr (B + 1 + 1) g → (∀ i, i < 32 → i ≠ k → g i = if i < k then shf f n fill i else false) → Rw (wr.setCell ⟨B + 1 + 1, k, none⟩ (.bool (shf f n fill k))) (B + 1 + 1) (fun i => if i < k + 1 then shf f n fill i else false)) := fun wr g h hg => (h.set k (shf f n fill k) hlt).congr (fun i hi => by
        by_cases h : i = k
        · subst h; rw [if_pos rfl, if_pos (by omega)]
        · rw [if_neg h, hg i hi h]
          by_cases h3 : i < k
          · rw [if_pos h3, if_pos (by omega)]
          · rw [if_neg h3, if_neg (by omega)])
      by_cases hj : 0 ≤ (k : Int) - n ∧ (k : Int) - n < 32
      · have hq32 : ((k : Int) - n).toNat < 32 := by omega
        have ev : shf f n fill k = f ((k : Int) - n).toNat := by unfold shf; rw [if_pos hj]
        rw [ev] at HN
        have c1 := HF.out.cell ((k : Int) - n).toNat hq32
        have c1' : (wr.setCell ⟨B + 1 + 1, k, none⟩ (.bool fill)).cell? ⟨B, ((k : Int) - n).toNat, none⟩ = some (.bool (f ((k : Int) - n).toNat)) := by rw [cell_set_apart (by omega)]; exact c1
        have hS2 := HS.out.set k fill hlt
        have c4 := hS2.cell k hlt
        have f4 := hS2.frozen k
        rw [if_pos rfl] at c4
        have HS2 := hide hS2
        have d1 : decide (0 ≤ (k : Int) - n) = true := by simp; omega
        have d2 : decide ((k : Int) - n < 32) = true := by simp; omega
        have l1 : (0 : Int) ≤ (k : Int) - n := hj.1
        have l2 : (k : Int) - n < 32 := hj.2
        have e1 : wrap64 ((k : Int) - n) = (k : Int) - n := by unfold wrap64; omega
        clear hS2 ev hj c1
        generalize f ((k : Int) - n).toNat = a at *
        go_wp2
        go_roundw
        case rel => exact ⟨k + 1, by omega, by go_num, (HF.out.other _ _ (by simp; omega)).other _ _ (by simp; omega), (HO.out.other _ _ (by simp)).other _ _ (by simp), HN.out _ _ HS2.out (fun i _ h => by rw [if_neg h]), (HW.out.setCell (by show B ≤ B + 1 + 1; omega) _).setCell (by show B ≤ B + 1 + 1; omega) _⟩
        case measure => simp [intOf]; omega
      · have ev : shf f n fill k = fill := by unfold shf; rw [if_neg hj]
        rw [ev] at HN
        have e1 : wrap64 ((k : Int) - n) = (k : Int) - n := by unfold wrap64; omega
        by_cases h0 : 0 ≤ (k : Int) - n
        · have d1 : decide (0 ≤ (k : Int) - n) = true := by simp; omega
          have d2 : decide ((k : Int) - n < 32) = false := by simp; omega
          have l1 : (0 : Int) ≤ (k : Int) - n := h0
          clear hj ev
          go_wp2
          go_roundw
          case rel => exact ⟨k + 1, by omega, by go_num, HF.out.other _ _ (by simp; omega), HO.out.other _ _ (by simp), HN.out _ _ HS.out (fun i _ h => rfl), HW.out.setCell (by show B ≤ B + 1 + 1; omega) _⟩
          case measure => simp [intOf]; omega
        · have d1 : decide (0 ≤ (k : Int) - n) = false := by simp; omega
          clear hj ev
          go_wp2
          go_roundw
          case rel => exact ⟨k + 1, by omega, by go_num, HF.out.other _ _ (by simp; omega), HO.out.other _ _ (by simp), HN.out _ _ HS.out (fun i _ h => rfl), HW.out.setCell (by show B ≤ B + 1 + 1; omega) _⟩
          case measure => simp [intOf]; omega
    · obtain rfl : k = 32 := by omega
      have hS2 : Rw wr (B + 1 + 1) (shf f n fill) := HS.out.congr (fun i hi => by rw [if_pos hi])
      obtain ⟨T3, hT3e, s3, a3, i3, g3⟩ := row_facts hS2
      obtain ⟨Z3, _, z3, _, _, y3⟩ := row_facts HO.out
      have H1 := hide g3
      have H2 := hide y3
      have H4 := hide a3
      have H5 := hide i3
      have H6 := hide (z3.trans s3.symm)
      clear g3 y3 a3 i3 z3 s3 hS2 HS HO
      go_wp2_with (first | refine wpList_load_row rfl 102 _ rfl (B + 1 + 1) rfl 102 T3 (0, 0) _ H1.out Tryd.underlying102 rfl H5.out ?_ | refine wpList_store_row rfl 102 _ _ rfl (B + 1) T3 rfl rfl 102 Z3 H2.out H5.out H6.out H4.out ?_)
      refine bodyPost_ret (results_cell_row rfl _ _ (B + 1) 102 T3 (0, 0) _ rfl (setRow_heap _ _ _ _ _ _ H2.out) Tryd.underlying102 rfl H5.out) rfl ?_
      exact ⟨by first | rfl | (rw [hT3e]), below_setRow (by omega) _ HW.out⟩

set_option maxRecDepth 100000 in
set_option maxHeartbeats 800000 in
theorem logic_and (b c : Nat) (w : World) (hb : b < 4294967296) (hc : c < 4294967296) :
    Calls Tryd.prog 55 #[.int .i64 3, .int .u32 (b : Int), .int .u32 (c : Int)] w fun e w' => e = .returned (.int .u32 (b &&& c : Nat)) ∧ Below w.heap.size w w' := by
  have HV := hide (fun w => row_any b w hb)
  have HV2 := hide (fun w => row_any c w hc)
  have HI := hide (size62 b.testBit)
  have HA := hide (Tb_all b.testBit 32)
  have HS := hide (Tb_size b.testBit 32)
  have HIv := hide (size62 c.testBit)
  have HAv := hide (Tb_all c.testBit 32)
  have HSv := hide (Tb_size c.testBit 32)
  go_enter Tryd.func55, Tryd.ntmps55
  go_wp2_with fail
  refine Calls.mono (HV.out _) ?_
  rintro e w1 ⟨rfl, b1⟩
  have B1 := hide b1
  obtain ⟨T, hT0⟩ : ∃ T, Tb b.testBit 32 = T := ⟨_, rfl⟩
  have hT := hide hT0
  rw [hT0] at HI HA HS ⊢
  clear b1 HV hT0
  go_wp2_with fail
  refine Calls.mono (HV2.out _) ?_
  rintro e w2 ⟨rfl, b2⟩
  have B2 := hide b2
  obtain ⟨T2, hT2⟩ : ∃ T2, Tb c.testBit 32 = T2 := ⟨_, rfl⟩
  have HZ := hide (zero2_rows (w := w2) b.testBit c.testBit hT.out hT2)
  rw [hT2] at HIv HAv HSv ⊢
  clear b2 HV2 hT2 hT
  go_wp2_with (first | refine wpList_store_row rfl 102 _ _ rfl w2.heap.size T rfl rfl 102 _ (zero2_a w2) HI.out (zero_size HS.out) HA.out ?_ | refine wpList_store_row rfl 102 _ _ rfl (w2.heap.size + 1) T2 rfl rfl 102 _ (zero2_b w2 T) HIv.out (zero_size HSv.out) HAv.out ?_)
  have HB : Hid (Below w.heap.size w ((((w2.alloc (.cells #[.bool false, .bool false, .bool false, .bool false, .bool false, .bool false, .bool false, .bool false, .bool false, .bool false, .bool false, .bool false, .bool false, .bool false, .bool false, .bool false, .bool false, .bool false, .bool false, .bool false, .bool false, .bool false, .bool false, .bool false, .bool false, .bool false, .bool false, .bool false, .bool false, .bool false, .bool false, .bool false] 102)).alloc (.cells #[.bool false, .bool false, .bool false, .bool false, .bool false, .bool false, .bool false, .bool false, .bool false, .bool false, .bool false, .bool false, .bool false, .bool false, .bool false, .bool false, .bool false, .bool false, .bool false, .bool false, .bool false, .bool false, .bool false, .bool false, .bool false, .bool false, .bool false, .bool false, .bool false, .bool false, .bool false, .bool false] 102)).setRow w2.heap.size T).setRow (w2.heap.size + 1) T2)) := (B1.out.trans (B2.out.mono B1.out.size)).trans (HZ.out.2.2.mono (Nat.le_trans B1.out.size B2.out.size))
  have hwB : w.heap.size ≤ w2.heap.size := Nat.le_trans B1.out.size B2.out.size
  have HX := hide (HZ.out.1.alloc (.cells #[.bool false, .bool false, .bool false, .bool false, .bool false, .bool false, .bool false, .bool false, .bool false, .bool false, .bool false, .bool false, .bool false, .bool false, .bool false, .bool false, .bool false, .bool false, .bool false, .bool false, .bool false, .bool false, .bool false, .bool false, .bool false, .bool false, .bool false, .bool false, .bool false, .bool false, .bool false, .bool false] 102))
  have HY := hide (HZ.out.2.1.alloc (.cells #[.bool false, .bool false, .bool false, .bool false, .bool false, .bool false, .bool false, .bool false, .bool false, .bool false, .bool false, .bool false, .bool false, .bool false, .bool false, .bool false, .bool false, .bool false, .bool false, .bool false, .bool false, .bool false, .bool false, .bool false, .bool false, .bool false, .bool false, .bool false, .bool false, .bool false, .bool false, .bool false] 102))
  have HQ : Hid (Rw (((((w2.alloc (.cells #[.bool false, .bool false, .bool false, .bool false, .bool false, .bool false, .bool false, .bool false, .bool false, .bool false, .bool false, .bool false, .bool false, .bool false, .bool false, .bool false, .bool false, .bool false, .bool false, .bool false, .bool false, .bool false, .bool false, .bool false, .bool false, .bool false, .bool false, .bool false, .bool false, .bool false, .bool false, .bool false] 102)).alloc (.cells #[.bool false, .bool false, .bool false, .bool false, .bool false, .bool false, .bool false, .bool false, .bool false, .bool false, .bool false, .bool false, .bool false, .bool false, .bool false, .bool false, .bool false, .bool false, .bool false, .bool false, .bool false, .bool false, .bool false, .bool false, .bool false, .bool false, .bool false, .bool false, .bool false, .bool false, .bool false, .bool false] 102)).setRow w2.heap.size T).setRow (w2.heap.size + 1) T2).alloc (.cells #[.bool false, .bool false, .bool false, .bool false, .bool false, .bool false, .bool false, .bool false, .bool false, .bool false, .bool false, .bool false, .bool false, .bool false, .bool false, .bool false, .bool false, .bool false, .bool false, .bool false, .bool false, .bool false, .bool false, .bool false, .bool false, .bool false, .bool false, .bool false, .bool false, .bool false, .bool false, .bool false] 102)) (w2.heap.size + 1 + 1) (fun _ => false)) := by
    have h := zero_row ((((w2.alloc (.cells #[.bool false, .bool false, .bool false, .bool false, .bool false, .bool false, .bool false, .bool false, .bool false, .bool false, .bool false, .bool false, .bool false, .bool false, .bool false, .bool false, .bool false, .bool false, .bool false, .bool false, .bool false, .bool false, .bool false, .bool false, .bool false, .bool false, .bool false, .bool false, .bool false, .bool false, .bool false, .bool false] 102)).alloc (.cells #[.bool false, .bool false, .bool false, .bool false, .bool false, .bool false, .bool false, .bool false, .bool false, .bool false, .bool false, .bool false, .bool false, .bool false, .bool false, .bool false, .bool false, .bool false, .bool false, .bool false, .bool false, .bool false, .bool false, .bool false, .bool false, .bool false, .bool false, .bool false, .bool false, .bool false, .bool false, .bool false] 102)).setRow w2.heap.size T).setRow (w2.heap.size + 1) T2)
    rw [show ((((w2.alloc (.cells #[.bool false, .bool false, .bool false, .bool false, .bool false, .bool false, .bool false, .bool false, .bool false, .bool false, .bool false, .bool false, .bool false, .bool false, .bool false, .bool false, .bool false, .bool false, .bool false, .bool false, .bool false, .bool false, .bool false, .bool false, .bool false, .bool false, .bool false, .bool false, .bool false, .bool false, .bool false, .bool false] 102)).alloc (.cells #[.bool false, .bool false, .bool false, .bool false, .bool false, .bool false, .bool false, .bool false, .bool false, .bool false, .bool false, .bool false, .bool false, .bool false, .bool false, .bool false, .bool false, .bool false, .bool false, .bool false, .bool false, .bool false, .bool false, .bool false, .bool false, .bool false, .bool false, .bool false, .bool false, .bool false, .bool false, .bool false] 102)).setRow w2.heap.size T).setRow (w2.heap.size + 1) T2).heap.size = w2.heap.size + 1 + 1 by simp] at h
    exact h
  have HB2 : Hid (Below w.heap.size w (((((w2.alloc (.cells #[.bool false, .bool false, .bool false, .bool false, .bool false, .bool false, .bool false, .bool false, .bool false, .bool false, .bool false, .bool false, .bool false, .bool false, .bool false, .bool false, .bool false, .bool false, .bool false, .bool false, .bool false, .bool false, .bool false, .bool false, .bool false, .bool false, .bool false, .bool false, .bool false, .bool false, .bool false, .bool false] 102)).alloc (.cells #[.bool false, .bool false, .bool false, .bool false, .bool false, .bool false, .bool false, .bool false, .bool false, .bool false, .bool false, .bool false, .bool false, .bool false, .bool false, .bool false, .bool false, .bool false, .bool false, .bool false, .bool false, .bool false, .bool false, .bool false, .bool false, .bool false, .bool false, .bool false, .bool false, .bool false, .bool false, .bool false] 102)).setRow w2.heap.size T).setRow (w2.heap.size + 1) T2).alloc (.cells #[.bool false, .bool false, .bool false, .bool false, .bool false, .bool false, .bool false, .bool false, .bool false, .bool false, .bool false, .bool false, .bool false, .bool false, .bool false, .bool false, .bool false, .bool false, .bool false, .bool false, .bool false, .bool false, .bool false, .bool false, .bool false, .bool false, .bool false, .bool false, .bool false, .bool false, .bool false, .bool false] 102))) := HB.out.alloc HB.out.size _
  clear HZ B1 B2 HB
  generalize ((((w2.alloc (.cells #[.bool false, .bool false, .bool false, .bool false, .bool false, .bool false, .bool false, .bool false, .bool false, .bool false, .bool false, .bool false, .bool false, .bool false, .bool false, .bool false, .bool false, .bool false, .bool false, .bool false, .bool false, .bool false, .bool false, .bool false, .bool false, .bool false, .bool false, .bool false, .bool false, .bool false, .bool false, .bool false] 102)).alloc (.cells #[.bool false, .bool false, .bool false, .bool false, .bool false, .bool false, .bool false, .bool false, .bool false, .bool false, .bool false, .bool false, .bool false, .bool false, .bool false, .bool false, .bool false, .bool false, .bool false, .bool false, .bool false, .bool false, .bool false, .bool false, .bool false, .bool false, .bool false, .bool false, .bool false, .bool false, .bool false, .bool false] 102)).setRow w2.heap.size T).setRow (w2.heap.size + 1) T2).alloc (.cells #[.bool false, .bool false, .bool false, .bool false, .bool false, .bool false, .bool false, .bool false, .bool false, .bool false, .bool false, .bool false, .bool false, .bool false, .bool false, .bool false, .bool false, .bool false, .bool false, .bool false, .bool false, .bool false, .bool false, .bool false, .bool false, .bool false, .bool false, .bool false, .bool false, .bool false, .bool false, .bool false] 102) = W at *
  generalize w2.heap.size = B at *
  go_loopw [10] (fun i wr => ∃ k : Nat, k ≤ 32 ∧ i = .int .i64 (k : Int) ∧ Rw wr B b.testBit ∧ Rw wr (B + 1) c.testBit ∧ Rw wr (B + 1 + 1) (fun i => if i < k then b.testBit i && c.testBit i else false) ∧ Below w.heap.size w wr) (fun i _ => 32 - (intOf i).toNat)
  case atStart => exact ⟨0, by omega, rfl, HX.out, HY.out, HQ.out.congr (fun i _ => by rw [if_neg (by omega)]), HB2.out⟩
  case round =>
    obtain ⟨k, hk, rfl, hF, hG, hS, hW⟩ := hrel
    have HF := hide hF
    have HG := hide hG
    have HS := hide hS
    have HW := hide hW
    clear hF hG hS hW
    by_cases hlt : k < 32
    · have c1 := HF.out.cell k hlt
      have c2 := HG.out.cell k hlt
      have c3 := HS.out.cell k hlt
      have f3 := HS.out.frozen k
      rw [if_neg (by omega)] at c3
      have HN : Hid (∀ wr : World, Rw wr (B + 1 + 1) (fun i => if i < k then b.testBit i && c.testBit i else false) → Rw (wr.setCell ⟨B + 1 + 1, k, none⟩ (.bool (b.testBit k && c.testBit k))) (B + 1 + 1) (fun i => if i < k + 1 then b.testBit i && c.testBit i else false)) := fun wr h => (h.set k (b.testBit k && c.testBit k) hlt).congr (fun i _ => by
        by_cases h : i = k
        · subst h; rw [if_pos rfl, if_pos (by omega)]
        · rw [if_neg h]
          by_cases h3 : i < k
          · rw [if_pos h3, if_pos (by omega)]
          · rw [if_neg h3, if_neg (by omega)])
      generalize b.testBit k = ba at *
      generalize c.testBit k = bb at *
      cases ba <;> cases bb
      all_goals (
        go_wp2
        go_roundw
        case rel => exact ⟨k + 1, by omega, by go_num, HF.out.other _ _ (by simp; omega), HG.out.other _ _ (by simp), HN.out _ HS.out, HW.out.setCell (by show w.heap.size ≤ B + 1 + 1; omega) _⟩
        case measure => simp [intOf]; omega)
    · obtain rfl : k = 32 := by omega
      have hS2 : Rw wr (B + 1 + 1) (fun i => b.testBit i && c.testBit i) := HS.out.congr (fun i hi => by rw [if_pos hi])
      have HNu := hide (fun w => rnumber_any (fun i => b.testBit i && c.testBit i) w)
      rw [nm_eq (x := b &&& c) (Nat.and_lt_two_pow (n := 32) b hc) (fun i hi => by
            rw [Nat.testBit_and])] at HNu
      have HI2 := hide (size62 (fun i => b.testBit i && c.testBit i))
      have HR2 := hide hS2
      unfold Rw at HR2
      clear hS2 HS
      generalize Tb (fun i => b.testBit i && c.testBit i) 32 = T3 at *
      go_wp2_with (refine wpList_load_row rfl 102 _ rfl (B + 1 + 1) rfl 102 T3 (0, 0) _ HR2.out Tryd.underlying102 rfl HI2.out ?_)
      refine Calls.mono (HNu.out _) ?_
      rintro e w3 ⟨rfl, b3⟩
      go_wp2
      go_ret
      exact ⟨rfl, HW.out.trans (b3.mono HW.out.size)⟩

set_option maxRecDepth 100000 in
set_option maxHeartbeats 800000 in
theorem logic_or (b c : Nat) (w : World) (hb : b < 4294967296) (hc : c < 4294967296) :
    Calls Tryd.prog 55 #[.int .i64 4, .int .u32 (b : Int), .int .u32 (c : Int)] w fun e w' => e = .returned (.int .u32 (b ||| c : Nat)) ∧ Below w.heap.size w w' := by
  have HV := hide (fun w => row_any b w hb)
  have HV2 := hide (fun w => row_any c w hc)
  have HI := hide (size62 b.testBit)
  have HA := hide (Tb_all b.testBit 32)
  have HS := hide (Tb_size b.testBit 32)
  have HIv := hide (size62 c.testBit)
  have HAv := hide (Tb_all c.testBit 32)
  have HSv := hide (Tb_size c.testBit 32)
  go_enter Tryd.func55, Tryd.ntmps55
  go_wp2_with fail
  refine Calls.mono (HV.out _) ?_
  rintro e w1 ⟨rfl, b1⟩
  have B1 := hide b1
  obtain ⟨T, hT0⟩ : ∃ T, Tb b.testBit 32 = T := ⟨_, rfl⟩
  have hT := hide hT0
  rw [hT0] at HI HA HS ⊢
  clear b1 HV hT0
  go_wp2_with fail
  refine Calls.mono (HV2.out _) ?_
  rintro e w2 ⟨rfl, b2⟩
  have B2 := hide b2
  obtain ⟨T2, hT2⟩ : ∃ T2, Tb c.testBit 32 = T2 := ⟨_, rfl⟩
  have HZ := hide (zero2_rows (w := w2) b.testBit c.testBit hT.out hT2)
  rw [hT2] at HIv HAv HSv ⊢
  clear b2 HV2 hT2 hT
  go_wp2_with (first | refine wpList_store_row rfl 102 _ _ rfl w2.heap.size T rfl rfl 102 _ (zero2_a w2) HI.out (zero_size HS.out) HA.out ?_ | refine wpList_store_row rfl 102 _ _ rfl (w2.heap.size + 1) T2 rfl rfl 102 _ (zero2_b w2 T) HIv.out (zero_size HSv.out) HAv.out ?_)
  have HB : Hid (Below w.heap.size w ((((w2.alloc (.cells #[.bool false, .bool false, .bool false, .bool false, .bool false, .bool false, .bool false, .bool false, .bool false, .bool false, .bool false, .bool false, .bool false, .bool false, .bool false, .bool false, .bool false, .bool false, .bool false, .bool false, .bool false, .bool false, .bool false, .bool false, .bool false, .bool false, .bool false, .bool false, .bool false, .bool false, .bool false, .bool false] 102)).alloc (.cells #[.bool false, .bool false, .bool false, .bool false, .bool false, .bool false, .bool false, .bool false, .bool false, .bool false, .bool false, .bool false, .bool false, .bool false, .bool false, .bool false, .bool false, .bool false, .bool false, .bool false, .bool false, .bool false, .bool false, .bool false, .bool false, .bool false, .bool false, .bool false, .bool false, .bool false, .bool false, .bool false] 102)).setRow w2.heap.size T).setRow (w2.heap.size + 1) T2)) := (B1.out.trans (B2.out.mono B1.out.size)).trans (HZ.out.2.2.mono (Nat.le_trans B1.out.size B2.out.size))
  have hwB : w.heap.size ≤ w2.heap.size := Nat.le_trans B1.out.size B2.out.size
  have HX := hide (HZ.out.1.alloc (.cells #[.bool false, .bool false, .bool false, .bool false, .bool false, .bool false, .bool false, .bool false, .bool false, .bool false, .bool false, .bool false, .bool false, .bool false, .bool false, .bool false, .bool false, .bool false, .bool false, .bool false, .bool false, .bool false, .bool false, .bool false, .bool false, .bool false, .bool false, .bool false, .bool false, .bool false, .bool false, .bool false] 102))
  have HY := hide (HZ.out.2.1.alloc (.cells #[.bool false, .bool false, .bool false, .bool false, .bool false, .bool false, .bool false, .bool false, .bool false, .bool false, .bool false, .bool false, .bool false, .bool false, .bool false, .bool false, .bool false, .bool false, .bool false, .bool false, .bool false, .bool false, .bool false, .bool false, .bool false, .bool false, .bool false, .bool false, .bool false, .bool false, .bool false, .bool false] 102))
  have HQ : Hid (Rw (((((w2.alloc (.cells #[.bool false, .bool false, .bool false, .bool false, .bool false, .bool false, .bool false, .bool false, .bool false, .bool false, .bool false, .bool false, .bool false, .bool false, .bool false, .bool false, .bool false, .bool false, .bool false, .bool false, .bool false, .bool false, .bool false, .bool false, .bool false, .bool false, .bool false, .bool false, .bool false, .bool false, .bool false, .bool false] 102)).alloc (.cells #[.bool false, .bool false, .bool false, .bool false, .bool false, .bool false, .bool false, .bool false, .bool false, .bool false, .bool false, .bool false, .bool false, .bool false, .bool false, .bool false, .bool false, .bool false, .bool false, .bool false, .bool false, .bool false, .bool false, .bool false, .bool false, .bool false, .bool false, .bool false, .bool false, .bool false, .bool false, .bool false] 102)).setRow w2.heap.size T).setRow (w2.heap.size + 1) T2).alloc (.cells #[.bool false, .bool false, .bool false, .bool false, .bool false, .bool false, .bool false, .bool false, .bool false, .bool false, .bool false, .bool false, .bool false, .bool false, .bool false, .bool false, .bool false, .bool false, .bool false, .bool false, .bool false, .bool false, .bool false, .bool false, .bool false, .bool false, .bool false, .bool false, .bool false, .bool false, .bool false, .bool false] 102)) (w2.heap.size + 1 + 1) (fun _ => false)) := by
    have h := zero_row ((((w2.alloc (.cells #[.bool false, .bool false, .bool false, .bool false, .bool false, .bool false, .bool false, .bool false, .bool false, .bool false, .bool false, .bool false, .bool false, .bool false, .bool false, .bool false, .bool false, .bool false, .bool false, .bool false, .bool false, .bool false, .bool false, .bool false, .bool false, .bool false, .bool false, .bool false, .bool false, .bool false, .bool false, .bool false] 102)).alloc (.cells #[.bool false, .bool false, .bool false, .bool false, .bool false, .bool false, .bool false, .bool false, .bool false, .bool false, .bool false, .bool false, .bool false, .bool false, .bool false, .bool false, .bool false, .bool false, .bool false, .bool false, .bool false, .bool false, .bool false, .bool false, .bool false, .bool false, .bool false, .bool false, .bool false, .bool false, .bool false, .bool false] 102)).setRow w2.heap.size T).setRow (w2.heap.size + 1) T2)
    rw [show ((((w2.alloc (.cells #[.bool false, .bool false, .bool false, .bool false, .bool false, .bool false, .bool false, .bool false, .bool false, .bool false, .bool false, .bool false, .bool false, .bool false, .bool false, .bool false, .bool false, .bool false, .bool false, .bool false, .bool false, .bool false, .bool false, .bool false, .bool false, .bool false, .bool false, .bool false, .bool false, .bool false, .bool false, .bool false] 102)).alloc (.cells #[.bool false, .bool false, .bool false, .bool false, .bool false, .bool false, .bool false, .bool false, .bool false, .bool false, .bool false, .bool false, .bool false, .bool false, .bool false, .bool false, .bool false, .bool false, .bool false, .bool false, .bool false, .bool false, .bool false, .bool false, .bool false, .bool false, .bool false, .bool false, .bool false, .bool false, .bool false, .bool false] 102)).setRow w2.heap.size T).setRow (w2.heap.size + 1) T2).heap.size = w2.heap.size + 1 + 1 by simp] at h
    exact h
  have HB2 : Hid (Below w.heap.size w (((((w2.alloc (.cells #[.bool false, .bool false, .bool false, .bool false, .bool false, .bool false, .bool false, .bool false, .bool false, .bool false, .bool false, .bool false, .bool false, .bool false, .bool false, .bool false, .bool false, .bool false, .bool false, .bool false, .bool false, .bool false, .bool false, .bool false, .bool false, .bool false, .bool false, .bool false, .bool false, .bool false, .bool false, .bool false] 102)).alloc (.cells #[.bool false, .bool false, .bool false, .bool false, .bool false, .bool false, .bool false, .bool false, .bool false, .bool false, .bool false, .bool false, .bool false, .bool false, .bool false, .bool false, .bool false, .bool false, .bool false, .bool false, .bool false, .bool false, .bool false, .bool false, .bool false, .bool false, .bool false, .bool false, .bool false, .bool false, .bool false, .bool false] 102)).setRow w2.heap.size T).setRow (w2.heap.size + 1) T2).alloc (.cells #[.bool false, .bool false, .bool false, .bool false, .bool false, .bool false, .bool false, .bool false, .bool false, .bool false, .bool false, .bool false, .bool false, .bool false, .bool false, .bool false, .bool false, .bool false, .bool false, .bool false, .bool false, .bool false, .bool false, .bool false, .bool false, .bool false, .bool false, .bool false, .bool false, .bool false, .bool false, .bool false] 102))) := HB.out.alloc HB.out.size _
  clear HZ B1 B2 HB
  generalize ((((w2.alloc (.cells #[.bool false, .bool false, .bool false, .bool false, .bool false, .bool false, .bool false, .bool false, .bool false, .bool false, .bool false, .bool false, .bool false, .bool false, .bool false, .bool false, .bool false, .bool false, .bool false, .bool false, .bool false, .bool false, .bool false, .bool false, .bool false, .bool false, .bool false, .bool false, .bool false, .bool false, .bool false, .bool false] 102)).alloc (.cells #[.bool false, .bool false, .bool false, .bool false, .bool false, .bool false, .bool false, .bool false, .bool false, .bool false, .bool false, .bool false, .bool false, .bool false, .bool false, .bool false, .bool false, .bool false, .bool false, .bool false, .bool false, .bool false, .bool false, .bool false, .bool false, .bool false, .bool false, .bool false, .bool false, .bool false, .bool false, .bool false] 102)).setRow w2.heap.size T).setRow (w2.heap.size + 1) T2).alloc (.cells #[.bool false, .bool false, .bool false, .bool false, .bool false, .bool false, .bool false, .bool false, .bool false, .bool false, .bool false, .bool false, .bool false, .bool false, .bool false, .bool false, .bool false, .bool false, .bool false, .bool false, .bool false, .bool false, .bool false, .bool false, .bool false, .bool false, .bool false, .bool false, .bool false, .bool false, .bool false, .bool false] 102) = W at *
  generalize w2.heap.size = B at *
  go_loopw [10] (fun i wr => ∃ k : Nat, k ≤ 32 ∧ i = .int .i64 (k : Int) ∧ Rw wr B b.testBit ∧ Rw wr (B + 1) c.testBit ∧ Rw wr (B + 1 + 1) (fun i => if i < k then b.testBit i || c.testBit i else false) ∧ Below w.heap.size w wr) (fun i _ => 32 - (intOf i).toNat)
  case atStart => exact ⟨0, by omega, rfl, HX.out, HY.out, HQ.out.congr (fun i _ => by rw [if_neg (by omega)]), HB2.out⟩
  case round =>
    obtain ⟨k, hk, rfl, hF, hG, hS, hW⟩ := hrel
    have HF := hide hF
    have HG := hide hG
    have HS := hide hS
    have HW := hide hW
    clear hF hG hS hW
    by_cases hlt : k < 32
    · have c1 := HF.out.cell k hlt
      have c2 := HG.out.cell k hlt
      have c3 := HS.out.cell k hlt
      have f3 := HS.out.frozen k
      rw [if_neg (by omega)] at c3
      have HN : Hid (∀ wr : World, Rw wr (B + 1 + 1) (fun i => if i < k then b.testBit i || c.testBit i else false) → Rw (wr.setCell ⟨B + 1 + 1, k, none⟩ (.bool (b.testBit k || c.testBit k))) (B + 1 + 1) (fun i => if i < k + 1 then b.testBit i || c.testBit i else false)) := fun wr h => (h.set k (b.testBit k || c.testBit k) hlt).congr (fun i _ => by
        by_cases h : i = k
        · subst h; rw [if_pos rfl, if_pos (by omega)]
        · rw [if_neg h]
          by_cases h3 : i < k
          · rw [if_pos h3, if_pos (by omega)]
          · rw [if_neg h3, if_neg (by omega)])
      generalize b.testBit k = ba at *
      generalize c.testBit k = bb at *
      cases ba <;> cases bb
      all_goals (
        go_wp2
        go_roundw
        case rel => exact ⟨k + 1, by omega, by go_num, HF.out.other _ _ (by simp; omega), HG.out.other _ _ (by simp), HN.out _ HS.out, HW.out.setCell (by show w.heap.size ≤ B + 1 + 1; omega) _⟩
        case measure => simp [intOf]; omega)
    · obtain rfl : k = 32 := by omega
      have hS2 : Rw wr (B + 1 + 1) (fun i => b.testBit i || c.testBit i) := HS.out.congr (fun i hi => by rw [if_pos hi])
      have HNu := hide (fun w => rnumber_any (fun i => b.testBit i || c.testBit i) w)
      rw [nm_eq (x := b ||| c) (Nat.or_lt_two_pow (n := 32) hb hc) (fun i hi => by
            rw [Nat.testBit_or])] at HNu
      have HI2 := hide (size62 (fun i => b.testBit i || c.testBit i))
      have HR2 := hide hS2
      unfold Rw at HR2
      clear hS2 HS
      generalize Tb (fun i => b.testBit i || c.testBit i) 32 = T3 at *
      go_wp2_with (refine wpList_load_row rfl 102 _ rfl (B + 1 + 1) rfl 102 T3 (0, 0) _ HR2.out Tryd.underlying102 rfl HI2.out ?_)
      refine Calls.mono (HNu.out _) ?_
      rintro e w3 ⟨rfl, b3⟩
      go_wp2
      go_ret
      exact ⟨rfl, HW.out.trans (b3.mono HW.out.size)⟩

set_option maxRecDepth 100000 in
set_option maxHeartbeats 800000 in
theorem logic_xor (b c : Nat) (w : World) (hb : b < 4294967296) (hc : c < 4294967296) :
    Calls Tryd.prog 55 #[.int .i64 5, .int .u32 (b : Int), .int .u32 (c : Int)] w fun e w' => e = .returned (.int .u32 (b ^^^ c : Nat)) ∧ Below w.heap.size w w' := by
  have HV := hide (fun w => row_any b w hb)
  have HV2 := hide (fun w => row_any c w hc)
  have HI := hide (size62 b.testBit)
  have HA := hide (Tb_all b.testBit 32)
  have HS := hide (Tb_size b.testBit 32)
  have HIv := hide (size62 c.testBit)
  have HAv := hide (Tb_all c.testBit 32)
  have HSv := hide (Tb_size c.testBit 32)
  go_enter Tryd.func55, Tryd.ntmps55
  go_wp2_with fail
  refine Calls.mono (HV.out _) ?_
  rintro e w1 ⟨rfl, b1⟩
  have B1 := hide b1
  obtain ⟨T, hT0⟩ : ∃ T, Tb b.testBit 32 = T := ⟨_, rfl⟩
  have hT := hide hT0
  rw [hT0] at HI HA HS ⊢
  clear b1 HV hT0
  go_wp2_with fail
  refine Calls.mono (HV2.out _) ?_
  rintro e w2 ⟨rfl, b2⟩
  have B2 := hide b2
  obtain ⟨T2, hT2⟩ : ∃ T2, Tb c.testBit 32 = T2 := ⟨_, rfl⟩
  have HZ := hide (zero2_rows (w := w2) b.testBit c.testBit hT.out hT2)
  rw [hT2] at HIv HAv HSv ⊢
  clear b2 HV2 hT2 hT
  go_wp2_with (first | refine wpList_store_row rfl 102 _ _ rfl w2.heap.size T rfl rfl 102 _ (zero2_a w2) HI.out (zero_size HS.out) HA.out ?_ | refine wpList_store_row rfl 102 _ _ rfl (w2.heap.size + 1) T2 rfl rfl 102 _ (zero2_b w2 T) HIv.out (zero_size HSv.out) HAv.out ?_)
  have HB : Hid (Below w.heap.size w ((((w2.alloc (.cells #[.bool false, .bool false, .bool false, .bool false, .bool false, .bool false, .bool false, .bool false, .bool false, .bool false, .bool false, .bool false, .bool false, .bool false, .bool false, .bool false, .bool false, .bool false, .bool false, .bool false, .bool false, .bool false, .bool false, .bool false, .bool false, .bool false, .bool false, .bool false, .bool false, .bool false, .bool false, .bool false] 102)).alloc (.cells #[.bool false, .bool false, .bool false, .bool false, .bool false, .bool false, .bool false, .bool false, .bool false, .bool false, .bool false, .bool false, .bool false, .bool false, .bool false, .bool false, .bool false, .bool false, .bool false, .bool false, .bool false, .bool false, .bool false, .bool false, .bool false, .bool false, .bool false, .bool false, .bool false, .bool false, .bool false, .bool false] 102)).setRow w2.heap.size T).setRow (w2.heap.size + 1) T2)) := (B1.out.trans (B2.out.mono B1.out.size)).trans (HZ.out.2.2.mono (Nat.le_trans B1.out.size B2.out.size))
  have hwB : w.heap.size ≤ w2.heap.size := Nat.le_trans B1.out.size B2.out.size
  have HX := hide (HZ.out.1.alloc (.cells #[.bool false, .bool false, .bool false, .bool false, .bool false, .bool false, .bool false, .bool false, .bool false, .bool false, .bool false, .bool false, .bool false, .bool false, .bool false, .bool false, .bool false, .bool false, .bool false, .bool false, .bool false, .bool false, .bool false, .bool false, .bool false, .bool false, .bool false, .bool false, .bool false, .bool false, .bool false, .bool false] 102))
  have HY := hide (HZ.out.2.1.alloc (.cells #[.bool false, .bool false, .bool false, .bool false, .bool false, .bool false, .bool false, .bool false, .bool false, .bool false, .bool false, .bool false, .bool false, .bool false, .bool false, .bool false, .bool false, .bool false, .bool false, .bool false, .bool false, .bool false, .bool false, .bool false, .bool false, .bool false, .bool false, .bool false, .bool false, .bool false, .bool false, .bool false] 102))
  have HQ : Hid (Rw (((((w2.alloc (.cells #[.bool false, .bool false, .bool false, .bool false, .bool false, .bool false, .bool false, .bool false, .bool false, .bool false, .bool false, .bool false, .bool false, .bool false, .bool false, .bool false, .bool false, .bool false, .bool false, .bool false, .bool false, .bool false, .bool false, .bool false, .bool false, .bool false, .bool false, .bool false, .bool false, .bool false, .bool false, .bool false] 102)).alloc (.cells #[.bool false, .bool false, .bool false, .bool false, .bool false, .bool false, .bool false, .bool false, .bool false, .bool false, .bool false, .bool false, .bool false, .bool false, .bool false, .bool false, .bool false, .bool false, .bool false, .bool false, .bool false, .bool false, .bool false, .bool false, .bool false, .bool false, .bool false, .bool false, .bool false, .bool false, .bool false, .bool false] 102)).setRow w2.heap.size T).setRow (w2.heap.size + 1) T2).alloc (.cells #[.bool false, .bool false, .bool false, .bool false, .bool false, .bool false, .bool false, .bool false, .bool false, .bool false, .bool false, .bool false, .bool false, .bool false, .bool false, .bool false, .bool false, .bool false, .bool false, .bool false, .bool false, .bool false, .bool false, .bool false, .bool false, .bool false, .bool false, .bool false, .bool false, .bool false, .bool false, .bool false] 102)) (w2.heap.size + 1 + 1) (fun _ => false)) := by
    have h := zero_row ((((w2.alloc (.cells #[.bool false, .bool false, .bool false, .bool false, .bool false, .bool false, .bool false, .bool false, .bool false, .bool false, .bool false, .bool false, .bool false, .bool false, .bool false, .bool false, .bool false, .bool false, .bool false, .bool false, .bool false, .bool false, .bool false, .bool false, .bool false, .bool false, .bool false, .bool false, .bool false, .bool false, .bool false, .bool false] 102)).alloc (.cells #[.bool false, .bool false, .bool false, .bool false, .bool false, .bool false, .bool false, .bool false, .bool false, .bool false, .bool false, .bool false, .bool false, .bool false, .bool false, .bool false, .bool false, .bool false, .bool false, .bool false, .bool false, .bool false, .bool false, .bool false, .bool false, .bool false, .bool false, .bool false, .bool false, .bool false, .bool false, .bool false] 102)).setRow w2.heap.size T).setRow (w2.heap.size + 1) T2)
    rw [show ((((w2.alloc (.cells #[.bool false, .bool false, .bool false, .bool false, .bool false, .bool false, .bool false, .bool false, .bool false, .bool false, .bool false, .bool false, .bool false, .bool false, .bool false, .bool false, .bool false, .bool false, .bool false, .bool false, .bool false, .bool false, .bool false, .bool false, .bool false, .bool false, .bool false, .bool false, .bool false, .bool false, .bool false, .bool false] 102)).alloc (.cells #[.bool false, .bool false, .bool false, .bool false, .bool false, .bool false, .bool false, .bool false, .bool false, .bool false, .bool false, .bool false, .bool false, .bool false, .bool false, .bool false, .bool false, .bool false, .bool false, .bool false, .bool false, .bool false, .bool false, .bool false, .bool false, .bool false, .bool false, .bool false, .bool false, .bool false, .bool false, .bool false] 102)).setRow w2.heap.size T).setRow (w2.heap.size + 1) T2).heap.size = w2.heap.size + 1 + 1 by simp] at h
    exact h
  have HB2 : Hid (Below w.heap.size w (((((w2.alloc (.cells #[.bool false, .bool false, .bool false, .bool false, .bool false, .bool false, .bool false, .bool false, .bool false, .bool false, .bool false, .bool false, .bool false, .bool false, .bool false, .bool false, .bool false, .bool false, .bool false, .bool false, .bool false, .bool false, .bool false, .bool false, .bool false, .bool false, .bool false, .bool false, .bool false, .bool false, .bool false, .bool false] 102)).alloc (.cells #[.bool false, .bool false, .bool false, .bool false, .bool false, .bool false, .bool false, .bool false, .bool false, .bool false, .bool false, .bool false, .bool false, .bool false, .bool false, .bool false, .bool false, .bool false, .bool false, .bool false, .bool false, .bool false, .bool false, .bool false, .bool false, .bool false, .bool false, .bool false, .bool false, .bool false, .bool false, .bool false] 102)).setRow w2.heap.size T).setRow (w2.heap.size + 1) T2).alloc (.cells #[.bool false, .bool false, .bool false, .bool false, .bool false, .bool false, .bool false, .bool false, .bool false, .bool false, .bool false, .bool false, .bool false, .bool false, .bool false, .bool false, .bool false, .bool false, .bool false, .bool false, .bool false, .bool false, .bool false, .bool false, .bool false, .bool false, .bool false, .bool false, .bool false, .bool false, .bool false, .bool false] 102))) := HB.out.alloc HB.out.size _
  clear HZ B1 B2 HB
  generalize ((((w2.alloc (.cells #[.bool false, .bool false, .bool false, .bool false, .bool false, .bool false, .bool false, .bool false, .bool false, .bool false, .bool false, .bool false, .bool false, .bool false, .bool false, .bool false, .bool false, .bool false, .bool false, .bool false, .bool false, .bool false, .bool false, .bool false, .bool false, .bool false, .bool false, .bool false, .bool false, .bool false, .bool false, .bool false] 102)).alloc (.cells #[.bool false, .bool false, .bool false, .bool false, .bool false, .bool false, .bool false, .bool false, .bool false, .bool false, .bool false, .bool false, .bool false, .bool false, .bool false, .bool false, .bool false, .bool false, .bool false, .bool false, .bool false, .bool false, .bool false, .bool false, .bool false, .bool false, .bool false, .bool false, .bool false, .bool false, .bool false, .bool false] 102)).setRow w2.heap.size T).setRow (w2.heap.size + 1) T2).alloc (.cells #[.bool false, .bool false, .bool false, .bool false, .bool false, .bool false, .bool false, .bool false, .bool false, .bool false, .bool false, .bool false, .bool false, .bool false, .bool false, .bool false, .bool false, .bool false, .bool false, .bool false, .bool false, .bool false, .bool false, .bool false, .bool false, .bool false, .bool false, .bool false, .bool false, .bool false, .bool false, .bool false] 102) = W at *
  generalize w2.heap.size = B at *
  go_loopw [10] (fun i wr => ∃ k : Nat, k ≤ 32 ∧ i = .int .i64 (k : Int) ∧ Rw wr B b.testBit ∧ Rw wr (B + 1) c.testBit ∧ Rw wr (B + 1 + 1) (fun i => if i < k then b.testBit i != c.testBit i else false) ∧ Below w.heap.size w wr) (fun i _ => 32 - (intOf i).toNat)
  case atStart => exact ⟨0, by omega, rfl, HX.out, HY.out, HQ.out.congr (fun i _ => by rw [if_neg (by omega)]), HB2.out⟩
  case round =>
    obtain ⟨k, hk, rfl, hF, hG, hS, hW⟩ := hrel
    have HF := hide hF
    have HG := hide hG
    have HS := hide hS
    have HW := hide hW
    clear hF hG hS hW
    by_cases hlt : k < 32
    · have c1 := HF.out.cell k hlt
      have c2 := HG.out.cell k hlt
      have c3 := HS.out.cell k hlt
      have f3 := HS.out.frozen k
      rw [if_neg (by omega)] at c3
      have HN : Hid (∀ wr : World, Rw wr (B + 1 + 1) (fun i => if i < k then b.testBit i != c.testBit i else false) → Rw (wr.setCell ⟨B + 1 + 1, k, none⟩ (.bool (b.testBit k != c.testBit k))) (B + 1 + 1) (fun i => if i < k + 1 then b.testBit i != c.testBit i else false)) := fun wr h => (h.set k (b.testBit k != c.testBit k) hlt).congr (fun i _ => by
        by_cases h : i = k
        · subst h; rw [if_pos rfl, if_pos (by omega)]
        · rw [if_neg h]
          by_cases h3 : i < k
          · rw [if_pos h3, if_pos (by omega)]
          · rw [if_neg h3, if_neg (by omega)])
      generalize b.testBit k = ba at *
      generalize c.testBit k = bb at *
      cases ba <;> cases bb
      all_goals (
        go_wp2_with fail
        go_region
        go_wp2
        go_roundw
        case rel => exact ⟨k + 1, by omega, by go_num, HF.out.other _ _ (by simp; omega), HG.out.other _ _ (by simp), HN.out _ HS.out, (HW.out.setCell (by show w.heap.size ≤ B + 1 + 1; omega) _).drew⟩
        case measure => simp [intOf]; omega)
    · obtain rfl : k = 32 := by omega
      have hS2 : Rw wr (B + 1 + 1) (fun i => b.testBit i != c.testBit i) := HS.out.congr (fun i hi => by rw [if_pos hi])
      have HNu := hide (fun w => rnumber_any (fun i => b.testBit i != c.testBit i) w)
      rw [nm_eq (x := b ^^^ c) (Nat.xor_lt_two_pow (n := 32) hb hc) (fun i hi => by
            rw [Nat.testBit_xor])] at HNu
      have HI2 := hide (size62 (fun i => b.testBit i != c.testBit i))
      have HR2 := hide hS2
      unfold Rw at HR2
      clear hS2 HS
      generalize Tb (fun i => b.testBit i != c.testBit i) 32 = T3 at *
      go_wp2_with (refine wpList_load_row rfl 102 _ rfl (B + 1 + 1) rfl 102 T3 (0, 0) _ HR2.out Tryd.underlying102 rfl HI2.out ?_)
      refine Calls.mono (HNu.out _) ?_
      rintro e w3 ⟨rfl, b3⟩
      go_wp2
      go_ret
      exact ⟨rfl, HW.out.trans (b3.mono HW.out.size)⟩
end Go.Proofs.YtegkodgondlcmaaDoor
