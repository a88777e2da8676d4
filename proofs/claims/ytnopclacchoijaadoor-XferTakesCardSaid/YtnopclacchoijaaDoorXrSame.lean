/-
  The document's Same of Sends that are alike; the law's from, to and plain.
-/
import Derived.Test.YtnopclacchoijaaDoorXfKit
import Derived.Deep.QuietTactic
namespace Go.Proofs.YtnopclacchoijaaDoor
open Go.RowKit FerryCrc
set_option linter.unusedVariables false
set_option linter.unusedSimpArgs false

set_option maxRecDepth 100000 in
set_option maxHeartbeats 1000000 in
theorem from_any (s : Sd) (fa : Option Addr) (fn fc : Nat) (w : World) : Calls Tryd.prog 22 #[.agg (s.cells (.slice fa fn fc)).toArray] w fun e w' => e = .returned (.agg (s.cells (.slice fa fn fc)).toArray) ∧ Below w.heap.size w w' := by
  obtain ⟨pt, b, r, m, st, im, rd⟩ := s
  unfold Sd.cells
  simp only
  obtain ⟨W, hW, B0, B2, D0⟩ := box2 w [.int .i64 pt, .int .i64 b, .int .i64 r, .int .i64 m, .int .i64 st, .string im, .slice fa fn fc, .int .i64 rd] 48 [.int .i64 0, .int .i64 0, .int .i64 0, .int .i64 0, .int .i64 0, .string ⟨#[]⟩, .slice none 0 0, .int .i64 0] 26
  obtain ⟨q, hq⟩ : ∃ q, w.heap.size + 1 = q := ⟨_, rfl⟩
  have hge : w.heap.size ≤ q := by omega
  rw [hq] at B2
  have HB0 := hide B0
  have HB2 := hide B2
  have HWD := hide hW
  have HQQ := hide hq
  have Q1 := hide (B2.sets [.int .i64 pt, .int .i64 b, .int .i64 r, .int .i64 m, .int .i64 st, .string im, .slice fa fn fc, .int .i64 rd] rfl)
  have Q3 := hide (below_sets hge [.int .i64 pt, .int .i64 b, .int .i64 r, .int .i64 m, .int .i64 st, .string im, .slice fa fn fc, .int .i64 rd] 0 D0)
  clear B0 B2 D0 hW hq hge
  go_enter Tryd.func22, Tryd.ntmps22
  go_upto_region 1 with fail
  have hW := HWD.out
  have hq := HQQ.out
  clear HWD HQQ
  simp only [hW, hq]
  clear hW hq
  have g0 := HB0.out.cell 0 rfl
  have g1 := HB0.out.cell 1 rfl
  have g2 := HB0.out.cell 2 rfl
  have g3 := HB0.out.cell 3 rfl
  have g4 := HB0.out.cell 4 rfl
  have g5 := HB0.out.cell 5 rfl
  have g6 := HB0.out.cell 6 rfl
  have g7 := HB0.out.cell 7 rfl
  have c0 := HB2.out.cell 0 rfl
  have c1 := HB2.out.cell 1 rfl
  have c2 := HB2.out.cell 2 rfl
  have c3 := HB2.out.cell 3 rfl
  have c4 := HB2.out.cell 4 rfl
  have c5 := HB2.out.cell 5 rfl
  have c6 := HB2.out.cell 6 rfl
  have c7 := HB2.out.cell 7 rfl
  have f0 := HB2.out.frozen 0
  have f1 := HB2.out.frozen 1
  have f2 := HB2.out.frozen 2
  have f3 := HB2.out.frozen 3
  have f4 := HB2.out.frozen 4
  have f5 := HB2.out.frozen 5
  have f6 := HB2.out.frozen 6
  have f7 := HB2.out.frozen 7
  go_wp2
  obtain ⟨W9, hW9⟩ : ∃ W9, ((((((((W.setCell ⟨q, 0, none⟩ (.int .i64 pt)).setCell ⟨q, 1, none⟩ (.int .i64 b)).setCell ⟨q, 2, none⟩ (.int .i64 r)).setCell ⟨q, 3, none⟩ (.int .i64 m)).setCell ⟨q, 4, none⟩ (.int .i64 st)).setCell ⟨q, 5, none⟩ (.string im)).setCell ⟨q, 6, none⟩ (.slice fa fn fc)).setCell ⟨q, 7, none⟩ (.int .i64 rd)) = W9 := ⟨_, rfl⟩
  simp only [hW9]
  rw [show W.setCells q 0 [.int .i64 pt, .int .i64 b, .int .i64 r, .int .i64 m, .int .i64 st, .string im, .slice fa fn fc, .int .i64 rd] = W9 from hW9] at Q1 Q3
  clear hW9
  have e0 := Q1.out.cell 0 rfl
  have e1 := Q1.out.cell 1 rfl
  have e2 := Q1.out.cell 2 rfl
  have e3 := Q1.out.cell 3 rfl
  have e4 := Q1.out.cell 4 rfl
  have e5 := Q1.out.cell 5 rfl
  have e6 := Q1.out.cell 6 rfl
  have e7 := Q1.out.cell 7 rfl
  refine bodyPost_ret (v := .agg #[.int .i64 pt, .int .i64 b, .int .i64 r, .int .i64 m, .int .i64 st, .string im, .slice fa fn fc, .int .i64 rd]) (by simp [results, Tryd.results22, go_sem, e0, e1, e2, e3, e4, e5, e6, e7]) rfl ?_
  exact ⟨rfl, Q3.out⟩
set_option maxRecDepth 100000 in
set_option maxHeartbeats 1000000 in
theorem to_any (s : Sd) (fa : Option Addr) (fn fc : Nat) (w : World) : Calls Tryd.prog 15 #[.agg (s.cells (.slice fa fn fc)).toArray] w fun e w' => e = .returned (.agg (s.cells (.slice fa fn fc)).toArray) ∧ Below w.heap.size w w' := by
  obtain ⟨pt, b, r, m, st, im, rd⟩ := s
  unfold Sd.cells
  simp only
  obtain ⟨W, hW, B0, B2, D0⟩ := box2 w [.int .i64 pt, .int .i64 b, .int .i64 r, .int .i64 m, .int .i64 st, .string im, .slice fa fn fc, .int .i64 rd] 26 [.int .i64 0, .int .i64 0, .int .i64 0, .int .i64 0, .int .i64 0, .string ⟨#[]⟩, .slice none 0 0, .int .i64 0] 48
  obtain ⟨q, hq⟩ : ∃ q, w.heap.size + 1 = q := ⟨_, rfl⟩
  have hge : w.heap.size ≤ q := by omega
  rw [hq] at B2
  have HB0 := hide B0
  have HB2 := hide B2
  have HWD := hide hW
  have HQQ := hide hq
  have Q1 := hide (B2.sets [.int .i64 pt, .int .i64 b, .int .i64 r, .int .i64 m, .int .i64 st, .string im, .slice fa fn fc, .int .i64 rd] rfl)
  have Q3 := hide (below_sets hge [.int .i64 pt, .int .i64 b, .int .i64 r, .int .i64 m, .int .i64 st, .string im, .slice fa fn fc, .int .i64 rd] 0 D0)
  clear B0 B2 D0 hW hq hge
  go_enter Tryd.func15, Tryd.ntmps15
  go_upto_region 1 with fail
  have hW := HWD.out
  have hq := HQQ.out
  clear HWD HQQ
  simp only [hW, hq]
  clear hW hq
  have g0 := HB0.out.cell 0 rfl
  have g1 := HB0.out.cell 1 rfl
  have g2 := HB0.out.cell 2 rfl
  have g3 := HB0.out.cell 3 rfl
  have g4 := HB0.out.cell 4 rfl
  have g5 := HB0.out.cell 5 rfl
  have g6 := HB0.out.cell 6 rfl
  have g7 := HB0.out.cell 7 rfl
  have c0 := HB2.out.cell 0 rfl
  have c1 := HB2.out.cell 1 rfl
  have c2 := HB2.out.cell 2 rfl
  have c3 := HB2.out.cell 3 rfl
  have c4 := HB2.out.cell 4 rfl
  have c5 := HB2.out.cell 5 rfl
  have c6 := HB2.out.cell 6 rfl
  have c7 := HB2.out.cell 7 rfl
  have f0 := HB2.out.frozen 0
  have f1 := HB2.out.frozen 1
  have f2 := HB2.out.frozen 2
  have f3 := HB2.out.frozen 3
  have f4 := HB2.out.frozen 4
  have f5 := HB2.out.frozen 5
  have f6 := HB2.out.frozen 6
  have f7 := HB2.out.frozen 7
  go_wp2
  obtain ⟨W9, hW9⟩ : ∃ W9, ((((((((W.setCell ⟨q, 0, none⟩ (.int .i64 pt)).setCell ⟨q, 1, none⟩ (.int .i64 b)).setCell ⟨q, 2, none⟩ (.int .i64 r)).setCell ⟨q, 3, none⟩ (.int .i64 m)).setCell ⟨q, 4, none⟩ (.int .i64 st)).setCell ⟨q, 5, none⟩ (.string im)).setCell ⟨q, 6, none⟩ (.slice fa fn fc)).setCell ⟨q, 7, none⟩ (.int .i64 rd)) = W9 := ⟨_, rfl⟩
  simp only [hW9]
  rw [show W.setCells q 0 [.int .i64 pt, .int .i64 b, .int .i64 r, .int .i64 m, .int .i64 st, .string im, .slice fa fn fc, .int .i64 rd] = W9 from hW9] at Q1 Q3
  clear hW9
  have e0 := Q1.out.cell 0 rfl
  have e1 := Q1.out.cell 1 rfl
  have e2 := Q1.out.cell 2 rfl
  have e3 := Q1.out.cell 3 rfl
  have e4 := Q1.out.cell 4 rfl
  have e5 := Q1.out.cell 5 rfl
  have e6 := Q1.out.cell 6 rfl
  have e7 := Q1.out.cell 7 rfl
  refine bodyPost_ret (v := .agg #[.int .i64 pt, .int .i64 b, .int .i64 r, .int .i64 m, .int .i64 st, .string im, .slice fa fn fc, .int .i64 rd]) (by simp [results, Tryd.results15, go_sem, e0, e1, e2, e3, e4, e5, e6, e7]) rfl ?_
  exact ⟨rfl, Q3.out⟩
theorem plain_any {w : World} {E : Nat → Addr} (he : Errs w E) (i : Nat) (hi : i ≤ 20) :
    Calls Tryd.prog 18 #[erv E i, .int .i64 (i : Int)] w fun e w' => e = .returned (.bool true) ∧ Below w.heap.size w w' := by
  have hv := erv_bare E i hi
  have H1 := hide (code_any he _ i _ (hv.err (w := w)))
  have H2 := hide (place_bare he _ i hv)
  clear he hv
  generalize erv E i = v at *
  go_enter Tryd.func18, Tryd.ntmps18
  go_wp2_with fail
  refine Calls.mono H1.out ?_
  rintro e w1 ⟨rfl, rfl⟩
  go_wp2_with fail
  refine Calls.mono H2.out ?_
  rintro e w2 ⟨rfl, b2⟩
  have B2 := hide b2
  clear b2
  go_wp2
  go_ret
  exact ⟨rfl, B2.out⟩
set_option maxRecDepth 100000 in
set_option maxHeartbeats 1000000 in
theorem rsame_any (s : Sd) (fa fb : Option Addr) (fn fc fd : Nat) (F : List Bool) {w : World} (hA : Fls w fa fn fc F) (hB : Fls w fb fn fd F) (hfn : fn ≤ 4611686018427387904) : Calls Tryd.prog 21 #[.agg (s.cells (.slice fa fn fc)).toArray, .agg (s.cells (.slice fb fn fd)).toArray] w fun e w' => e = .returned (.bool true) ∧ Below w.heap.size w w' := by
  obtain ⟨pt, b, r, m, st, im, rd⟩ := s
  unfold Sd.cells
  simp only
  obtain ⟨W, hW, B0, B1, D0⟩ := box2 w [.int .i64 pt, .int .i64 b, .int .i64 r, .int .i64 m, .int .i64 st, .string im, .slice fa fn fc, .int .i64 rd] 26 [.int .i64 pt, .int .i64 b, .int .i64 r, .int .i64 m, .int .i64 st, .string im, .slice fb fn fd, .int .i64 rd] 26
  obtain ⟨q, hq⟩ : ∃ q, w.heap.size + 1 = q := ⟨_, rfl⟩
  rw [hq] at B1
  have HB0 := hide B0
  have HB1 := hide B1
  have HWD := hide hW
  have HQQ := hide hq
  have HD := hide D0
  have HA := hide (hA.below D0)
  have HB := hide (hB.below D0)
  have hFs := hA.size
  clear B0 B1 D0 hW hq hA hB
  go_enter Tryd.func21, Tryd.ntmps21
  go_upto_region 1 with fail
  have hW := HWD.out
  have hq := HQQ.out
  clear HWD HQQ
  simp only [hW, hq]
  clear hW hq
  have g0 := HB0.out.cell 0 rfl
  have g1 := HB0.out.cell 1 rfl
  have g2 := HB0.out.cell 2 rfl
  have g3 := HB0.out.cell 3 rfl
  have g4 := HB0.out.cell 4 rfl
  have g5 := HB0.out.cell 5 rfl
  have g6 := HB0.out.cell 6 rfl
  have g7 := HB0.out.cell 7 rfl
  have c0 := HB1.out.cell 0 rfl
  have c1 := HB1.out.cell 1 rfl
  have c2 := HB1.out.cell 2 rfl
  have c3 := HB1.out.cell 3 rfl
  have c4 := HB1.out.cell 4 rfl
  have c5 := HB1.out.cell 5 rfl
  have c6 := HB1.out.cell 6 rfl
  have c7 := HB1.out.cell 7 rfl
  go_wp2_with fail
  clear g0 g1 g2 g3 g4 g5 g6 g7 c0 c1 c2 c3 c4 c5 c6 c7
  go_loopw [5] (fun i wr => ∃ k : Nat, k ≤ fn ∧ i = .int .i64 (k : Int) ∧ Hid (Below W.heap.size W wr)) (fun i _ => fn - (intOf i).toNat)
  case atStart => exact ⟨0, Nat.zero_le _, rfl, Below.refl _ _⟩
  case round =>
    obtain ⟨k, hk, rfl, HBW⟩ := hrel
    have g6 := (HB0.out.below HBW.out).cell 6 rfl
    have c6 := (HB1.out.below HBW.out).cell 6 rfl
    by_cases hlt : k < fn
    · obtain ⟨y, hy⟩ : ∃ y, F[k]? = some y := ⟨_, List.getElem?_eq_getElem (by omega)⟩
      obtain ⟨b1, o1, rfl, hc1⟩ := (HA.out.below HBW.out).at bvl1 (by decide) hy
      obtain ⟨b2, o2, rfl, hc2⟩ := (HB.out.below HBW.out).at bvl1 (by decide) hy
      have y1 := hc1 0 _ rfl
      have y2 := hc2 0 _ rfl
      rw [Nat.mul_one, Nat.add_zero] at y1 y2
      have hk1 : (k : Int) < (fn : Int) := by omega
      clear hc1 hc2 hy
      go_wp2_with fail
      go_quiet (fail)
      cases y with
      | true =>
        go_wp2
        exact ⟨⟨k + 1, by omega, by simp, ⟨HBW.out.os, HBW.out.tape, HBW.out.output, HBW.out.size, HBW.out.block⟩⟩, by simp [intOf]; omega⟩
      | false =>
        go_wp2
        exact ⟨⟨k + 1, by omega, by simp, ⟨HBW.out.os, HBW.out.tape, HBW.out.output, HBW.out.size, HBW.out.block⟩⟩, by simp [intOf]; omega⟩
    · obtain rfl : k = fn := by omega
      have hk1 : ¬ (k : Int) < (k : Int) := by omega
      have HF := hide (chain HD.out HBW.out)
      go_wp2
      go_ret
      exact ⟨rfl, HF.out⟩
end Go.Proofs.YtnopclacchoijaaDoor
