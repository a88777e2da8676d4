/-
  The document's Answer to a chunk in form, with an acknowledgement.
-/
import Derived.Test.YtnopclacchoijaaDoorXrChk
namespace Go.Proofs.YtnopclacchoijaaDoor
open Go.RowKit FerryCrc
set_option linter.unusedVariables false
set_option linter.unusedSimpArgs false

set_option maxRecDepth 100000 in
set_option maxHeartbeats 4000000 in
theorem ranswer_any (pt2 b2 r2 m2 st2 ix tt2 sm : Int) (d : ByteArray) {w : World} (hd : d.size ≤ 9223372036854775807) (h1 : -9223372036854775808 ≤ tt2) (h2 : tt2 ≤ 9223372036854775807) (hc : chk ⟨1, pt2, b2, r2, m2, st2, ix, tt2, sm, d⟩ = 0) :
    Calls Tryd.prog 52 #[.agg #[.int .i64 1, .int .i64 pt2, .int .i64 b2, .int .i64 r2, .int .i64 m2, .int .i64 st2, .int .i64 ix, .int .i64 tt2, .int .u32 sm, .string d], .int .i64 7, .int .u32 0] w fun e w' => e = .returned (.tuple #[.agg #[.int .i64 7, .int .i64 pt2, .int .i64 b2, .int .i64 r2, .int .i64 m2, .int .i64 st2, .int .i64 ix, .int .i64 tt2, .int .u32 0, .string ⟨#[]⟩], .int .i64 0]) ∧ Below w.heap.size w w' := by
  have HC1 := hide (fun (w' : World) => rcheck_any 1 pt2 b2 r2 m2 st2 ix tt2 sm d w' hd h1 h2)
  rw [hc] at HC1
  obtain ⟨W, hW, B0, B1, D0⟩ := box2 w [.int .i64 1, .int .i64 pt2, .int .i64 b2, .int .i64 r2, .int .i64 m2, .int .i64 st2, .int .i64 ix, .int .i64 tt2, .int .u32 sm, .string d] 34 [.int .i64 0, .int .i64 0, .int .i64 0, .int .i64 0, .int .i64 0, .int .i64 0, .int .i64 0, .int .i64 0, .int .u32 0, .string ⟨#[]⟩] 34
  obtain ⟨q, hq⟩ : ∃ q, w.heap.size + 1 = q := ⟨_, rfl⟩
  have HQ0 : Hid (w.heap.size < q) := by unfold Hid; omega
  rw [hq] at B1
  have HB0 := hide B0
  have HB1 := hide B1
  have HD := hide D0
  have HWD := hide hW
  have HQQ := hide hq
  clear B0 B1 D0 hW hq hc hd h1 h2
  go_enter Tryd.func52, Tryd.ntmps52
  go_upto_region 1 with fail
  have hW := HWD.out
  have hq := HQQ.out
  simp only [hW, hq]
  clear hW HWD hq HQQ
  have g0 := HB0.out.cell 0 rfl
  have g1 := HB0.out.cell 1 rfl
  have g2 := HB0.out.cell 2 rfl
  have g3 := HB0.out.cell 3 rfl
  have g4 := HB0.out.cell 4 rfl
  have g5 := HB0.out.cell 5 rfl
  have g6 := HB0.out.cell 6 rfl
  have g7 := HB0.out.cell 7 rfl
  have g8 := HB0.out.cell 8 rfl
  have g9 := HB0.out.cell 9 rfl
  go_wp2_with fail
  refine Calls.mono (HC1.out W) ?_
  rintro e w1 ⟨rfl, b1⟩
  replace HB0 := hide (HB0.out.below b1)
  replace HB1 := hide (HB1.out.below b1)
  replace HD := hide (chain HD.out b1)
  clear b1 HC1 g0 g1 g2 g3 g4 g5 g6 g7 g8 g9
  have g0 := HB0.out.cell 0 rfl
  have g1 := HB0.out.cell 1 rfl
  have g2 := HB0.out.cell 2 rfl
  have g3 := HB0.out.cell 3 rfl
  have g4 := HB0.out.cell 4 rfl
  have g5 := HB0.out.cell 5 rfl
  have g6 := HB0.out.cell 6 rfl
  have g7 := HB0.out.cell 7 rfl
  have g8 := HB0.out.cell 8 rfl
  have g9 := HB0.out.cell 9 rfl
  obtain ⟨W2, hW2, B2, D2⟩ := box1 w1 [.int .i64 7, .int .i64 pt2, .int .i64 b2, .int .i64 r2, .int .i64 m2, .int .i64 0, .int .i64 0, .int .i64 0, .int .u32 0, .string ⟨#[]⟩] 34
  obtain ⟨g, hgg⟩ : ∃ g, w1.heap.size = g := ⟨_, rfl⟩
  have hqg : q < g := by rw [← hgg]; exact HB1.out.lt
  have hpg : w.heap.size < g := by rw [← hgg]; exact HB0.out.lt
  rw [hgg] at B2
  have HW2 := hide hW2
  have HGG := hide hgg
  have K0 := hide (HB0.out.below D2)
  have K1 := hide (HB1.out.below D2)
  have K2 := hide B2
  have KD := hide (chain HD.out D2)
  have HPG : Hid (q ≠ g ∧ g ≠ q ∧ w.heap.size ≠ g ∧ w.heap.size ≤ g) := ⟨by omega, by omega, by omega, by omega⟩
  clear hW2 hgg B2 D2 hqg hpg
  go_upto_region 9 with fail
  have hW2 := HW2.out
  have hgg := HGG.out
  simp only [hW2, hgg]
  clear HW2 HGG hW2 hgg HB0 HB1 HD g0 g1 g2 g3 g4 g5 g6 g7 g8 g9
  have n5 := K0.out.cell 5 rfl
  have a5 := K2.out.cell 5 rfl
  have z5 := K2.out.frozen 5
  have L0 := hide (K0.out.other ⟨g, 5, none⟩ (.int .i64 st2) HPG.out.2.2.1)
  have L1 := hide (K1.out.other ⟨g, 5, none⟩ (.int .i64 st2) HPG.out.1)
  have L2 := hide (K2.out.set 5 (.int .i64 st2))
  have LD := hide (KD.out.setCell (p := ⟨g, 5, none⟩) HPG.out.2.2.2 (.int .i64 st2))
  go_upto_region 12 with fail
  obtain ⟨W3, hW3⟩ : ∃ W3, W2.setCell ⟨g, 5, none⟩ (.int .i64 st2) = W3 := ⟨_, rfl⟩
  rw [hW3] at L0 L1 L2 LD
  simp only [hW3]
  replace L2 : Hid (Bk W3 g [.int .i64 7, .int .i64 pt2, .int .i64 b2, .int .i64 r2, .int .i64 m2, .int .i64 st2, .int .i64 0, .int .i64 0, .int .u32 0, .string ⟨#[]⟩] 34) := L2
  clear hW3 n5 a5 z5 K0 K1 K2 KD
  have X0 := hide (L0.out.below (Below.refl _ W3).drew)
  have X2 := hide (L2.out.below (Below.refl _ W3).drew)
  have m6 := X0.out.cell 6 rfl
  have m7 := X0.out.cell 7 rfl
  have b6 := X2.out.cell 6 rfl
  have b7 := X2.out.cell 7 rfl
  have y6 := X2.out.frozen 6
  have y7 := X2.out.frozen 7
  have m6' := L0.out.cell 6 rfl
  have m7' := L0.out.cell 7 rfl
  have b6' := L2.out.cell 6 rfl
  have b7' := L2.out.cell 7 rfl
  have y6' := L2.out.frozen 6
  have y7' := L2.out.frozen 7
  have M1 := hide ((L1.out.other ⟨g, 6, none⟩ (.int .i64 ix) HPG.out.1).other ⟨g, 7, none⟩ (.int .i64 tt2) HPG.out.1)
  have M2 := hide ((L2.out.set 6 (.int .i64 ix)).set 7 (.int .i64 tt2))
  have MD := hide ((LD.out.setCell (p := ⟨g, 6, none⟩) HPG.out.2.2.2 (.int .i64 ix)).setCell (p := ⟨g, 7, none⟩) HPG.out.2.2.2 (.int .i64 tt2))
  go_region
  obtain ⟨W4, hW4⟩ : ∃ W4, (W3.setCell ⟨g, 6, none⟩ (.int .i64 ix)).setCell ⟨g, 7, none⟩ (.int .i64 tt2) = W4 := ⟨_, rfl⟩
  rw [hW4] at M1 M2 MD
  simp only [hW4]
  replace M2 : Hid (Bk W4 g [.int .i64 7, .int .i64 pt2, .int .i64 b2, .int .i64 r2, .int .i64 m2, .int .i64 st2, .int .i64 ix, .int .i64 tt2, .int .u32 0, .string ⟨#[]⟩] 34) := M2
  clear hW4 m6 m7 b6 b7 y6 y7 m6' m7' b6' b7' y6' y7' X0 X2 L0 L1 L2 LD
  replace M1 := hide (M1.out.below (Below.refl _ W4).drew)
  replace M2 := hide (M2.out.below (Below.refl _ W4).drew)
  replace MD := hide MD.out.drew
  go_upto_region 13 with fail
  obtain ⟨W5, hW5⟩ : ∃ W5, W4.drew = W5 := ⟨_, rfl⟩
  rw [hW5] at M1 M2 MD
  simp only [hW5]
  clear hW5
  have c0 := M2.out.cell 0 rfl
  have c1 := M2.out.cell 1 rfl
  have c2 := M2.out.cell 2 rfl
  have c3 := M2.out.cell 3 rfl
  have c4 := M2.out.cell 4 rfl
  have c5 := M2.out.cell 5 rfl
  have c6 := M2.out.cell 6 rfl
  have c7 := M2.out.cell 7 rfl
  have c8 := M2.out.cell 8 rfl
  have c9 := M2.out.cell 9 rfl
  have g0 := M1.out.cell 0 rfl
  have g1 := M1.out.cell 1 rfl
  have g2 := M1.out.cell 2 rfl
  have g3 := M1.out.cell 3 rfl
  have g4 := M1.out.cell 4 rfl
  have g5 := M1.out.cell 5 rfl
  have g6 := M1.out.cell 6 rfl
  have g7 := M1.out.cell 7 rfl
  have g8 := M1.out.cell 8 rfl
  have g9 := M1.out.cell 9 rfl
  have f0 := M1.out.frozen 0
  have f1 := M1.out.frozen 1
  have f2 := M1.out.frozen 2
  have f3 := M1.out.frozen 3
  have f4 := M1.out.frozen 4
  have f5 := M1.out.frozen 5
  have f6 := M1.out.frozen 6
  have f7 := M1.out.frozen 7
  have f8 := M1.out.frozen 8
  have f9 := M1.out.frozen 9
  have Q1 := hide (M1.out.sets [.int .i64 7, .int .i64 pt2, .int .i64 b2, .int .i64 r2, .int .i64 m2, .int .i64 st2, .int .i64 ix, .int .i64 tt2, .int .u32 0, .string ⟨#[]⟩] rfl)
  have Q3 := hide (below_sets (Nat.le_of_lt HQ0.out) [.int .i64 7, .int .i64 pt2, .int .i64 b2, .int .i64 r2, .int .i64 m2, .int .i64 st2, .int .i64 ix, .int .i64 tt2, .int .u32 0, .string ⟨#[]⟩] 0 MD.out)
  go_wp2
  obtain ⟨W9, hW9⟩ : ∃ W9, ((((((((((W5.setCell ⟨q, 0, none⟩ (.int .i64 7)).setCell ⟨q, 1, none⟩ (.int .i64 pt2)).setCell ⟨q, 2, none⟩ (.int .i64 b2)).setCell ⟨q, 3, none⟩ (.int .i64 r2)).setCell ⟨q, 4, none⟩ (.int .i64 m2)).setCell ⟨q, 5, none⟩ (.int .i64 st2)).setCell ⟨q, 6, none⟩ (.int .i64 ix)).setCell ⟨q, 7, none⟩ (.int .i64 tt2)).setCell ⟨q, 8, none⟩ (.int .u32 0)).setCell ⟨q, 9, none⟩ (.string ⟨#[]⟩)) = W9 := ⟨_, rfl⟩
  simp only [hW9]
  rw [show World.setCells W5 q 0 [.int .i64 7, .int .i64 pt2, .int .i64 b2, .int .i64 r2, .int .i64 m2, .int .i64 st2, .int .i64 ix, .int .i64 tt2, .int .u32 0, .string ⟨#[]⟩] = W9 from hW9] at Q1 Q3
  clear hW9
  have e0 := Q1.out.cell 0 rfl
  have e1 := Q1.out.cell 1 rfl
  have e2 := Q1.out.cell 2 rfl
  have e3 := Q1.out.cell 3 rfl
  have e4 := Q1.out.cell 4 rfl
  have e5 := Q1.out.cell 5 rfl
  have e6 := Q1.out.cell 6 rfl
  have e7 := Q1.out.cell 7 rfl
  have e8 := Q1.out.cell 8 rfl
  have e9 := Q1.out.cell 9 rfl
  refine bodyPost_ret (v := .tuple #[.agg #[.int .i64 7, .int .i64 pt2, .int .i64 b2, .int .i64 r2, .int .i64 m2, .int .i64 st2, .int .i64 ix, .int .i64 tt2, .int .u32 0, .string ⟨#[]⟩], .int .i64 0]) (by simp [results, Tryd.results52, go_sem, e0, e1, e2, e3, e4, e5, e6, e7, e8, e9]) rfl ?_
  exact ⟨rfl, Q3.out⟩
end Go.Proofs.YtnopclacchoijaaDoor
