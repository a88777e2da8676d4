/-
  The document's Take.
-/
import Derived.Test.YtnopclacchoijaaDoorXtForm
import Derived.Test.YtnopclacchoijaaDoorXtAdd
import Derived.Test.YtnopclacchoijaaDoorXtBegin
import Derived.Test.YtnopclacchoijaaDoorXtAns
import Derived.Test.YtnopclacchoijaaDoorXfTake
namespace Go.Proofs.YtnopclacchoijaaDoor
open Go.RowKit FerryCrc
set_option linter.unusedVariables false
set_option linter.unusedSimpArgs false

set_option maxRecDepth 100000 in
set_option maxHeartbeats 4000000 in
theorem rtake_any (on : Bool) (pt st tt b r m : Int) (a : Option Addr) (n c : Nat) (P : List ByteArray) (k pt2 b2 r2 m2 st2 ix tt2 sm : Int) (d : ByteArray) {w : World} (hP : Txs w a n c P)
    (hd : d.size ≤ 9223372036854775807) (h1 : -9223372036854775808 ≤ tt2) (h2 : tt2 ≤ 9223372036854775807) :
    Calls Tryd.prog 27 #[.agg #[.bool on, .int .i64 pt, .int .i64 st, .int .i64 tt, .int .i64 b, .int .i64 r, .int .i64 m, .slice a n c], .agg #[.int .i64 k, .int .i64 pt2, .int .i64 b2, .int .i64 r2, .int .i64 m2, .int .i64 st2, .int .i64 ix, .int .i64 tt2, .int .u32 sm, .string d]] w fun e w' => ∃ v, e = .returned (.tuple #[.agg (.bool (decide (takE on ⟨pt, st, tt, b, r, m⟩ P ⟨k, pt2, b2, r2, m2, st2, ix, tt2, sm, d⟩ = 0)) :: (takS on ⟨pt, st, tt, b, r, m⟩ P ⟨k, pt2, b2, r2, m2, st2, ix, tt2, sm, d⟩).cells v).toArray, .agg (takN on ⟨pt, st, tt, b, r, m⟩ P ⟨k, pt2, b2, r2, m2, st2, ix, tt2, sm, d⟩).cells.toArray, .int .i64 (takE on ⟨pt, st, tt, b, r, m⟩ P ⟨k, pt2, b2, r2, m2, st2, ix, tt2, sm, d⟩ : Int)]) ∧ TxOwn w' w.heap.size v (takP on ⟨pt, st, tt, b, r, m⟩ P ⟨k, pt2, b2, r2, m2, st2, ix, tt2, sm, d⟩) ∧ Below w.heap.size w w' := by
  obtain ⟨N, hN⟩ : ∃ N : Nt, N = ⟨k, pt2, b2, r2, m2, st2, ix, tt2, sm, d⟩ := ⟨_, rfl⟩
  obtain ⟨SS, hSS⟩ : ∃ X : Sg, X = ⟨pt, st, tt, b, r, m⟩ := ⟨_, rfl⟩
  have HC1 := hide (fun (w' : World) (h : Txs w' a n c P) => rformed_any on pt st tt b r m a n c P h)
  have HC2 := hide (fun (w' : World) => rbegin_any (w := w') k pt2 b2 r2 m2 st2 ix tt2 sm d hd h1 h2)
  have HC3 := hide (fun (w' : World) (hk : k = 1) (hc : chk ⟨1, pt2, b2, r2, m2, st2, ix, tt2, sm, d⟩ = 0) => ranswer_any (w := w') pt2 b2 r2 m2 st2 ix tt2 sm d hd h1 h2 hc)
  have HC4 := hide (fun (w' : World) (h : Txs w' a n c P) => radd_any pt st tt b r m a n c P k pt2 b2 r2 m2 st2 ix tt2 sm d h hd h1 h2)
  rw [← hSS] at HC1 HC4 ⊢
  rw [← hN] at HC2 HC4 ⊢
  have HGO : Hid (rgood on SS P = true → on = true → goodB SS P = true) := fun q1 q2 => by
    unfold rgood at q1
    rw [if_pos q2] at q1
    exact (Bool.and_eq_true _ _ ▸ q1).1
  have HXE0 : Hid (takE on SS P N = if rgood on SS P = true then (if isSame on SS N = true then addE SS P N else begE N) else 9) := rfl
  have HXS0 : Hid (takS on SS P N = if takE on SS P N = 0 then (if isSame on SS N = true then addS SS P N else begS N) else zSg) := rfl
  have HXP0 : Hid (takP on SS P N = if takE on SS P N = 0 then (if isSame on SS N = true then addP SS P N else begP N) else []) := rfl
  have HXN0 : Hid (takN on SS P N = if takE on SS P N = 0 then ansN N else zNt) := rfl
  have HIS : Hid (isSame on SS N = (on && sameSg SS N)) := rfl
  have HAN : Hid (begE N = 0 → k = 1 ∧ chk ⟨1, pt2, b2, r2, m2, st2, ix, tt2, sm, d⟩ = 0 ∧ ansN N = ⟨7, pt2, b2, r2, m2, st2, ix, tt2, 0, ⟨#[]⟩⟩) := fun q => by
    obtain ⟨q1, q2⟩ := begE_open q
    rw [hN] at q1 q2
    simp only at q2
    subst q2
    refine ⟨rfl, q1, ?_⟩
    have q3 : ansE N = 0 := by rw [hN]; unfold ansE; rw [if_pos q1, if_pos rfl]
    unfold ansN
    rw [if_pos q3, hN]
  have HAD : Hid (goodB SS P = true → begE N = 0 → (sameSg SS N = false ↔ addE SS P N = 10)) := fun q1 q2 => by
    unfold addE
    rw [if_pos q1, if_pos q2]
    cases sameSg SS N with
    | false => simp
    | true =>
      simp only [if_true, reduceCtorEq, false_iff]
      split <;> decide
  have HAB : Hid (goodB SS P = true → begE N ≠ 0 → addE SS P N = begE N) := fun q1 q2 => by
    unfold addE
    rw [if_pos q1, if_neg q2]
  obtain ⟨XE, e1⟩ : ∃ X, takE on SS P N = X := ⟨_, rfl⟩
  obtain ⟨XS, e2⟩ : ∃ X, takS on SS P N = X := ⟨_, rfl⟩
  obtain ⟨XP, e3⟩ : ∃ X, takP on SS P N = X := ⟨_, rfl⟩
  obtain ⟨XN, e4⟩ : ∃ X, takN on SS P N = X := ⟨_, rfl⟩
  rw [e1] at HXE0 HXS0 HXP0 HXN0 ⊢
  rw [e2] at HXS0 ⊢
  rw [e3] at HXP0 ⊢
  rw [e4] at HXN0 ⊢
  obtain ⟨XB, e5⟩ : ∃ X, decide (XE = 0) = X := ⟨_, rfl⟩
  rw [e5]
  have HXB : Hid (XB = decide (XE = 0)) := e5.symm
  obtain ⟨G, hG⟩ : ∃ X, rgood on SS P = X := ⟨_, rfl⟩
  obtain ⟨C, hC⟩ : ∃ X, begE N = X := ⟨_, rfl⟩
  obtain ⟨BS, hBS⟩ : ∃ X, begS N = X := ⟨_, rfl⟩
  obtain ⟨BP, hBP⟩ : ∃ X, begP N = X := ⟨_, rfl⟩
  obtain ⟨AE, hAE⟩ : ∃ X, addE SS P N = X := ⟨_, rfl⟩
  obtain ⟨AS, hAS⟩ : ∃ X, addS SS P N = X := ⟨_, rfl⟩
  obtain ⟨AP, hAP⟩ : ∃ X, addP SS P N = X := ⟨_, rfl⟩
  obtain ⟨AF, hAF⟩ : ∃ X, addF SS P N = X := ⟨_, rfl⟩
  obtain ⟨I, hI⟩ : ∃ X, isSame on SS N = X := ⟨_, rfl⟩
  obtain ⟨Y, hY⟩ : ∃ X, sameSg SS N = X := ⟨_, rfl⟩
  obtain ⟨GB, hGB⟩ : ∃ X, goodB SS P = X := ⟨_, rfl⟩
  rw [hG] at HC1 HGO HXE0
  rw [hC] at HC2 HXE0 HAN HAD HAB
  rw [hBS] at HC2 HXS0
  rw [hBP] at HC2 HXP0
  rw [hAE] at HC4 HXE0 HAD HAB
  rw [hAS] at HC4 HXS0
  rw [hAP] at HC4 HXP0
  rw [hAF] at HC4
  rw [hI] at HXE0 HXS0 HXP0 HIS
  rw [hY] at HIS HAD
  rw [hGB] at HGO HAD HAB
  have HXE := HXE0
  have HXS := HXS0
  have HXP := HXP0
  have HXN := HXN0
  obtain ⟨s1, s2, s3, s4, s5, s6⟩ := BS
  obtain ⟨a1, a2, a3, a4, a5, a6⟩ := AS
  unfold Sg.cells at HC2 HC4
  simp only at HC2 HC4
  clear HXE0 HXS0 HXP0 HXN0 e1 e2 e3 e4 e5 hG hC hBS hBP hAE hAS hAP hAF hI hY hGB hN hSS hd h1 h2
  obtain ⟨W, hW, B0, B1, B2, B3, D0⟩ := box4 w [.bool on, .int .i64 pt, .int .i64 st, .int .i64 tt, .int .i64 b, .int .i64 r, .int .i64 m, .slice a n c] 31 [.int .i64 k, .int .i64 pt2, .int .i64 b2, .int .i64 r2, .int .i64 m2, .int .i64 st2, .int .i64 ix, .int .i64 tt2, .int .u32 sm, .string d] 34 [.bool false, .int .i64 0, .int .i64 0, .int .i64 0, .int .i64 0, .int .i64 0, .int .i64 0, .slice none 0 0] 31 [.int .i64 0, .int .i64 0, .int .i64 0, .int .i64 0, .int .i64 0, .int .i64 0, .int .i64 0, .int .i64 0, .int .u32 0, .string ⟨#[]⟩] 34
  obtain ⟨p, hp⟩ : ∃ p, w.heap.size + 1 = p := ⟨_, rfl⟩
  obtain ⟨q, hq⟩ : ∃ q, w.heap.size + 2 = q := ⟨_, rfl⟩
  obtain ⟨u, hu⟩ : ∃ q, w.heap.size + 3 = q := ⟨_, rfl⟩
  have HNU : Hid (q ≠ u ∧ u ≠ q) := by unfold Hid; omega
  have HLE : Hid (w.heap.size ≤ q ∧ w.heap.size ≤ u) := by unfold Hid; omega
  have HPQ : Hid (w.heap.size + 1 = p ∧ p + 1 = q ∧ q + 1 = u) := by unfold Hid; omega
  rw [hp] at B1
  rw [hq] at B2
  rw [hu] at B3
  have HB0 := hide B0
  have HB1 := hide B1
  have HB2 := hide B2
  have HB3 := hide B3
  have HD := hide D0
  have HWD := hide hW
  have HP := hide (hP.below D0)
  clear B0 B1 B2 B3 D0 hW hP hp hq hu
  go_enter Tryd.func27, Tryd.ntmps27
  go_upto_region 1 with fail
  have hW := HWD.out
  obtain ⟨hp, hq, hu⟩ := HPQ.out
  clear HWD HPQ
  simp only [hW, hp, hq, hu]
  clear hW hp hq hu
  have g0 := HB0.out.cell 0 rfl
  have g1 := HB0.out.cell 1 rfl
  have g2 := HB0.out.cell 2 rfl
  have g3 := HB0.out.cell 3 rfl
  have g4 := HB0.out.cell 4 rfl
  have g5 := HB0.out.cell 5 rfl
  have g6 := HB0.out.cell 6 rfl
  have g7 := HB0.out.cell 7 rfl
  go_wp2_with fail
  refine Calls.mono (HC1.out W HP.out) ?_
  rintro e w1 ⟨rfl, b1⟩
  replace HB0 := hide (HB0.out.below b1)
  replace HB1 := hide (HB1.out.below b1)
  replace HB2 := hide (HB2.out.below b1)
  replace HB3 := hide (HB3.out.below b1)
  replace HP := hide (HP.out.below b1)
  replace HD := hide (chain HD.out b1)
  clear b1 HC1 g0 g1 g2 g3 g4 g5 g6 g7
  cases G with
  | false =>
    have HF : Hid (XB = false ∧ XS = zSg ∧ XN = zNt ∧ XE = 9) := by
      have h9 : XE = 9 := by rw [HXE.out]; rfl
      have hz : ¬ XE = 0 := by rw [h9]; decide
      exact ⟨by rw [HXB.out, decide_eq_false hz], by rw [HXS.out, if_neg hz], by rw [HXN.out, if_neg hz], h9⟩
    have HP0 : Hid (XP = []) := by
      have hz : ¬ XE = 0 := by rw [HF.out.2.2.2]; decide
      unfold Hid
      rw [HXP.out, if_neg hz]
    clear HXE HXS HXP HXN HXB HC2 HC3 HC4 HAN HAD HAB HIS HGO
    go_upto_region 2 with fail
    have g0 := HB2.out.cell 0 rfl
    have g1 := HB2.out.cell 1 rfl
    have g2 := HB2.out.cell 2 rfl
    have g3 := HB2.out.cell 3 rfl
    have g4 := HB2.out.cell 4 rfl
    have g5 := HB2.out.cell 5 rfl
    have g6 := HB2.out.cell 6 rfl
    have g7 := HB2.out.cell 7 rfl
    have f0 := HB2.out.frozen 0
    have f1 := HB2.out.frozen 1
    have f2 := HB2.out.frozen 2
    have f3 := HB2.out.frozen 3
    have f4 := HB2.out.frozen 4
    have f5 := HB2.out.frozen 5
    have f6 := HB2.out.frozen 6
    have f7 := HB2.out.frozen 7
    have V1 := hide (Bk.others HNU.out.2 [.bool false, .int .i64 0, .int .i64 0, .int .i64 0, .int .i64 0, .int .i64 0, .int .i64 0, .slice none 0 0] 0 HB3.out)
    have gu0 := HB3.out.cell 0 rfl
    have gu1 := HB3.out.cell 1 rfl
    have gu2 := HB3.out.cell 2 rfl
    have gu3 := HB3.out.cell 3 rfl
    have gu4 := HB3.out.cell 4 rfl
    have gu5 := HB3.out.cell 5 rfl
    have gu6 := HB3.out.cell 6 rfl
    have gu7 := HB3.out.cell 7 rfl
    have gu8 := HB3.out.cell 8 rfl
    have gu9 := HB3.out.cell 9 rfl
    have fu0 := HB3.out.frozen 0
    have fu1 := HB3.out.frozen 1
    have fu2 := HB3.out.frozen 2
    have fu3 := HB3.out.frozen 3
    have fu4 := HB3.out.frozen 4
    have fu5 := HB3.out.frozen 5
    have fu6 := HB3.out.frozen 6
    have fu7 := HB3.out.frozen 7
    have fu8 := HB3.out.frozen 8
    have fu9 := HB3.out.frozen 9
    obtain ⟨hqz, hzq⟩ := HNU.out
    have Q1 := hide (Bk.others HNU.out.1 [.int .i64 0, .int .i64 0, .int .i64 0, .int .i64 0, .int .i64 0, .int .i64 0, .int .i64 0, .int .i64 0, .int .u32 0, .string ⟨#[]⟩] 0 (HB2.out.sets [.bool false, .int .i64 0, .int .i64 0, .int .i64 0, .int .i64 0, .int .i64 0, .int .i64 0, .slice none 0 0] rfl))
    have Q5 := hide (V1.out.sets [.int .i64 0, .int .i64 0, .int .i64 0, .int .i64 0, .int .i64 0, .int .i64 0, .int .i64 0, .int .i64 0, .int .u32 0, .string ⟨#[]⟩] rfl)
    have Q3 := hide (below_sets HLE.out.2 [.int .i64 0, .int .i64 0, .int .i64 0, .int .i64 0, .int .i64 0, .int .i64 0, .int .i64 0, .int .i64 0, .int .u32 0, .string ⟨#[]⟩] 0 (below_sets HLE.out.1 [.bool false, .int .i64 0, .int .i64 0, .int .i64 0, .int .i64 0, .int .i64 0, .int .i64 0, .slice none 0 0] 0 HD.out))
    go_wp2
    obtain ⟨W9, hW9⟩ : ∃ W9, ((((((((((((((((((w1.setCell ⟨q, 0, none⟩ (.bool false)).setCell ⟨q, 1, none⟩ (.int .i64 0)).setCell ⟨q, 2, none⟩ (.int .i64 0)).setCell ⟨q, 3, none⟩ (.int .i64 0)).setCell ⟨q, 4, none⟩ (.int .i64 0)).setCell ⟨q, 5, none⟩ (.int .i64 0)).setCell ⟨q, 6, none⟩ (.int .i64 0)).setCell ⟨q, 7, none⟩ (.slice none 0 0)).setCell ⟨u, 0, none⟩ (.int .i64 0)).setCell ⟨u, 1, none⟩ (.int .i64 0)).setCell ⟨u, 2, none⟩ (.int .i64 0)).setCell ⟨u, 3, none⟩ (.int .i64 0)).setCell ⟨u, 4, none⟩ (.int .i64 0)).setCell ⟨u, 5, none⟩ (.int .i64 0)).setCell ⟨u, 6, none⟩ (.int .i64 0)).setCell ⟨u, 7, none⟩ (.int .i64 0)).setCell ⟨u, 8, none⟩ (.int .u32 0)).setCell ⟨u, 9, none⟩ (.string ⟨#[]⟩)) = W9 := ⟨_, rfl⟩
    simp only [hW9]
    rw [show World.setCells (World.setCells w1 q 0 [.bool false, .int .i64 0, .int .i64 0, .int .i64 0, .int .i64 0, .int .i64 0, .int .i64 0, .slice none 0 0]) u 0 [.int .i64 0, .int .i64 0, .int .i64 0, .int .i64 0, .int .i64 0, .int .i64 0, .int .i64 0, .int .i64 0, .int .u32 0, .string ⟨#[]⟩] = W9 from hW9] at Q1 Q3 Q5
    clear hW9
    have e0 := Q1.out.cell 0 rfl
    have e1 := Q1.out.cell 1 rfl
    have e2 := Q1.out.cell 2 rfl
    have e3 := Q1.out.cell 3 rfl
    have e4 := Q1.out.cell 4 rfl
    have e5 := Q1.out.cell 5 rfl
    have e6 := Q1.out.cell 6 rfl
    have e7 := Q1.out.cell 7 rfl
    have eu0 := Q5.out.cell 0 rfl
    have eu1 := Q5.out.cell 1 rfl
    have eu2 := Q5.out.cell 2 rfl
    have eu3 := Q5.out.cell 3 rfl
    have eu4 := Q5.out.cell 4 rfl
    have eu5 := Q5.out.cell 5 rfl
    have eu6 := Q5.out.cell 6 rfl
    have eu7 := Q5.out.cell 7 rfl
    have eu8 := Q5.out.cell 8 rfl
    have eu9 := Q5.out.cell 9 rfl
    refine bodyPost_ret (v := .tuple #[.agg #[.bool false, .int .i64 0, .int .i64 0, .int .i64 0, .int .i64 0, .int .i64 0, .int .i64 0, .slice none 0 0], .agg #[.int .i64 0, .int .i64 0, .int .i64 0, .int .i64 0, .int .i64 0, .int .i64 0, .int .i64 0, .int .i64 0, .int .u32 0, .string ⟨#[]⟩], .int .i64 9]) (by simp [results, Tryd.results27, go_sem, e0, e1, e2, e3, e4, e5, e6, e7, eu0, eu1, eu2, eu3, eu4, eu5, eu6, eu7, eu8, eu9]) rfl ?_
    exact ⟨.slice none 0 0, by rw [HF.out.1, HF.out.2.1, HF.out.2.2.1, HF.out.2.2.2]; rfl, by rw [HP0.out]; exact World.ownsRow_nil _ _ _ _, Q3.out⟩
  | true =>
    have g0 := HB1.out.cell 0 rfl
    have g1 := HB1.out.cell 1 rfl
    have g2 := HB1.out.cell 2 rfl
    have g3 := HB1.out.cell 3 rfl
    have g4 := HB1.out.cell 4 rfl
    have g5 := HB1.out.cell 5 rfl
    have g6 := HB1.out.cell 6 rfl
    have g7 := HB1.out.cell 7 rfl
    have g8 := HB1.out.cell 8 rfl
    have g9 := HB1.out.cell 9 rfl
    go_upto_region 3 with fail
    go_wp2_with fail
    refine Calls.mono (HC2.out w1) ?_
    rintro e w2 ⟨v, rfl, o2, b2⟩
    obtain ⟨va, vc, rfl, -⟩ := o2.rcs
    obtain ⟨vn, hvn⟩ : ∃ n, BP.length = n := ⟨_, rfl⟩
    rw [hvn] at o2 ⊢
    have HVN := hide hvn
    have HWV := hide HD.out.size
    have HO1 := hide (o2.off (show q < w1.heap.size from HB2.out.lt))
    have HO2 := hide (o2.off (show u < w1.heap.size from HB3.out.lt))
    have HV := hide o2
    replace HB0 := hide (HB0.out.below b2)
    replace HB1 := hide (HB1.out.below b2)
    replace HB2 := hide (HB2.out.below b2)
    replace HB3 := hide (HB3.out.below b2)
    replace HP := hide (HP.out.below b2)
    replace HD := hide (chain HD.out b2)
    clear b2 o2 HC2 hvn g0 g1 g2 g3 g4 g5 g6 g7 g8 g9
    obtain ⟨W3, hW3, B7, D3⟩ := box1 w2 [.int .i64 s1, .int .i64 s2, .int .i64 s3, .int .i64 s4, .int .i64 s5, .int .i64 s6, .slice va vn vc] 29
    obtain ⟨x7, hx7⟩ : ∃ h, w2.heap.size = h := ⟨_, rfl⟩
    rw [hx7] at B7
    have HW3 := hide hW3
    have HX7 := hide hx7
    have H7 := hide B7
    replace HB0 := hide (HB0.out.below D3)
    replace HB1 := hide (HB1.out.below D3)
    replace HB2 := hide (HB2.out.below D3)
    replace HB3 := hide (HB3.out.below D3)
    replace HP := hide (HP.out.below D3)
    replace HV := hide (HV.out.below D3)
    replace HD := hide (chain HD.out D3)
    clear hW3 hx7 B7 D3
    by_cases hc : C = 0
    · subst hc
      obtain ⟨hk, hck, han⟩ := HAN.out rfl
      subst hk
      have HAK := hide han
      have HCK := hide hck
      clear HAN han hck
      go_upto_region 4 with fail
      have hW3 := HW3.out
      have hx7 := HX7.out
      simp only [hW3, hx7]
      clear HW3 HX7 hW3 hx7
      have g0 := HB1.out.cell 0 rfl
      have g1 := HB1.out.cell 1 rfl
      have g2 := HB1.out.cell 2 rfl
      have g3 := HB1.out.cell 3 rfl
      have g4 := HB1.out.cell 4 rfl
      have g5 := HB1.out.cell 5 rfl
      have g6 := HB1.out.cell 6 rfl
      have g7 := HB1.out.cell 7 rfl
      have g8 := HB1.out.cell 8 rfl
      have g9 := HB1.out.cell 9 rfl
      go_upto_region 6 with fail
      go_wp2_with fail
      refine Calls.mono (HC3.out W3 (by first | rfl | trivial) HCK.out) ?_
      rintro e w4 ⟨rfl, b4⟩
      replace HB0 := hide (HB0.out.below b4)
      replace HB1 := hide (HB1.out.below b4)
      replace HB2 := hide (HB2.out.below b4)
      replace HB3 := hide (HB3.out.below b4)
      replace HP := hide (HP.out.below b4)
      replace HV := hide (HV.out.below b4)
      replace H7 := hide (H7.out.below b4)
      replace HD := hide (chain HD.out b4)
      clear b4 HC3 g0 g1 g2 g3 g4 g5 g6 g7 g8 g9
      obtain ⟨W5, hW5, B9, D5⟩ := box1 w4 [.int .i64 7, .int .i64 pt2, .int .i64 b2, .int .i64 r2, .int .i64 m2, .int .i64 st2, .int .i64 ix, .int .i64 tt2, .int .u32 0, .string ⟨#[]⟩] 34
      obtain ⟨x9, hx9⟩ : ∃ h, w4.heap.size = h := ⟨_, rfl⟩
      rw [hx9] at B9
      have HN9 : Hid (q ≠ x9 ∧ x9 ≠ q ∧ u ≠ x9 ∧ x9 ≠ u) := by
        have l1 := HB2.out.lt
        have l2 := HB3.out.lt
        unfold Hid
        omega
      have HW5 := hide hW5
      have HX9 := hide hx9
      have H9 := hide B9
      replace HB0 := hide (HB0.out.below D5)
      replace HB1 := hide (HB1.out.below D5)
      replace HB2 := hide (HB2.out.below D5)
      replace HB3 := hide (HB3.out.below D5)
      replace HP := hide (HP.out.below D5)
      replace HV := hide (HV.out.below D5)
      replace H7 := hide (H7.out.below D5)
      replace HD := hide (chain HD.out D5)
      clear hW5 hx9 B9 D5
      go_upto_region 7 with fail
      have hW5 := HW5.out
      have hx9 := HX9.out
      simp only [hW5, hx9]
      clear HW5 HX9 hW5 hx9
      have g0 := HB0.out.cell 0 rfl
      have g1 := HB0.out.cell 1 rfl
      have g2 := HB0.out.cell 2 rfl
      have g3 := HB0.out.cell 3 rfl
      have g4 := HB0.out.cell 4 rfl
      have g5 := HB0.out.cell 5 rfl
      have g6 := HB0.out.cell 6 rfl
      have g7 := HB0.out.cell 7 rfl
      have n0 := HB1.out.cell 0 rfl
      have n1 := HB1.out.cell 1 rfl
      have n2 := HB1.out.cell 2 rfl
      have n3 := HB1.out.cell 3 rfl
      have n4 := HB1.out.cell 4 rfl
      have n5 := HB1.out.cell 5 rfl
      have n6 := HB1.out.cell 6 rfl
      have n7 := HB1.out.cell 7 rfl
      have n8 := HB1.out.cell 8 rfl
      have n9 := HB1.out.cell 9 rfl
      go_wp2_with fail
      refine Calls.mono (HC4.out W5 HP.out) ?_
      rintro e w6 ⟨v, rfl, o6, b6⟩
      obtain ⟨ya, yc, rfl, -⟩ := o6.rcs
      obtain ⟨yn, hyn⟩ : ∃ n, AP.length = n := ⟨_, rfl⟩
      rw [hyn] at o6 ⊢
      have HYN := hide hyn
      have HWY := hide HD.out.size
      have HO3 := hide (o6.off (show q < W5.heap.size from HB2.out.lt))
      have HO4 := hide (o6.off (show u < W5.heap.size from HB3.out.lt))
      have HA := hide o6
      replace HB0 := hide (HB0.out.below b6)
      replace HB1 := hide (HB1.out.below b6)
      replace HB2 := hide (HB2.out.below b6)
      replace HB3 := hide (HB3.out.below b6)
      replace HP := hide (HP.out.below b6)
      replace HV := hide (HV.out.below b6)
      replace H7 := hide (H7.out.below b6)
      replace H9 := hide (H9.out.below b6)
      replace HD := hide (chain HD.out b6)
      clear b6 o6 HC4 hyn g0 g1 g2 g3 g4 g5 g6 g7 n0 n1 n2 n3 n4 n5 n6 n7 n8 n9
      obtain ⟨W7, hW7, B11, D7⟩ := box1 w6 [.int .i64 a1, .int .i64 a2, .int .i64 a3, .int .i64 a4, .int .i64 a5, .int .i64 a6, .slice ya yn yc] 29
      obtain ⟨x11, hx11⟩ : ∃ h, w6.heap.size = h := ⟨_, rfl⟩
      rw [hx11] at B11
      have HW7 := hide hW7
      have HX11 := hide hx11
      have H11 := hide B11
      replace HB0 := hide (HB0.out.below D7)
      replace HB1 := hide (HB1.out.below D7)
      replace HB2 := hide (HB2.out.below D7)
      replace HB3 := hide (HB3.out.below D7)
      replace HP := hide (HP.out.below D7)
      replace HV := hide (HV.out.below D7)
      replace H7 := hide (H7.out.below D7)
      replace H9 := hide (H9.out.below D7)
      replace HA := hide (HA.out.below D7)
      replace HD := hide (chain HD.out D7)
      clear hW7 hx11 B11 D7
      go_upto_region 8 with fail
      have hW7 := HW7.out
      have hx11 := HX11.out
      simp only [hW7, hx11]
      clear HW7 HX11 hW7 hx11
      have g0 := HB0.out.cell 0 rfl
      by_cases hcase : on = false ∨ AE = 10
      · --
        have HF : Hid (XE = 0 ∧ XB = true ∧ XS = ⟨s1, s2, s3, s4, s5, s6⟩ ∧ XP = BP ∧ XN = ⟨7, pt2, b2, r2, m2, st2, ix, tt2, 0, ⟨#[]⟩⟩) := by
          have hi : I = false := by
            rw [HIS.out]
            rcases hcase with h | h
            · rw [h]; rfl
            · cases hon : on with
              | false => rfl
              | true =>
                have := (HAD.out (HGO.out (by first | rfl | trivial) hon) (by first | rfl | trivial)).2 h
                rw [this]; rfl
          have h9 : XE = 0 := by rw [HXE.out, hi]; rfl
          exact ⟨h9, by rw [HXB.out, h9]; rfl, by rw [HXS.out, h9, hi]; rfl, by rw [HXP.out, h9, hi]; rfl, by rw [HXN.out]; simp only [h9, if_true, eq_self]; exact HAK.out⟩
        go_cut [47] from 41 to 47 (fun v wz => v = .bool true ∧ wz = W7)
        case first =>
          rcases hcase with h | h
          · subst h
            clear HF HXE HXS HXP HXN HXB HAD HAB HIS HGO HAK
            go_wp2_with fail
            go_meet
            case rel => exact ⟨rfl, rfl⟩
          · subst h
            clear HF HXE HXS HXP HXN HXB HAD HAB HIS HGO HAK
            cases on
            all_goals
              go_wp2_with fail
              go_meet
              case rel => exact ⟨rfl, rfl⟩
        case rest =>
          obtain ⟨rfl, rfl⟩ := hcut
          obtain ⟨W7, hW7⟩ : ∃ z, z = wc := ⟨_, rfl⟩
          subst hW7
          clear hcase g0 HXE HXS HXP HXN HXB HAD HAB HIS HGO HAK
          go_upto_region 9 with fail
          have cs0 := H7.out.cell 0 rfl
          have cs1 := H7.out.cell 1 rfl
          have cs2 := H7.out.cell 2 rfl
          have cs3 := H7.out.cell 3 rfl
          have cs4 := H7.out.cell 4 rfl
          have cs5 := H7.out.cell 5 rfl
          have cs6 := H7.out.cell 6 rfl
          have cn0 := H9.out.cell 0 rfl
          have cn1 := H9.out.cell 1 rfl
          have cn2 := H9.out.cell 2 rfl
          have cn3 := H9.out.cell 3 rfl
          have cn4 := H9.out.cell 4 rfl
          have cn5 := H9.out.cell 5 rfl
          have cn6 := H9.out.cell 6 rfl
          have cn7 := H9.out.cell 7 rfl
          have cn8 := H9.out.cell 8 rfl
          have cn9 := H9.out.cell 9 rfl
          have g0 := HB2.out.cell 0 rfl
          have g1 := HB2.out.cell 1 rfl
          have g2 := HB2.out.cell 2 rfl
          have g3 := HB2.out.cell 3 rfl
          have g4 := HB2.out.cell 4 rfl
          have g5 := HB2.out.cell 5 rfl
          have g6 := HB2.out.cell 6 rfl
          have g7 := HB2.out.cell 7 rfl
          have f0 := HB2.out.frozen 0
          have f1 := HB2.out.frozen 1
          have f2 := HB2.out.frozen 2
          have f3 := HB2.out.frozen 3
          have f4 := HB2.out.frozen 4
          have f5 := HB2.out.frozen 5
          have f6 := HB2.out.frozen 6
          have f7 := HB2.out.frozen 7
          have V1 := hide (Bk.others HNU.out.2 [.bool true, .int .i64 s1, .int .i64 s2, .int .i64 s3, .int .i64 s4, .int .i64 s5, .int .i64 s6, .slice va vn vc] 0 HB3.out)
          have gu0 := HB3.out.cell 0 rfl
          have gu1 := HB3.out.cell 1 rfl
          have gu2 := HB3.out.cell 2 rfl
          have gu3 := HB3.out.cell 3 rfl
          have gu4 := HB3.out.cell 4 rfl
          have gu5 := HB3.out.cell 5 rfl
          have gu6 := HB3.out.cell 6 rfl
          have gu7 := HB3.out.cell 7 rfl
          have gu8 := HB3.out.cell 8 rfl
          have gu9 := HB3.out.cell 9 rfl
          have fu0 := HB3.out.frozen 0
          have fu1 := HB3.out.frozen 1
          have fu2 := HB3.out.frozen 2
          have fu3 := HB3.out.frozen 3
          have fu4 := HB3.out.frozen 4
          have fu5 := HB3.out.frozen 5
          have fu6 := HB3.out.frozen 6
          have fu7 := HB3.out.frozen 7
          have fu8 := HB3.out.frozen 8
          have fu9 := HB3.out.frozen 9
          obtain ⟨hqz, hzq⟩ := HNU.out
          have Q1 := hide (Bk.others HNU.out.1 [.int .i64 7, .int .i64 pt2, .int .i64 b2, .int .i64 r2, .int .i64 m2, .int .i64 st2, .int .i64 ix, .int .i64 tt2, .int .u32 0, .string ⟨#[]⟩] 0 (HB2.out.sets [.bool true, .int .i64 s1, .int .i64 s2, .int .i64 s3, .int .i64 s4, .int .i64 s5, .int .i64 s6, .slice va vn vc] rfl))
          have Q5 := hide (V1.out.sets [.int .i64 7, .int .i64 pt2, .int .i64 b2, .int .i64 r2, .int .i64 m2, .int .i64 st2, .int .i64 ix, .int .i64 tt2, .int .u32 0, .string ⟨#[]⟩] rfl)
          have Q3 := hide (below_sets HLE.out.2 [.int .i64 7, .int .i64 pt2, .int .i64 b2, .int .i64 r2, .int .i64 m2, .int .i64 st2, .int .i64 ix, .int .i64 tt2, .int .u32 0, .string ⟨#[]⟩] 0 (below_sets HLE.out.1 [.bool true, .int .i64 s1, .int .i64 s2, .int .i64 s3, .int .i64 s4, .int .i64 s5, .int .i64 s6, .slice va vn vc] 0 HD.out))
          have Q2 := hide (LOwn.fars HO2.out [.int .i64 7, .int .i64 pt2, .int .i64 b2, .int .i64 r2, .int .i64 m2, .int .i64 st2, .int .i64 ix, .int .i64 tt2, .int .u32 0, .string ⟨#[]⟩] 0 (LOwn.fars HO1.out [.bool true, .int .i64 s1, .int .i64 s2, .int .i64 s3, .int .i64 s4, .int .i64 s5, .int .i64 s6, .slice va vn vc] 0 HV.out))
          obtain ⟨l1, l2, l3, l4⟩ := HN9.out
          go_region
          go_wp2
          obtain ⟨W9, hW9⟩ : ∃ W9, ((((((((((((((((((W7.setCell ⟨q, 0, none⟩ (.bool true)).setCell ⟨q, 1, none⟩ (.int .i64 s1)).setCell ⟨q, 2, none⟩ (.int .i64 s2)).setCell ⟨q, 3, none⟩ (.int .i64 s3)).setCell ⟨q, 4, none⟩ (.int .i64 s4)).setCell ⟨q, 5, none⟩ (.int .i64 s5)).setCell ⟨q, 6, none⟩ (.int .i64 s6)).setCell ⟨q, 7, none⟩ (.slice va vn vc)).setCell ⟨u, 0, none⟩ (.int .i64 7)).setCell ⟨u, 1, none⟩ (.int .i64 pt2)).setCell ⟨u, 2, none⟩ (.int .i64 b2)).setCell ⟨u, 3, none⟩ (.int .i64 r2)).setCell ⟨u, 4, none⟩ (.int .i64 m2)).setCell ⟨u, 5, none⟩ (.int .i64 st2)).setCell ⟨u, 6, none⟩ (.int .i64 ix)).setCell ⟨u, 7, none⟩ (.int .i64 tt2)).setCell ⟨u, 8, none⟩ (.int .u32 0)).setCell ⟨u, 9, none⟩ (.string ⟨#[]⟩)) = W9 := ⟨_, rfl⟩
          simp only [hW9]
          rw [show World.setCells (World.setCells W7 q 0 [.bool true, .int .i64 s1, .int .i64 s2, .int .i64 s3, .int .i64 s4, .int .i64 s5, .int .i64 s6, .slice va vn vc]) u 0 [.int .i64 7, .int .i64 pt2, .int .i64 b2, .int .i64 r2, .int .i64 m2, .int .i64 st2, .int .i64 ix, .int .i64 tt2, .int .u32 0, .string ⟨#[]⟩] = W9 from hW9] at Q1 Q3 Q5 Q2
          clear hW9
          replace Q1 := hide (Q1.out.below (Below.refl _ W9).drew)
          replace Q5 := hide (Q5.out.below (Below.refl _ W9).drew)
          replace Q3 := hide Q3.out.drew
          replace Q2 := hide (Q2.out.below (Below.refl _ W9).drew)
          have e0 := Q1.out.cell 0 rfl
          have e1 := Q1.out.cell 1 rfl
          have e2 := Q1.out.cell 2 rfl
          have e3 := Q1.out.cell 3 rfl
          have e4 := Q1.out.cell 4 rfl
          have e5 := Q1.out.cell 5 rfl
          have e6 := Q1.out.cell 6 rfl
          have e7 := Q1.out.cell 7 rfl
          have eu0 := Q5.out.cell 0 rfl
          have eu1 := Q5.out.cell 1 rfl
          have eu2 := Q5.out.cell 2 rfl
          have eu3 := Q5.out.cell 3 rfl
          have eu4 := Q5.out.cell 4 rfl
          have eu5 := Q5.out.cell 5 rfl
          have eu6 := Q5.out.cell 6 rfl
          have eu7 := Q5.out.cell 7 rfl
          have eu8 := Q5.out.cell 8 rfl
          have eu9 := Q5.out.cell 9 rfl
          refine bodyPost_ret (v := .tuple #[.agg #[.bool true, .int .i64 s1, .int .i64 s2, .int .i64 s3, .int .i64 s4, .int .i64 s5, .int .i64 s6, .slice va vn vc], .agg #[.int .i64 7, .int .i64 pt2, .int .i64 b2, .int .i64 r2, .int .i64 m2, .int .i64 st2, .int .i64 ix, .int .i64 tt2, .int .u32 0, .string ⟨#[]⟩], .int .i64 0]) (by simp [results, Tryd.results27, go_sem, e0, e1, e2, e3, e4, e5, e6, e7, eu0, eu1, eu2, eu3, eu4, eu5, eu6, eu7, eu8, eu9]) rfl ?_
          exact ⟨.slice va vn vc, by rw [HF.out.1, HF.out.2.1, HF.out.2.2.1, HF.out.2.2.2.2]; rfl, by rw [HF.out.2.2.2.1]; exact Q2.out.weaken HWV.out, Q3.out⟩
      · --
        have hon : on = true := by
          cases h : on with
          | false => exact absurd (Or.inl h) hcase
          | true => rfl
        have hae : AE ≠ 10 := fun h => hcase (Or.inr h)
        have hy : Y = true := by
          cases h : Y with
          | true => rfl
          | false => exact absurd ((HAD.out (HGO.out (by first | rfl | trivial) hon) (by first | rfl | trivial)).1 h) hae
        have hi : I = true := by rw [HIS.out, hon, hy]; rfl
        have hxe : XE = AE := by rw [HXE.out, hi]; rfl
        have d10 : ((AE : Int) == 10) = false := by simp; omega
        subst hon
        subst hi
        clear hcase hae hy
        by_cases h0 : AE = 0
        · have HF : Hid (XE = 0 ∧ XB = true ∧ XS = ⟨a1, a2, a3, a4, a5, a6⟩ ∧ XP = AP ∧ XN = ⟨7, pt2, b2, r2, m2, st2, ix, tt2, 0, ⟨#[]⟩⟩) := by
            have h9 : XE = 0 := by rw [hxe, h0]
            exact ⟨h9, by rw [HXB.out, h9]; rfl, by rw [HXS.out, h9]; rfl, by rw [HXP.out, h9]; rfl, by rw [HXN.out]; simp only [h9, if_true, eq_self]; exact HAK.out⟩
          subst h0
          clear hxe HXE HXS HXP HXN HXB HAD HAB HIS HGO HAK
          go_upto_region 12 with fail
          clear g0 d10
          have cs0 := H11.out.cell 0 rfl
          have cs1 := H11.out.cell 1 rfl
          have cs2 := H11.out.cell 2 rfl
          have cs3 := H11.out.cell 3 rfl
          have cs4 := H11.out.cell 4 rfl
          have cs5 := H11.out.cell 5 rfl
          have cs6 := H11.out.cell 6 rfl
          have cn0 := H9.out.cell 0 rfl
          have cn1 := H9.out.cell 1 rfl
          have cn2 := H9.out.cell 2 rfl
          have cn3 := H9.out.cell 3 rfl
          have cn4 := H9.out.cell 4 rfl
          have cn5 := H9.out.cell 5 rfl
          have cn6 := H9.out.cell 6 rfl
          have cn7 := H9.out.cell 7 rfl
          have cn8 := H9.out.cell 8 rfl
          have cn9 := H9.out.cell 9 rfl
          have g0 := HB2.out.cell 0 rfl
          have g1 := HB2.out.cell 1 rfl
          have g2 := HB2.out.cell 2 rfl
          have g3 := HB2.out.cell 3 rfl
          have g4 := HB2.out.cell 4 rfl
          have g5 := HB2.out.cell 5 rfl
          have g6 := HB2.out.cell 6 rfl
          have g7 := HB2.out.cell 7 rfl
          have f0 := HB2.out.frozen 0
          have f1 := HB2.out.frozen 1
          have f2 := HB2.out.frozen 2
          have f3 := HB2.out.frozen 3
          have f4 := HB2.out.frozen 4
          have f5 := HB2.out.frozen 5
          have f6 := HB2.out.frozen 6
          have f7 := HB2.out.frozen 7
          have V1 := hide (Bk.others HNU.out.2 [.bool true, .int .i64 a1, .int .i64 a2, .int .i64 a3, .int .i64 a4, .int .i64 a5, .int .i64 a6, .slice ya yn yc] 0 HB3.out)
          have gu0 := HB3.out.cell 0 rfl
          have gu1 := HB3.out.cell 1 rfl
          have gu2 := HB3.out.cell 2 rfl
          have gu3 := HB3.out.cell 3 rfl
          have gu4 := HB3.out.cell 4 rfl
          have gu5 := HB3.out.cell 5 rfl
          have gu6 := HB3.out.cell 6 rfl
          have gu7 := HB3.out.cell 7 rfl
          have gu8 := HB3.out.cell 8 rfl
          have gu9 := HB3.out.cell 9 rfl
          have fu0 := HB3.out.frozen 0
          have fu1 := HB3.out.frozen 1
          have fu2 := HB3.out.frozen 2
          have fu3 := HB3.out.frozen 3
          have fu4 := HB3.out.frozen 4
          have fu5 := HB3.out.frozen 5
          have fu6 := HB3.out.frozen 6
          have fu7 := HB3.out.frozen 7
          have fu8 := HB3.out.frozen 8
          have fu9 := HB3.out.frozen 9
          obtain ⟨hqz, hzq⟩ := HNU.out
          have Q1 := hide (Bk.others HNU.out.1 [.int .i64 7, .int .i64 pt2, .int .i64 b2, .int .i64 r2, .int .i64 m2, .int .i64 st2, .int .i64 ix, .int .i64 tt2, .int .u32 0, .string ⟨#[]⟩] 0 (HB2.out.sets [.bool true, .int .i64 a1, .int .i64 a2, .int .i64 a3, .int .i64 a4, .int .i64 a5, .int .i64 a6, .slice ya yn yc] rfl))
          have Q5 := hide (V1.out.sets [.int .i64 7, .int .i64 pt2, .int .i64 b2, .int .i64 r2, .int .i64 m2, .int .i64 st2, .int .i64 ix, .int .i64 tt2, .int .u32 0, .string ⟨#[]⟩] rfl)
          have Q3 := hide (below_sets HLE.out.2 [.int .i64 7, .int .i64 pt2, .int .i64 b2, .int .i64 r2, .int .i64 m2, .int .i64 st2, .int .i64 ix, .int .i64 tt2, .int .u32 0, .string ⟨#[]⟩] 0 (below_sets HLE.out.1 [.bool true, .int .i64 a1, .int .i64 a2, .int .i64 a3, .int .i64 a4, .int .i64 a5, .int .i64 a6, .slice ya yn yc] 0 HD.out))
          have Q2 := hide (LOwn.fars HO4.out [.int .i64 7, .int .i64 pt2, .int .i64 b2, .int .i64 r2, .int .i64 m2, .int .i64 st2, .int .i64 ix, .int .i64 tt2, .int .u32 0, .string ⟨#[]⟩] 0 (LOwn.fars HO3.out [.bool true, .int .i64 a1, .int .i64 a2, .int .i64 a3, .int .i64 a4, .int .i64 a5, .int .i64 a6, .slice ya yn yc] 0 HA.out))
          obtain ⟨l1, l2, l3, l4⟩ := HN9.out
          go_region
          go_wp2
          obtain ⟨W9, hW9⟩ : ∃ W9, ((((((((((((((((((W7.setCell ⟨q, 0, none⟩ (.bool true)).setCell ⟨q, 1, none⟩ (.int .i64 a1)).setCell ⟨q, 2, none⟩ (.int .i64 a2)).setCell ⟨q, 3, none⟩ (.int .i64 a3)).setCell ⟨q, 4, none⟩ (.int .i64 a4)).setCell ⟨q, 5, none⟩ (.int .i64 a5)).setCell ⟨q, 6, none⟩ (.int .i64 a6)).setCell ⟨q, 7, none⟩ (.slice ya yn yc)).setCell ⟨u, 0, none⟩ (.int .i64 7)).setCell ⟨u, 1, none⟩ (.int .i64 pt2)).setCell ⟨u, 2, none⟩ (.int .i64 b2)).setCell ⟨u, 3, none⟩ (.int .i64 r2)).setCell ⟨u, 4, none⟩ (.int .i64 m2)).setCell ⟨u, 5, none⟩ (.int .i64 st2)).setCell ⟨u, 6, none⟩ (.int .i64 ix)).setCell ⟨u, 7, none⟩ (.int .i64 tt2)).setCell ⟨u, 8, none⟩ (.int .u32 0)).setCell ⟨u, 9, none⟩ (.string ⟨#[]⟩)) = W9 := ⟨_, rfl⟩
          simp only [hW9]
          rw [show World.setCells (World.setCells W7 q 0 [.bool true, .int .i64 a1, .int .i64 a2, .int .i64 a3, .int .i64 a4, .int .i64 a5, .int .i64 a6, .slice ya yn yc]) u 0 [.int .i64 7, .int .i64 pt2, .int .i64 b2, .int .i64 r2, .int .i64 m2, .int .i64 st2, .int .i64 ix, .int .i64 tt2, .int .u32 0, .string ⟨#[]⟩] = W9 from hW9] at Q1 Q3 Q5 Q2
          clear hW9
          replace Q1 := hide (Q1.out.below (Below.refl _ W9).drew)
          replace Q5 := hide (Q5.out.below (Below.refl _ W9).drew)
          replace Q3 := hide Q3.out.drew
          replace Q2 := hide (Q2.out.below (Below.refl _ W9).drew)
          have e0 := Q1.out.cell 0 rfl
          have e1 := Q1.out.cell 1 rfl
          have e2 := Q1.out.cell 2 rfl
          have e3 := Q1.out.cell 3 rfl
          have e4 := Q1.out.cell 4 rfl
          have e5 := Q1.out.cell 5 rfl
          have e6 := Q1.out.cell 6 rfl
          have e7 := Q1.out.cell 7 rfl
          have eu0 := Q5.out.cell 0 rfl
          have eu1 := Q5.out.cell 1 rfl
          have eu2 := Q5.out.cell 2 rfl
          have eu3 := Q5.out.cell 3 rfl
          have eu4 := Q5.out.cell 4 rfl
          have eu5 := Q5.out.cell 5 rfl
          have eu6 := Q5.out.cell 6 rfl
          have eu7 := Q5.out.cell 7 rfl
          have eu8 := Q5.out.cell 8 rfl
          have eu9 := Q5.out.cell 9 rfl
          refine bodyPost_ret (v := .tuple #[.agg #[.bool true, .int .i64 a1, .int .i64 a2, .int .i64 a3, .int .i64 a4, .int .i64 a5, .int .i64 a6, .slice ya yn yc], .agg #[.int .i64 7, .int .i64 pt2, .int .i64 b2, .int .i64 r2, .int .i64 m2, .int .i64 st2, .int .i64 ix, .int .i64 tt2, .int .u32 0, .string ⟨#[]⟩], .int .i64 0]) (by simp [results, Tryd.results27, go_sem, e0, e1, e2, e3, e4, e5, e6, e7, eu0, eu1, eu2, eu3, eu4, eu5, eu6, eu7, eu8, eu9]) rfl ?_
          exact ⟨.slice ya yn yc, by rw [HF.out.1, HF.out.2.1, HF.out.2.2.1, HF.out.2.2.2.2]; rfl, by rw [HF.out.2.2.2.1]; exact Q2.out.weaken HWY.out, Q3.out⟩
        · --
          have HF : Hid (XB = false ∧ XS = zSg ∧ XN = zNt ∧ XE = AE) := by
            have h9 : XE = AE := by exact hxe
            have hz : ¬ XE = 0 := by rw [h9]; exact h0
            exact ⟨by rw [HXB.out, decide_eq_false hz], by rw [HXS.out, if_neg hz], by rw [HXN.out, if_neg hz], h9⟩
          have HP0 : Hid (XP = []) := by
            have hz : ¬ XE = 0 := by rw [HF.out.2.2.2]; exact h0
            unfold Hid
            rw [HXP.out, if_neg hz]
          have c1 : ((AE : Int) == 0) = false := by simp; omega
          have c2 : ((AE : Int) != 0) = true := by simp; omega
          clear hxe HXE HXS HXP HXN HXB HAD HAB HIS HGO HAK h0
          go_upto_region 11 with fail
          have g0 := HB2.out.cell 0 rfl
          have g1 := HB2.out.cell 1 rfl
          have g2 := HB2.out.cell 2 rfl
          have g3 := HB2.out.cell 3 rfl
          have g4 := HB2.out.cell 4 rfl
          have g5 := HB2.out.cell 5 rfl
          have g6 := HB2.out.cell 6 rfl
          have g7 := HB2.out.cell 7 rfl
          have f0 := HB2.out.frozen 0
          have f1 := HB2.out.frozen 1
          have f2 := HB2.out.frozen 2
          have f3 := HB2.out.frozen 3
          have f4 := HB2.out.frozen 4
          have f5 := HB2.out.frozen 5
          have f6 := HB2.out.frozen 6
          have f7 := HB2.out.frozen 7
          have V1 := hide (Bk.others HNU.out.2 [.bool false, .int .i64 0, .int .i64 0, .int .i64 0, .int .i64 0, .int .i64 0, .int .i64 0, .slice none 0 0] 0 HB3.out)
          have gu0 := HB3.out.cell 0 rfl
          have gu1 := HB3.out.cell 1 rfl
          have gu2 := HB3.out.cell 2 rfl
          have gu3 := HB3.out.cell 3 rfl
          have gu4 := HB3.out.cell 4 rfl
          have gu5 := HB3.out.cell 5 rfl
          have gu6 := HB3.out.cell 6 rfl
          have gu7 := HB3.out.cell 7 rfl
          have gu8 := HB3.out.cell 8 rfl
          have gu9 := HB3.out.cell 9 rfl
          have fu0 := HB3.out.frozen 0
          have fu1 := HB3.out.frozen 1
          have fu2 := HB3.out.frozen 2
          have fu3 := HB3.out.frozen 3
          have fu4 := HB3.out.frozen 4
          have fu5 := HB3.out.frozen 5
          have fu6 := HB3.out.frozen 6
          have fu7 := HB3.out.frozen 7
          have fu8 := HB3.out.frozen 8
          have fu9 := HB3.out.frozen 9
          obtain ⟨hqz, hzq⟩ := HNU.out
          have Q1 := hide (Bk.others HNU.out.1 [.int .i64 0, .int .i64 0, .int .i64 0, .int .i64 0, .int .i64 0, .int .i64 0, .int .i64 0, .int .i64 0, .int .u32 0, .string ⟨#[]⟩] 0 (HB2.out.sets [.bool false, .int .i64 0, .int .i64 0, .int .i64 0, .int .i64 0, .int .i64 0, .int .i64 0, .slice none 0 0] rfl))
          have Q5 := hide (V1.out.sets [.int .i64 0, .int .i64 0, .int .i64 0, .int .i64 0, .int .i64 0, .int .i64 0, .int .i64 0, .int .i64 0, .int .u32 0, .string ⟨#[]⟩] rfl)
          have Q3 := hide (below_sets HLE.out.2 [.int .i64 0, .int .i64 0, .int .i64 0, .int .i64 0, .int .i64 0, .int .i64 0, .int .i64 0, .int .i64 0, .int .u32 0, .string ⟨#[]⟩] 0 (below_sets HLE.out.1 [.bool false, .int .i64 0, .int .i64 0, .int .i64 0, .int .i64 0, .int .i64 0, .int .i64 0, .slice none 0 0] 0 HD.out))
          go_wp2
          obtain ⟨W9, hW9⟩ : ∃ W9, ((((((((((((((((((W7.setCell ⟨q, 0, none⟩ (.bool false)).setCell ⟨q, 1, none⟩ (.int .i64 0)).setCell ⟨q, 2, none⟩ (.int .i64 0)).setCell ⟨q, 3, none⟩ (.int .i64 0)).setCell ⟨q, 4, none⟩ (.int .i64 0)).setCell ⟨q, 5, none⟩ (.int .i64 0)).setCell ⟨q, 6, none⟩ (.int .i64 0)).setCell ⟨q, 7, none⟩ (.slice none 0 0)).setCell ⟨u, 0, none⟩ (.int .i64 0)).setCell ⟨u, 1, none⟩ (.int .i64 0)).setCell ⟨u, 2, none⟩ (.int .i64 0)).setCell ⟨u, 3, none⟩ (.int .i64 0)).setCell ⟨u, 4, none⟩ (.int .i64 0)).setCell ⟨u, 5, none⟩ (.int .i64 0)).setCell ⟨u, 6, none⟩ (.int .i64 0)).setCell ⟨u, 7, none⟩ (.int .i64 0)).setCell ⟨u, 8, none⟩ (.int .u32 0)).setCell ⟨u, 9, none⟩ (.string ⟨#[]⟩)) = W9 := ⟨_, rfl⟩
          simp only [hW9]
          rw [show World.setCells (World.setCells W7 q 0 [.bool false, .int .i64 0, .int .i64 0, .int .i64 0, .int .i64 0, .int .i64 0, .int .i64 0, .slice none 0 0]) u 0 [.int .i64 0, .int .i64 0, .int .i64 0, .int .i64 0, .int .i64 0, .int .i64 0, .int .i64 0, .int .i64 0, .int .u32 0, .string ⟨#[]⟩] = W9 from hW9] at Q1 Q3 Q5
          clear hW9
          have e0 := Q1.out.cell 0 rfl
          have e1 := Q1.out.cell 1 rfl
          have e2 := Q1.out.cell 2 rfl
          have e3 := Q1.out.cell 3 rfl
          have e4 := Q1.out.cell 4 rfl
          have e5 := Q1.out.cell 5 rfl
          have e6 := Q1.out.cell 6 rfl
          have e7 := Q1.out.cell 7 rfl
          have eu0 := Q5.out.cell 0 rfl
          have eu1 := Q5.out.cell 1 rfl
          have eu2 := Q5.out.cell 2 rfl
          have eu3 := Q5.out.cell 3 rfl
          have eu4 := Q5.out.cell 4 rfl
          have eu5 := Q5.out.cell 5 rfl
          have eu6 := Q5.out.cell 6 rfl
          have eu7 := Q5.out.cell 7 rfl
          have eu8 := Q5.out.cell 8 rfl
          have eu9 := Q5.out.cell 9 rfl
          refine bodyPost_ret (v := .tuple #[.agg #[.bool false, .int .i64 0, .int .i64 0, .int .i64 0, .int .i64 0, .int .i64 0, .int .i64 0, .slice none 0 0], .agg #[.int .i64 0, .int .i64 0, .int .i64 0, .int .i64 0, .int .i64 0, .int .i64 0, .int .i64 0, .int .i64 0, .int .u32 0, .string ⟨#[]⟩], .int .i64 (AE : Int)]) (by simp [results, Tryd.results27, go_sem, e0, e1, e2, e3, e4, e5, e6, e7, eu0, eu1, eu2, eu3, eu4, eu5, eu6, eu7, eu8, eu9]) rfl ?_
          exact ⟨.slice none 0 0, by rw [HF.out.1, HF.out.2.1, HF.out.2.2.1, HF.out.2.2.2]; rfl, by rw [HP0.out]; exact World.ownsRow_nil _ _ _ _, Q3.out⟩
    · --
      have HF : Hid (XB = false ∧ XS = zSg ∧ XN = zNt ∧ XE = C) := by
        have h9 : XE = C := by 
          rw [HXE.out]
          cases hi : I with
          | false => rfl
          | true =>
            have hon : on = true := by
              have := HIS.out
              rw [hi] at this
              exact (Bool.and_eq_true _ _ ▸ this.symm).1
            exact HAB.out (HGO.out (by first | rfl | trivial) hon) hc
        have hz : ¬ XE = 0 := by rw [h9]; assumption
        exact ⟨by rw [HXB.out, decide_eq_false hz], by rw [HXS.out, if_neg hz], by rw [HXN.out, if_neg hz], h9⟩
      have HP0 : Hid (XP = []) := by
        have hz : ¬ XE = 0 := by rw [HF.out.2.2.2]; assumption
        unfold Hid
        rw [HXP.out, if_neg hz]
      clear HXE HXS HXP HXN HXB HC3 HC4 HAN HAD HAB HIS HGO
      have c1 : ((C : Int) == 0) = false := by simp; omega
      have c2 : ((C : Int) != 0) = true := by simp; omega
      go_upto_region 4 with fail
      have hW3 := HW3.out
      have hx7 := HX7.out
      simp only [hW3, hx7]
      clear HW3 HX7 hW3 hx7
      go_upto_region 5 with fail
      have g0 := HB2.out.cell 0 rfl
      have g1 := HB2.out.cell 1 rfl
      have g2 := HB2.out.cell 2 rfl
      have g3 := HB2.out.cell 3 rfl
      have g4 := HB2.out.cell 4 rfl
      have g5 := HB2.out.cell 5 rfl
      have g6 := HB2.out.cell 6 rfl
      have g7 := HB2.out.cell 7 rfl
      have f0 := HB2.out.frozen 0
      have f1 := HB2.out.frozen 1
      have f2 := HB2.out.frozen 2
      have f3 := HB2.out.frozen 3
      have f4 := HB2.out.frozen 4
      have f5 := HB2.out.frozen 5
      have f6 := HB2.out.frozen 6
      have f7 := HB2.out.frozen 7
      have V1 := hide (Bk.others HNU.out.2 [.bool false, .int .i64 0, .int .i64 0, .int .i64 0, .int .i64 0, .int .i64 0, .int .i64 0, .slice none 0 0] 0 HB3.out)
      have gu0 := HB3.out.cell 0 rfl
      have gu1 := HB3.out.cell 1 rfl
      have gu2 := HB3.out.cell 2 rfl
      have gu3 := HB3.out.cell 3 rfl
      have gu4 := HB3.out.cell 4 rfl
      have gu5 := HB3.out.cell 5 rfl
      have gu6 := HB3.out.cell 6 rfl
      have gu7 := HB3.out.cell 7 rfl
      have gu8 := HB3.out.cell 8 rfl
      have gu9 := HB3.out.cell 9 rfl
      have fu0 := HB3.out.frozen 0
      have fu1 := HB3.out.frozen 1
      have fu2 := HB3.out.frozen 2
      have fu3 := HB3.out.frozen 3
      have fu4 := HB3.out.frozen 4
      have fu5 := HB3.out.frozen 5
      have fu6 := HB3.out.frozen 6
      have fu7 := HB3.out.frozen 7
      have fu8 := HB3.out.frozen 8
      have fu9 := HB3.out.frozen 9
      obtain ⟨hqz, hzq⟩ := HNU.out
      have Q1 := hide (Bk.others HNU.out.1 [.int .i64 0, .int .i64 0, .int .i64 0, .int .i64 0, .int .i64 0, .int .i64 0, .int .i64 0, .int .i64 0, .int .u32 0, .string ⟨#[]⟩] 0 (HB2.out.sets [.bool false, .int .i64 0, .int .i64 0, .int .i64 0, .int .i64 0, .int .i64 0, .int .i64 0, .slice none 0 0] rfl))
      have Q5 := hide (V1.out.sets [.int .i64 0, .int .i64 0, .int .i64 0, .int .i64 0, .int .i64 0, .int .i64 0, .int .i64 0, .int .i64 0, .int .u32 0, .string ⟨#[]⟩] rfl)
      have Q3 := hide (below_sets HLE.out.2 [.int .i64 0, .int .i64 0, .int .i64 0, .int .i64 0, .int .i64 0, .int .i64 0, .int .i64 0, .int .i64 0, .int .u32 0, .string ⟨#[]⟩] 0 (below_sets HLE.out.1 [.bool false, .int .i64 0, .int .i64 0, .int .i64 0, .int .i64 0, .int .i64 0, .int .i64 0, .slice none 0 0] 0 HD.out))
      go_wp2
      obtain ⟨W9, hW9⟩ : ∃ W9, ((((((((((((((((((W3.setCell ⟨q, 0, none⟩ (.bool false)).setCell ⟨q, 1, none⟩ (.int .i64 0)).setCell ⟨q, 2, none⟩ (.int .i64 0)).setCell ⟨q, 3, none⟩ (.int .i64 0)).setCell ⟨q, 4, none⟩ (.int .i64 0)).setCell ⟨q, 5, none⟩ (.int .i64 0)).setCell ⟨q, 6, none⟩ (.int .i64 0)).setCell ⟨q, 7, none⟩ (.slice none 0 0)).setCell ⟨u, 0, none⟩ (.int .i64 0)).setCell ⟨u, 1, none⟩ (.int .i64 0)).setCell ⟨u, 2, none⟩ (.int .i64 0)).setCell ⟨u, 3, none⟩ (.int .i64 0)).setCell ⟨u, 4, none⟩ (.int .i64 0)).setCell ⟨u, 5, none⟩ (.int .i64 0)).setCell ⟨u, 6, none⟩ (.int .i64 0)).setCell ⟨u, 7, none⟩ (.int .i64 0)).setCell ⟨u, 8, none⟩ (.int .u32 0)).setCell ⟨u, 9, none⟩ (.string ⟨#[]⟩)) = W9 := ⟨_, rfl⟩
      simp only [hW9]
      rw [show World.setCells (World.setCells W3 q 0 [.bool false, .int .i64 0, .int .i64 0, .int .i64 0, .int .i64 0, .int .i64 0, .int .i64 0, .slice none 0 0]) u 0 [.int .i64 0, .int .i64 0, .int .i64 0, .int .i64 0, .int .i64 0, .int .i64 0, .int .i64 0, .int .i64 0, .int .u32 0, .string ⟨#[]⟩] = W9 from hW9] at Q1 Q3 Q5
      clear hW9
      have e0 := Q1.out.cell 0 rfl
      have e1 := Q1.out.cell 1 rfl
      have e2 := Q1.out.cell 2 rfl
      have e3 := Q1.out.cell 3 rfl
      have e4 := Q1.out.cell 4 rfl
      have e5 := Q1.out.cell 5 rfl
      have e6 := Q1.out.cell 6 rfl
      have e7 := Q1.out.cell 7 rfl
      have eu0 := Q5.out.cell 0 rfl
      have eu1 := Q5.out.cell 1 rfl
      have eu2 := Q5.out.cell 2 rfl
      have eu3 := Q5.out.cell 3 rfl
      have eu4 := Q5.out.cell 4 rfl
      have eu5 := Q5.out.cell 5 rfl
      have eu6 := Q5.out.cell 6 rfl
      have eu7 := Q5.out.cell 7 rfl
      have eu8 := Q5.out.cell 8 rfl
      have eu9 := Q5.out.cell 9 rfl
      refine bodyPost_ret (v := .tuple #[.agg #[.bool false, .int .i64 0, .int .i64 0, .int .i64 0, .int .i64 0, .int .i64 0, .int .i64 0, .slice none 0 0], .agg #[.int .i64 0, .int .i64 0, .int .i64 0, .int .i64 0, .int .i64 0, .int .i64 0, .int .i64 0, .int .i64 0, .int .u32 0, .string ⟨#[]⟩], .int .i64 (C : Int)]) (by simp [results, Tryd.results27, go_sem, e0, e1, e2, e3, e4, e5, e6, e7, eu0, eu1, eu2, eu3, eu4, eu5, eu6, eu7, eu8, eu9]) rfl ?_
      exact ⟨.slice none 0 0, by rw [HF.out.1, HF.out.2.1, HF.out.2.2.1, HF.out.2.2.2]; rfl, by rw [HP0.out]; exact World.ownsRow_nil _ _ _ _, Q3.out⟩
end Go.Proofs.YtnopclacchoijaaDoor
