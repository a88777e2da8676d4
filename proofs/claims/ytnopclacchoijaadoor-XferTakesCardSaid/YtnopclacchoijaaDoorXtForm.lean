/-
  The document's Formed, Whole and SameRecv; the law's toRecv and fromRecv.
-/
import Derived.Test.YtnopclacchoijaaDoorXtMiss
import Derived.Test.YtnopclacchoijaaDoorXtSame
import Derived.Test.YtnopclacchoijaaDoorXfState
namespace Go.Proofs.YtnopclacchoijaaDoor
open Go.RowKit FerryCrc
set_option linter.unusedVariables false
set_option linter.unusedSimpArgs false

set_option maxRecDepth 100000 in
set_option maxHeartbeats 4000000 in
theorem rformed_any (on : Bool) (pt st tt b r m : Int) (a : Option Addr) (n c : Nat) (P : List ByteArray) {w : World} (hP : Txs w a n c P) :
    Calls Tryd.prog 50 #[.agg #[.bool on, .int .i64 pt, .int .i64 st, .int .i64 tt, .int .i64 b, .int .i64 r, .int .i64 m, .slice a n c]] w fun e w' => e = .returned (.bool (rgood on ⟨pt, st, tt, b, r, m⟩ P)) ∧ Below w.heap.size w w' := by
  have hn := hP.size
  obtain ⟨SS, hSS⟩ : ∃ X : Sg, X = ⟨pt, st, tt, b, r, m⟩ := ⟨_, rfl⟩
  have HC1 := hide (fun (w' : World) => rsameZ_any (w := w') SS a n c)
  have HC2 := hide (fun (w' : World) (h : Txs w' a n c P) => rmiss_any SS a n c P h)
  have hcs : ∀ v, (SS.cells v).toArray = #[.int .i64 pt, .int .i64 st, .int .i64 tt, .int .i64 b, .int .i64 r, .int .i64 m, v] := fun v => by rw [hSS]; rfl
  simp only [hcs] at HC1 HC2
  rw [← hSS]
  have HG : Hid (goodB SS P = true → (n : Int) = tt) := fun h => by
    obtain ⟨-, -, q1, q2, q3, -⟩ := goodB_open h
    rw [hn, hSS] at q3
    exact q3
  have HR : Hid (rgood on SS P = if on = true then goodB SS P && decide (nE P < n) else zeroB SS && decide (n = 0)) := by unfold Hid rgood; rw [← hn, nE_all]
  have HWE : Hid (whE SS P = if goodB SS P = true then 0 else 9) := rfl
  obtain ⟨R, hR⟩ : ∃ R, rgood on SS P = R := ⟨_, rfl⟩
  obtain ⟨G, hG⟩ : ∃ R, goodB SS P = R := ⟨_, rfl⟩
  obtain ⟨Z, hZ⟩ : ∃ R, (zeroB SS && decide (n = 0)) = R := ⟨_, rfl⟩
  obtain ⟨WE, hWE⟩ : ∃ R, whE SS P = R := ⟨_, rfl⟩
  obtain ⟨E0, hE0⟩ : ∃ R, nE P = R := ⟨_, rfl⟩
  rw [hR] at HR ⊢
  rw [hG] at HG HR HWE HC2
  rw [hZ] at HR HC1
  rw [hWE] at HWE HC2
  rw [hE0] at HR HC2
  clear hR hG hZ hWE hE0 hSS hcs
  obtain ⟨W, hW, B0, D0⟩ := box1 w [.bool on, .int .i64 pt, .int .i64 st, .int .i64 tt, .int .i64 b, .int .i64 r, .int .i64 m, .slice a n c] 31
  have HB0 := hide B0
  have HD := hide D0
  have HP := hide (hP.below D0)
  have HWD := hide hW
  clear hP B0 D0 hW
  go_enter Tryd.func50, Tryd.ntmps50
  go_upto_region 1 with fail
  have hW := HWD.out
  clear HWD
  simp only [hW]
  clear hW
  have g0 := HB0.out.cell 0 rfl
  have g1 := HB0.out.cell 1 rfl
  have g2 := HB0.out.cell 2 rfl
  have g3 := HB0.out.cell 3 rfl
  have g4 := HB0.out.cell 4 rfl
  have g5 := HB0.out.cell 5 rfl
  have g6 := HB0.out.cell 6 rfl
  have g7 := HB0.out.cell 7 rfl
  cases on with
  | false =>
    have HF : Hid (R = Z) := HR.out
    clear HR HG HWE HC2
    go_upto_region 2 with fail
    go_wp2_with fail
    refine Calls.mono (HC1.out _) ?_
    rintro e w1 ⟨rfl, b1⟩
    replace HD := hide (chain HD.out b1)
    clear b1 g0 g1 g2 g3 g4 g5 g6 g7
    go_wp2
    go_ret
    exact ⟨ret_b HF.out.symm, HD.out⟩
  | true =>
    have HF : Hid (R = (G && decide (E0 < n))) := HR.out
    clear HR HC1
    go_upto_region 3 with fail
    go_wp2_with fail
    refine Calls.mono (HC2.out _ HP.out) ?_
    rintro e w1 ⟨va, vc, rfl, b1⟩
    replace HD := hide (chain HD.out b1)
    replace HB0 := hide (HB0.out.below b1)
    clear b1 g0 g1 g2 g3 g4 g5 g6 g7 HC2
    have g3 := HB0.out.cell 3 rfl
    cases G with
    | false =>
      have h9 : WE = 9 := HWE.out
      subst h9
      have HF2 : Hid (R = false) := HF.out
      clear HG HWE HF
      rw [show (if false = true then E0 else 0) = 0 from rfl]
      go_wp2
      go_ret
      exact ⟨ret_b HF2.out.symm, HD.out⟩
    | true =>
      have h9 : WE = 0 := HWE.out
      subst h9
      have ht := HG.out rfl
      subst ht
      rw [show (if true = true then E0 else 0) = E0 from rfl]
      clear HG HWE
      by_cases h5 : E0 < n
      · have HF2 : Hid (R = true) := by unfold Hid; rw [HF.out, decide_eq_true h5]; rfl
        have h6 : (E0 : Int) < (n : Int) := by omega
        clear h5 HF
        go_wp2
        go_ret
        exact ⟨ret_b HF2.out.symm, HD.out⟩
      · have HF2 : Hid (R = false) := by unfold Hid; rw [HF.out, decide_eq_false h5]; rfl
        have h6 : decide ((E0 : Int) < (n : Int)) = false := decide_eq_false (by omega)
        have H5 := hide h5
        clear h5 HF
        go_wp2
        go_ret
        exact ⟨ret_b (by rw [HF2.out]; exact decide_eq_false H5.out), HD.out⟩
set_option maxRecDepth 100000 in
set_option maxHeartbeats 4000000 in
theorem rwholeR_any (on : Bool) (pt st tt b r m : Int) (a : Option Addr) (n c : Nat) (P : List ByteArray) {w : World} (hP : Txs w a n c P) :
    Calls Tryd.prog 28 #[.agg #[.bool on, .int .i64 pt, .int .i64 st, .int .i64 tt, .int .i64 b, .int .i64 r, .int .i64 m, .slice a n c]] w fun e w' => e = .returned (.tuple #[.string (str (rwB on ⟨pt, st, tt, b, r, m⟩ P)), .bool (rwF on ⟨pt, st, tt, b, r, m⟩ P), .int .i64 (rwE on ⟨pt, st, tt, b, r, m⟩ P : Int)]) ∧ Below w.heap.size w w' := by
  have HC1 := hide (fun (w' : World) (h : Txs w' a n c P) => rformed_any on pt st tt b r m a n c P h)
  obtain ⟨SS, hSS⟩ : ∃ X : Sg, X = ⟨pt, st, tt, b, r, m⟩ := ⟨_, rfl⟩
  have HC2 := hide (fun (w' : World) (h : Txs w' a n c P) => rwholeS_any SS a n c P h)
  have hcs : ∀ v, (SS.cells v).toArray = #[.int .i64 pt, .int .i64 st, .int .i64 tt, .int .i64 b, .int .i64 r, .int .i64 m, v] := fun v => by rw [hSS]; rfl
  simp only [hcs] at HC2
  rw [← hSS] at HC1 ⊢
  have HT : Hid (rgood on SS P = true → on = true → whE SS P = 0 ∧ rwE on SS P = 0 ∧ rwF on SS P = whF SS P ∧ rwB on SS P = whB SS P) := fun h1 h2 => by
    have hg : goodB SS P = true := by
      unfold rgood at h1
      rw [if_pos h2] at h1
      exact (Bool.and_eq_true _ _ ▸ h1).1
    have h3 : rwF on SS P = whF SS P := by unfold rwF whF; rw [h1, h2, hg]; rfl
    refine ⟨by unfold whE; rw [if_pos hg], by unfold rwE; rw [if_pos h1], h3, ?_⟩
    unfold rwB whB
    rw [h3]
  have HF0 : Hid (on = false → rwF on SS P = false) := fun h => by unfold rwF; rw [h]; simp
  have HF1 : Hid (rgood on SS P = false → rwF on SS P = false ∧ rwE on SS P = 9) := fun h => ⟨by unfold rwF; rw [h]; rfl, by unfold rwE; rw [h]; rfl⟩
  have HF2 : Hid (rgood on SS P = true → rwE on SS P = 0) := fun h => by unfold rwE; rw [if_pos h]
  have HF3 : Hid (rwF on SS P = false → str (rwB on SS P) = ⟨#[]⟩) := fun h => by unfold rwB; rw [h]; rfl
  obtain ⟨G, hG⟩ : ∃ R, rgood on SS P = R := ⟨_, rfl⟩
  obtain ⟨WB, hWB⟩ : ∃ R, rwB on SS P = R := ⟨_, rfl⟩
  obtain ⟨WF, hWF⟩ : ∃ R, rwF on SS P = R := ⟨_, rfl⟩
  obtain ⟨WE, hWE⟩ : ∃ R, rwE on SS P = R := ⟨_, rfl⟩
  obtain ⟨VB, hVB⟩ : ∃ R, whB SS P = R := ⟨_, rfl⟩
  obtain ⟨VF, hVF⟩ : ∃ R, whF SS P = R := ⟨_, rfl⟩
  obtain ⟨VE, hVE⟩ : ∃ R, whE SS P = R := ⟨_, rfl⟩
  rw [hG] at HC1 HT HF1 HF2
  rw [hWB] at HT HF3 ⊢
  rw [hWF] at HT HF0 HF1 HF3 ⊢
  rw [hWE] at HT HF1 HF2 ⊢
  rw [hVB] at HT HC2
  rw [hVF] at HT HC2
  rw [hVE] at HT HC2
  clear hG hWB hWF hWE hVB hVF hVE hSS hcs
  obtain ⟨W, hW, B0, D0⟩ := box1 w [.bool on, .int .i64 pt, .int .i64 st, .int .i64 tt, .int .i64 b, .int .i64 r, .int .i64 m, .slice a n c] 31
  have HB0 := hide B0
  have HD := hide D0
  have HP := hide (hP.below D0)
  have HWD := hide hW
  clear hP B0 D0 hW
  go_enter Tryd.func28, Tryd.ntmps28
  go_upto_region 1 with fail
  have hW := HWD.out
  clear HWD
  simp only [hW]
  clear hW
  have g0 := HB0.out.cell 0 rfl
  have g1 := HB0.out.cell 1 rfl
  have g2 := HB0.out.cell 2 rfl
  have g3 := HB0.out.cell 3 rfl
  have g4 := HB0.out.cell 4 rfl
  have g5 := HB0.out.cell 5 rfl
  have g6 := HB0.out.cell 6 rfl
  have g7 := HB0.out.cell 7 rfl
  go_wp2_with fail
  refine Calls.mono (HC1.out _ HP.out) ?_
  rintro e w1 ⟨rfl, b1⟩
  replace HB0 := hide (HB0.out.below b1)
  replace HD := hide (chain HD.out b1)
  replace HP := hide (HP.out.below b1)
  clear b1 HC1 g0 g1 g2 g3 g4 g5 g6 g7
  cases G with
  | false =>
    obtain ⟨h1, h2⟩ := HF1.out rfl
    have HS := hide (HF3.out h1)
    subst h1 h2
    clear HT HF0 HF1 HF2 HF3
    go_wp2
    refine bodyPost_ret (v := .tuple #[.string ⟨#[]⟩, .bool false, .int .i64 9]) (by simp [results, Tryd.results28, go_sem]) rfl ?_
    exact ⟨by rw [HS.out]; rfl, HD.out⟩
  | true =>
    have h2 := HF2.out rfl
    subst h2
    have g0 := HB0.out.cell 0 rfl
    have g1 := HB0.out.cell 1 rfl
    have g2 := HB0.out.cell 2 rfl
    have g3 := HB0.out.cell 3 rfl
    have g4 := HB0.out.cell 4 rfl
    have g5 := HB0.out.cell 5 rfl
    have g6 := HB0.out.cell 6 rfl
    have g7 := HB0.out.cell 7 rfl
    cases on with
    | false =>
      have h1 := HF0.out rfl
      have HS := hide (HF3.out h1)
      subst h1
      clear HT HF0 HF1 HF2 HF3
      go_wp2
      refine bodyPost_ret (v := .tuple #[.string ⟨#[]⟩, .bool false, .int .i64 0]) (by simp [results, Tryd.results28, go_sem]) rfl ?_
      exact ⟨by rw [HS.out]; rfl, HD.out⟩
    | true =>
      obtain ⟨h3, -, h4, h5⟩ := HT.out rfl rfl
      subst h3 h4 h5
      clear HT HF0 HF1 HF2 HF3
      go_upto_region 5 with fail
      go_wp2_with fail
      refine Calls.mono (HC2.out _ HP.out) ?_
      rintro e w2 ⟨rfl, b2⟩
      replace HD := hide (chain HD.out b2)
      clear b2 g0 g1 g2 g3 g4 g5 g6 g7
      obtain ⟨y, hy⟩ : ∃ y, str WB = y := ⟨_, rfl⟩
      rw [hy]
      have HY := hide hy
      clear hy
      go_wp2
      refine bodyPost_ret (v := .tuple #[.string y, .bool WF, .int .i64 0]) (by simp [results, Tryd.results28, go_sem]) rfl ?_
      exact ⟨by rw [HY.out]; rfl, HD.out⟩
set_option maxRecDepth 100000 in
set_option maxHeartbeats 4000000 in
theorem rsameR_any (on : Bool) (pt st tt b r m : Int) (a : Option Addr) (n c : Nat) (a2 : Option Addr) (cc : Nat) (P : List ByteArray) {w : World} (hA : Txs w a n c P) (hB : Txs w a2 n cc P) (hn32 : n ≤ 4611686018427387904) : Calls Tryd.prog 31 #[.agg #[.bool on, .int .i64 pt, .int .i64 st, .int .i64 tt, .int .i64 b, .int .i64 r, .int .i64 m, .slice a n c], .agg #[.bool on, .int .i64 pt, .int .i64 st, .int .i64 tt, .int .i64 b, .int .i64 r, .int .i64 m, .slice a2 n cc]] w fun e w' => e = .returned (.bool true) ∧ Below w.heap.size w w' := by
  have HC1 := hide (fun (w' : World) (h1 : Txs w' a n c P) (h2 : Txs w' a2 n cc P) => rsameS_any ⟨pt, st, tt, b, r, m⟩ a a2 n c cc P h1 h2 hn32)
  unfold Sg.cells at HC1
  simp only at HC1
  obtain ⟨W, hW, B0, B1, D0⟩ := box2 w [.bool on, .int .i64 pt, .int .i64 st, .int .i64 tt, .int .i64 b, .int .i64 r, .int .i64 m, .slice a n c] 31 [.bool on, .int .i64 pt, .int .i64 st, .int .i64 tt, .int .i64 b, .int .i64 r, .int .i64 m, .slice a2 n cc] 31
  obtain ⟨q, hq⟩ : ∃ q, w.heap.size + 1 = q := ⟨_, rfl⟩
  rw [hq] at B1
  have HB0 := hide B0
  have HB1 := hide B1
  have HWD := hide hW
  have HQQ := hide hq
  have HD := hide D0
  have HA := hide (hA.below D0)
  have HB := hide (hB.below D0)
  clear B0 B1 D0 hW hq hA hB
  go_enter Tryd.func31, Tryd.ntmps31
  go_upto_region 1 with fail
  have hW := HWD.out
  have hq := HQQ.out
  clear HWD HQQ
  simp only [hW, hq]
  clear hW hq
  have g0 := HB0.out.cell 0 rfl
  have g1 := HB0.out.cell 1 rfl
  have g2 := HB0.out.cell 2 rfl
  have g3 := HB0.out.cell 3 rfl
  have g4 := HB0.out.cell 4 rfl
  have g5 := HB0.out.cell 5 rfl
  have g6 := HB0.out.cell 6 rfl
  have g7 := HB0.out.cell 7 rfl
  have c0 := HB1.out.cell 0 rfl
  have c1 := HB1.out.cell 1 rfl
  have c2 := HB1.out.cell 2 rfl
  have c3 := HB1.out.cell 3 rfl
  have c4 := HB1.out.cell 4 rfl
  have c5 := HB1.out.cell 5 rfl
  have c6 := HB1.out.cell 6 rfl
  have c7 := HB1.out.cell 7 rfl
  cases on
  all_goals
    go_wp2_with fail
    refine Calls.mono (HC1.out _ HA.out HB.out) ?_
    rintro e w1 ⟨rfl, b1⟩
    replace HD := hide (chain HD.out b1)
    clear b1 g0 g1 g2 g3 g4 g5 g6 g7 c0 c1 c2 c3 c4 c5 c6 c7
    go_wp2
    go_ret
    exact ⟨rfl, HD.out⟩
set_option maxRecDepth 100000 in
set_option maxHeartbeats 4000000 in
theorem toRecv_any (on : Bool) (pt st tt b r m : Int) (a : Option Addr) (n c : Nat) (w : World) : Calls Tryd.prog 30 #[.agg #[.bool on, .int .i64 pt, .int .i64 st, .int .i64 tt, .int .i64 b, .int .i64 r, .int .i64 m, .slice a n c]] w fun e w' => e = .returned (.agg #[.bool on, .int .i64 pt, .int .i64 st, .int .i64 tt, .int .i64 b, .int .i64 r, .int .i64 m, .slice a n c]) ∧ Below w.heap.size w w' := by
  obtain ⟨W, hW, B0, B1, D0⟩ := box2 w [.bool on, .int .i64 pt, .int .i64 st, .int .i64 tt, .int .i64 b, .int .i64 r, .int .i64 m, .slice a n c] 31 [.bool false, .int .i64 0, .int .i64 0, .int .i64 0, .int .i64 0, .int .i64 0, .int .i64 0, .slice none 0 0] 78
  obtain ⟨q, hq⟩ : ∃ q, w.heap.size + 1 = q := ⟨_, rfl⟩
  have HQ0 : Hid (w.heap.size < q) := by unfold Hid; omega
  rw [hq] at B1
  have HB0 := hide B0
  have HB1 := hide B1
  have HWD := hide hW
  have HQQ := hide hq
  have HD := hide D0
  clear B0 B1 D0 hW hq
  go_enter Tryd.func30, Tryd.ntmps30
  go_upto_region 1 with fail
  have hW := HWD.out
  have hq := HQQ.out
  clear HWD HQQ
  simp only [hW, hq]
  clear hW hq
  have c0 := HB0.out.cell 0 rfl
  have c1 := HB0.out.cell 1 rfl
  have c2 := HB0.out.cell 2 rfl
  have c3 := HB0.out.cell 3 rfl
  have c4 := HB0.out.cell 4 rfl
  have c5 := HB0.out.cell 5 rfl
  have c6 := HB0.out.cell 6 rfl
  have c7 := HB0.out.cell 7 rfl
  have g0 := HB1.out.cell 0 rfl
  have g1 := HB1.out.cell 1 rfl
  have g2 := HB1.out.cell 2 rfl
  have g3 := HB1.out.cell 3 rfl
  have g4 := HB1.out.cell 4 rfl
  have g5 := HB1.out.cell 5 rfl
  have g6 := HB1.out.cell 6 rfl
  have g7 := HB1.out.cell 7 rfl
  have f0 := HB1.out.frozen 0
  have f1 := HB1.out.frozen 1
  have f2 := HB1.out.frozen 2
  have f3 := HB1.out.frozen 3
  have f4 := HB1.out.frozen 4
  have f5 := HB1.out.frozen 5
  have f6 := HB1.out.frozen 6
  have f7 := HB1.out.frozen 7
  have Q1 := hide (HB1.out.sets [.bool on, .int .i64 pt, .int .i64 st, .int .i64 tt, .int .i64 b, .int .i64 r, .int .i64 m, .slice a n c] rfl)
  have Q3 := hide (below_sets (Nat.le_of_lt HQ0.out) [.bool on, .int .i64 pt, .int .i64 st, .int .i64 tt, .int .i64 b, .int .i64 r, .int .i64 m, .slice a n c] 0 HD.out)
  go_wp2
  obtain ⟨W9, hW9⟩ : ∃ W9, ((((((((W.setCell ⟨q, 0, none⟩ (.bool on)).setCell ⟨q, 1, none⟩ (.int .i64 pt)).setCell ⟨q, 2, none⟩ (.int .i64 st)).setCell ⟨q, 3, none⟩ (.int .i64 tt)).setCell ⟨q, 4, none⟩ (.int .i64 b)).setCell ⟨q, 5, none⟩ (.int .i64 r)).setCell ⟨q, 6, none⟩ (.int .i64 m)).setCell ⟨q, 7, none⟩ (.slice a n c)) = W9 := ⟨_, rfl⟩
  simp only [hW9]
  rw [show World.setCells W q 0 [.bool on, .int .i64 pt, .int .i64 st, .int .i64 tt, .int .i64 b, .int .i64 r, .int .i64 m, .slice a n c] = W9 from hW9] at Q1 Q3
  clear hW9
  have e0 := Q1.out.cell 0 rfl
  have e1 := Q1.out.cell 1 rfl
  have e2 := Q1.out.cell 2 rfl
  have e3 := Q1.out.cell 3 rfl
  have e4 := Q1.out.cell 4 rfl
  have e5 := Q1.out.cell 5 rfl
  have e6 := Q1.out.cell 6 rfl
  have e7 := Q1.out.cell 7 rfl
  refine bodyPost_ret (v := .agg #[.bool on, .int .i64 pt, .int .i64 st, .int .i64 tt, .int .i64 b, .int .i64 r, .int .i64 m, .slice a n c]) (by simp [results, Tryd.results30, go_sem, e0, e1, e2, e3, e4, e5, e6, e7]) rfl ?_
  exact ⟨rfl, Q3.out⟩
set_option maxRecDepth 100000 in
set_option maxHeartbeats 4000000 in
theorem fromRecv_any (on : Bool) (pt st tt b r m : Int) (a : Option Addr) (n c : Nat) (w : World) : Calls Tryd.prog 32 #[.agg #[.bool on, .int .i64 pt, .int .i64 st, .int .i64 tt, .int .i64 b, .int .i64 r, .int .i64 m, .slice a n c]] w fun e w' => e = .returned (.agg #[.bool on, .int .i64 pt, .int .i64 st, .int .i64 tt, .int .i64 b, .int .i64 r, .int .i64 m, .slice a n c]) ∧ Below w.heap.size w w' := by
  obtain ⟨W, hW, B0, B1, D0⟩ := box2 w [.bool on, .int .i64 pt, .int .i64 st, .int .i64 tt, .int .i64 b, .int .i64 r, .int .i64 m, .slice a n c] 78 [.bool false, .int .i64 0, .int .i64 0, .int .i64 0, .int .i64 0, .int .i64 0, .int .i64 0, .slice none 0 0] 31
  obtain ⟨q, hq⟩ : ∃ q, w.heap.size + 1 = q := ⟨_, rfl⟩
  have HQ0 : Hid (w.heap.size < q) := by unfold Hid; omega
  rw [hq] at B1
  have HB0 := hide B0
  have HB1 := hide B1
  have HWD := hide hW
  have HQQ := hide hq
  have HD := hide D0
  clear B0 B1 D0 hW hq
  go_enter Tryd.func32, Tryd.ntmps32
  go_upto_region 1 with fail
  have hW := HWD.out
  have hq := HQQ.out
  clear HWD HQQ
  simp only [hW, hq]
  clear hW hq
  have c0 := HB0.out.cell 0 rfl
  have c1 := HB0.out.cell 1 rfl
  have c2 := HB0.out.cell 2 rfl
  have c3 := HB0.out.cell 3 rfl
  have c4 := HB0.out.cell 4 rfl
  have c5 := HB0.out.cell 5 rfl
  have c6 := HB0.out.cell 6 rfl
  have c7 := HB0.out.cell 7 rfl
  have g0 := HB1.out.cell 0 rfl
  have g1 := HB1.out.cell 1 rfl
  have g2 := HB1.out.cell 2 rfl
  have g3 := HB1.out.cell 3 rfl
  have g4 := HB1.out.cell 4 rfl
  have g5 := HB1.out.cell 5 rfl
  have g6 := HB1.out.cell 6 rfl
  have g7 := HB1.out.cell 7 rfl
  have f0 := HB1.out.frozen 0
  have f1 := HB1.out.frozen 1
  have f2 := HB1.out.frozen 2
  have f3 := HB1.out.frozen 3
  have f4 := HB1.out.frozen 4
  have f5 := HB1.out.frozen 5
  have f6 := HB1.out.frozen 6
  have f7 := HB1.out.frozen 7
  have Q1 := hide (HB1.out.sets [.bool on, .int .i64 pt, .int .i64 st, .int .i64 tt, .int .i64 b, .int .i64 r, .int .i64 m, .slice a n c] rfl)
  have Q3 := hide (below_sets (Nat.le_of_lt HQ0.out) [.bool on, .int .i64 pt, .int .i64 st, .int .i64 tt, .int .i64 b, .int .i64 r, .int .i64 m, .slice a n c] 0 HD.out)
  go_wp2
  obtain ⟨W9, hW9⟩ : ∃ W9, ((((((((W.setCell ⟨q, 0, none⟩ (.bool on)).setCell ⟨q, 1, none⟩ (.int .i64 pt)).setCell ⟨q, 2, none⟩ (.int .i64 st)).setCell ⟨q, 3, none⟩ (.int .i64 tt)).setCell ⟨q, 4, none⟩ (.int .i64 b)).setCell ⟨q, 5, none⟩ (.int .i64 r)).setCell ⟨q, 6, none⟩ (.int .i64 m)).setCell ⟨q, 7, none⟩ (.slice a n c)) = W9 := ⟨_, rfl⟩
  simp only [hW9]
  rw [show World.setCells W q 0 [.bool on, .int .i64 pt, .int .i64 st, .int .i64 tt, .int .i64 b, .int .i64 r, .int .i64 m, .slice a n c] = W9 from hW9] at Q1 Q3
  clear hW9
  have e0 := Q1.out.cell 0 rfl
  have e1 := Q1.out.cell 1 rfl
  have e2 := Q1.out.cell 2 rfl
  have e3 := Q1.out.cell 3 rfl
  have e4 := Q1.out.cell 4 rfl
  have e5 := Q1.out.cell 5 rfl
  have e6 := Q1.out.cell 6 rfl
  have e7 := Q1.out.cell 7 rfl
  refine bodyPost_ret (v := .agg #[.bool on, .int .i64 pt, .int .i64 st, .int .i64 tt, .int .i64 b, .int .i64 r, .int .i64 m, .slice a n c]) (by simp [results, Tryd.results32, go_sem, e0, e1, e2, e3, e4, e5, e6, e7]) rfl ?_
  exact ⟨rfl, Q3.out⟩
end Go.Proofs.YtnopclacchoijaaDoor
