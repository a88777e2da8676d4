/-
  The program's ofRecv, ofNote, isGood.
-/
import Derived.Test.YtnopclacchoijaaDoorXfClone
namespace Go.Proofs.YtnopclacchoijaaDoor
open Go.RowKit FerryCrc
set_option linter.unusedVariables false
set_option linter.unusedSimpArgs false

def zeroB (s : Sg) : Bool := s.part == 0 && (s.boot == 0 && s.peer == 0 && s.num == 0) && s.stage == 0 && s.total == 0
def rgood (on : Bool) (s : Sg) (P : List ByteArray) : Bool := if on = true then goodB s P && anyF P else zeroB s && decide (P.length = 0)
set_option maxRecDepth 100000 in
set_option maxHeartbeats 1000000 in
theorem ofRecv_any (on : Bool) (pt st tt b r m : Int) (a : Option Addr) (n c : Nat) (w : World) : Calls Tryd.prog 57 #[.agg #[.bool on, .int .i64 pt, .int .i64 st, .int .i64 tt, .int .i64 b, .int .i64 r, .int .i64 m, .slice a n c]] w fun e w' => e = .returned (.agg #[.int .i64 pt, .int .i64 b, .int .i64 r, .int .i64 m, .int .i64 st, .int .i64 tt]) ∧ Below w.heap.size w w' := by
  obtain ⟨W, hW, B0, B2, D0⟩ := box2 w [.bool on, .int .i64 pt, .int .i64 st, .int .i64 tt, .int .i64 b, .int .i64 r, .int .i64 m, .slice a n c] 78 [.int .i64 0, .int .i64 0, .int .i64 0, .int .i64 0, .int .i64 0, .int .i64 0] 102
  obtain ⟨q, hq⟩ : ∃ q, w.heap.size + 1 = q := ⟨_, rfl⟩
  have hge : w.heap.size ≤ q := by omega
  rw [hq] at B2
  have HB0 := hide B0
  have HB2 := hide B2
  have HWD := hide hW
  have HQQ := hide hq
  have Q1 := hide (B2.sets [.int .i64 pt, .int .i64 b, .int .i64 r, .int .i64 m, .int .i64 st, .int .i64 tt] rfl)
  have Q3 := hide (below_sets hge [.int .i64 pt, .int .i64 b, .int .i64 r, .int .i64 m, .int .i64 st, .int .i64 tt] 0 D0)
  clear B0 B2 D0 hW hq hge
  go_enter Tryd.func57, Tryd.ntmps57
  go_upto_region 1 with fail
  have hW := HWD.out
  have hq := HQQ.out
  clear HWD HQQ
  simp only [hW, hq]
  clear hW hq
  have g0 := HB0.out.cell 0 rfl
  have g1 := HB0.out.cell 1 rfl
  have g2 := HB0.out.cell 2 rfl
  have g3 := HB0.out.cell 3 rfl
  have g4 := HB0.out.cell 4 rfl
  have g5 := HB0.out.cell 5 rfl
  have g6 := HB0.out.cell 6 rfl
  have g7 := HB0.out.cell 7 rfl
  have c0 := HB2.out.cell 0 rfl
  have c1 := HB2.out.cell 1 rfl
  have c2 := HB2.out.cell 2 rfl
  have c3 := HB2.out.cell 3 rfl
  have c4 := HB2.out.cell 4 rfl
  have c5 := HB2.out.cell 5 rfl
  have f0 := HB2.out.frozen 0
  have f1 := HB2.out.frozen 1
  have f2 := HB2.out.frozen 2
  have f3 := HB2.out.frozen 3
  have f4 := HB2.out.frozen 4
  have f5 := HB2.out.frozen 5
  go_wp2
  obtain ⟨W9, hW9⟩ : ∃ W9, ((((((W.setCell ⟨q, 0, none⟩ (.int .i64 pt)).setCell ⟨q, 1, none⟩ (.int .i64 b)).setCell ⟨q, 2, none⟩ (.int .i64 r)).setCell ⟨q, 3, none⟩ (.int .i64 m)).setCell ⟨q, 4, none⟩ (.int .i64 st)).setCell ⟨q, 5, none⟩ (.int .i64 tt)) = W9 := ⟨_, rfl⟩
  simp only [hW9]
  rw [show W.setCells q 0 [.int .i64 pt, .int .i64 b, .int .i64 r, .int .i64 m, .int .i64 st, .int .i64 tt] = W9 from hW9] at Q1 Q3
  clear hW9
  have e0 := Q1.out.cell 0 rfl
  have e1 := Q1.out.cell 1 rfl
  have e2 := Q1.out.cell 2 rfl
  have e3 := Q1.out.cell 3 rfl
  have e4 := Q1.out.cell 4 rfl
  have e5 := Q1.out.cell 5 rfl
  refine bodyPost_ret (v := .agg #[.int .i64 pt, .int .i64 b, .int .i64 r, .int .i64 m, .int .i64 st, .int .i64 tt]) (by simp [results, Tryd.results57, go_sem, e0, e1, e2, e3, e4, e5]) rfl ?_
  exact ⟨rfl, Q3.out⟩
set_option maxRecDepth 100000 in
set_option maxHeartbeats 1000000 in
theorem ofNote_any (k pt b r m st ix tt sm : Int) (d : ByteArray) (w : World) : Calls Tryd.prog 45 #[.agg #[.int .i64 k, .int .i64 pt, .int .i64 b, .int .i64 r, .int .i64 m, .int .i64 st, .int .i64 ix, .int .i64 tt, .int .u32 sm, .string d]] w fun e w' => e = .returned (.agg #[.int .i64 pt, .int .i64 b, .int .i64 r, .int .i64 m, .int .i64 st, .int .i64 tt]) ∧ Below w.heap.size w w' := by
  obtain ⟨W, hW, B0, B2, D0⟩ := box2 w [.int .i64 k, .int .i64 pt, .int .i64 b, .int .i64 r, .int .i64 m, .int .i64 st, .int .i64 ix, .int .i64 tt, .int .u32 sm, .string d] 34 [.int .i64 0, .int .i64 0, .int .i64 0, .int .i64 0, .int .i64 0, .int .i64 0] 102
  obtain ⟨q, hq⟩ : ∃ q, w.heap.size + 1 = q := ⟨_, rfl⟩
  have hge : w.heap.size ≤ q := by omega
  rw [hq] at B2
  have HB0 := hide B0
  have HB2 := hide B2
  have HWD := hide hW
  have HQQ := hide hq
  have Q1 := hide (B2.sets [.int .i64 pt, .int .i64 b, .int .i64 r, .int .i64 m, .int .i64 st, .int .i64 tt] rfl)
  have Q3 := hide (below_sets hge [.int .i64 pt, .int .i64 b, .int .i64 r, .int .i64 m, .int .i64 st, .int .i64 tt] 0 D0)
  clear B0 B2 D0 hW hq hge
  go_enter Tryd.func45, Tryd.ntmps45
  go_upto_region 1 with fail
  have hW := HWD.out
  have hq := HQQ.out
  clear HWD HQQ
  simp only [hW, hq]
  clear hW hq
  have g0 := HB0.out.cell 0 rfl
  have g1 := HB0.out.cell 1 rfl
  have g2 := HB0.out.cell 2 rfl
  have g3 := HB0.out.cell 3 rfl
  have g4 := HB0.out.cell 4 rfl
  have g5 := HB0.out.cell 5 rfl
  have g6 := HB0.out.cell 6 rfl
  have g7 := HB0.out.cell 7 rfl
  have g8 := HB0.out.cell 8 rfl
  have g9 := HB0.out.cell 9 rfl
  have c0 := HB2.out.cell 0 rfl
  have c1 := HB2.out.cell 1 rfl
  have c2 := HB2.out.cell 2 rfl
  have c3 := HB2.out.cell 3 rfl
  have c4 := HB2.out.cell 4 rfl
  have c5 := HB2.out.cell 5 rfl
  have f0 := HB2.out.frozen 0
  have f1 := HB2.out.frozen 1
  have f2 := HB2.out.frozen 2
  have f3 := HB2.out.frozen 3
  have f4 := HB2.out.frozen 4
  have f5 := HB2.out.frozen 5
  go_wp2
  obtain ⟨W9, hW9⟩ : ∃ W9, ((((((W.setCell ⟨q, 0, none⟩ (.int .i64 pt)).setCell ⟨q, 1, none⟩ (.int .i64 b)).setCell ⟨q, 2, none⟩ (.int .i64 r)).setCell ⟨q, 3, none⟩ (.int .i64 m)).setCell ⟨q, 4, none⟩ (.int .i64 st)).setCell ⟨q, 5, none⟩ (.int .i64 tt)) = W9 := ⟨_, rfl⟩
  simp only [hW9]
  rw [show W.setCells q 0 [.int .i64 pt, .int .i64 b, .int .i64 r, .int .i64 m, .int .i64 st, .int .i64 tt] = W9 from hW9] at Q1 Q3
  clear hW9
  have e0 := Q1.out.cell 0 rfl
  have e1 := Q1.out.cell 1 rfl
  have e2 := Q1.out.cell 2 rfl
  have e3 := Q1.out.cell 3 rfl
  have e4 := Q1.out.cell 4 rfl
  have e5 := Q1.out.cell 5 rfl
  refine bodyPost_ret (v := .agg #[.int .i64 pt, .int .i64 b, .int .i64 r, .int .i64 m, .int .i64 st, .int .i64 tt]) (by simp [results, Tryd.results45, go_sem, e0, e1, e2, e3, e4, e5]) rfl ?_
  exact ⟨rfl, Q3.out⟩
theorem tr_eql {p b r m s t p2 b2 r2 m2 s2 t2 : Int} (w : World) : (binOp .eql 102 (.agg #[.int .i64 p2, .int .i64 b2, .int .i64 r2, .int .i64 m2, .int .i64 s2, .int .i64 t2]) (.agg #[.int .i64 p, .int .i64 b, .int .i64 r, .int .i64 m, .int .i64 s, .int .i64 t])).run Tryd.prog w = .ok (.bool (p2 == p && (b2 == b && r2 == r && m2 == m) && s2 == s && t2 == t)) w := by
  by_cases h1 : p2 = p
  · by_cases h2 : b2 = b
    · by_cases h3 : r2 = r
      · by_cases h4 : m2 = m
        · by_cases h5 : s2 = s
          · by_cases h6 : t2 = t
            · subst h1 h2 h3 h4 h5 h6
              go_simp
            · rw [show (t2 == t) = false by simpa using h6]
              subst h1 h2 h3 h4 h5
              go_simp
              all_goals first | exact h6 | simp [h6]
          · rw [show (s2 == s) = false by simpa using h5]
            subst h1 h2 h3 h4
            go_simp
            all_goals first | exact h5 | simp [h5]
        · rw [show (m2 == m) = false by simpa using h4]
          subst h1 h2 h3
          go_simp
          all_goals first | exact h4 | simp [h4]
      · rw [show (r2 == r) = false by simpa using h3]
        subst h1 h2
        go_simp
        all_goals first | exact h3 | simp [h3]
    · rw [show (b2 == b) = false by simpa using h2]
      subst h1
      go_simp
      all_goals first | exact h2 | simp [h2]
  · rw [show (p2 == p) = false by simpa using h1]
    go_simp
    all_goals first | exact h1 | simp [h1]

set_option maxRecDepth 100000 in
set_option maxHeartbeats 1000000 in
theorem isGood_any (on : Bool) (pt st tt b r m : Int) (a : Option Addr) (n c : Nat) (P : List ByteArray) {w : World} (hP : Txs w a n c P) (hz : ∀ x ∈ P, x.size ≤ 9223372036854775807) :
    Calls Tryd.prog 55 #[.agg #[.bool on, .int .i64 pt, .int .i64 st, .int .i64 tt, .int .i64 b, .int .i64 r, .int .i64 m, .slice a n c]] w fun e w' => e = .returned (.bool (rgood on ⟨pt, st, tt, b, r, m⟩ P)) ∧ Below w.heap.size w w' := by
  obtain ⟨S, hS⟩ : ∃ S : Sg, S = ⟨pt, st, tt, b, r, m⟩ := ⟨_, rfl⟩
  have HC1 := hide (fun (w' : World) (h : Txs w' a n c P) => good_any S a n c P h hz)
  rw [← hS]
  have hcs : (S.cells (.slice a n c)).toArray = #[.int .i64 pt, .int .i64 st, .int .i64 tt, .int .i64 b, .int .i64 r, .int .i64 m, .slice a n c] := by rw [hS]; rfl
  rw [hcs] at HC1
  obtain ⟨W, hW, B0, D0⟩ := box1 w [.bool on, .int .i64 pt, .int .i64 st, .int .i64 tt, .int .i64 b, .int .i64 r, .int .i64 m, .slice a n c] 78
  have HB0 := hide B0
  have HD := hide D0
  have HWD := hide hW
  have HS := hide hS
  have HP := hide (hP.below D0)
  have hPn := hP.size
  have H1 := hide (ofRecv_any on pt st tt b r m a n c)
  obtain ⟨R, hR⟩ : ∃ R, rgood on S P = R := ⟨_, rfl⟩
  rw [hR]
  have HRR := hide hR
  clear B0 D0 hW hS hP hz hcs hR
  go_enter Tryd.func55, Tryd.ntmps55
  go_upto_region 1 with fail
  have hW := HWD.out
  clear HWD
  simp only [hW]
  clear hW
  have g0 := HB0.out.cell 0 rfl
  have g1 := HB0.out.cell 1 rfl
  have g2 := HB0.out.cell 2 rfl
  have g3 := HB0.out.cell 3 rfl
  have g4 := HB0.out.cell 4 rfl
  have g5 := HB0.out.cell 5 rfl
  have g6 := HB0.out.cell 6 rfl
  have g7 := HB0.out.cell 7 rfl
  cases on with
  | true =>
    have HR : Hid (R = (goodB S P && anyF P)) := by rw [← HRR.out]; rfl
    clear HRR
    go_upto_region 3 with fail
    go_wp2_with fail
    refine Calls.mono (HC1.out W HP.out) ?_
    rintro e w1 ⟨rfl, b1⟩
    replace HB0 := hide (HB0.out.below b1)
    replace HD := hide (chain HD.out b1)
    replace HP := hide (HP.out.below b1)
    clear b1 HC1 g0 g1 g2 g3 g4 g5 g6 g7
    cases hg : goodB S P with
    | false =>
      rw [hg] at HR
      go_wp2
      go_ret
      exact ⟨ret_b (by rw [HR.out]; rfl), HD.out⟩
    | true =>
      obtain ⟨-, -, t1, h32, hpl, -⟩ := goodB_open hg
      rw [HS.out] at t1 h32 hpl
      simp only at t1 h32 hpl
      have HCF := hide (fun (w' : World) (h : Txs w' a n c P) => containsF_tx a n c P h (by omega))
      clear t1 h32 hpl
      have g7 := HB0.out.cell 7 rfl
      go_wp2_with fail
      refine Calls.mono (HCF.out _ HP.out) ?_
      rintro e w2 ⟨rfl, rfl⟩
      rw [hg] at HR
      go_wp2
      go_ret
      exact ⟨ret_b (by rw [HR.out]; rfl), HD.out⟩
  | false =>
    have HR : Hid (R = (zeroB S && decide (n = 0))) := by rw [← HRR.out, ← hPn]; rfl
    clear HRR
    have HZB : Hid (zeroB S = (pt == 0 && (b == 0 && r == 0 && m == 0) && st == 0 && tt == 0)) := by rw [HS.out]; rfl
    have HQ := hide (fun (w' : World) => tr_eql (p := 0) (b := 0) (r := 0) (m := 0) (s := 0) (t := 0) (p2 := pt) (b2 := b) (r2 := r) (m2 := m) (s2 := st) (t2 := tt) w')
    rw [← HZB.out] at HQ
    clear HZB
    go_upto_region 2 with fail
    go_wp2_with fail
    refine Calls.mono (H1.out W) ?_
    rintro e w1 ⟨rfl, b1⟩
    replace HB0 := hide (HB0.out.below b1)
    replace HD := hide (chain HD.out b1)
    clear b1 g0 g1 g2 g3 g4 g5 g6 g7 H1
    have g7 := HB0.out.cell 7 rfl
    cases hzb : zeroB S with
    | false =>
      rw [hzb] at HQ HR
      have hq := HQ.out
      go_wp2
      go_ret
      exact ⟨ret_b (by rw [HR.out]; rfl), HD.out⟩
    | true =>
      rw [hzb] at HQ HR
      have hq := HQ.out
      by_cases hn : n = 0
      · have hn2 : ((n : Int) == 0) = true := by simp; omega
        go_wp2
        go_ret
        exact ⟨ret_b (by rw [HR.out]; simp [hn]), HD.out⟩
      · have hn2 : ((n : Int) == 0) = false := by simp; omega
        go_wp2
        go_ret
        exact ⟨ret_b (by rw [HR.out]; simp [hn]), HD.out⟩
end Go.Proofs.YtnopclacchoijaaDoor
