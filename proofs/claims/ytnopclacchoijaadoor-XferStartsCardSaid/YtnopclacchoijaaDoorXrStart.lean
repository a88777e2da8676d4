/-
  The document's Start.
-/
import Derived.Test.YtnopclacchoijaaDoorXrCut
namespace Go.Proofs.YtnopclacchoijaaDoor
open Go.RowKit FerryCrc
set_option linter.unusedVariables false
set_option linter.unusedSimpArgs false

set_option maxRecDepth 100000 in
set_option maxHeartbeats 4000000 in
theorem rstart_any (pt b r m st : Int) (a : Option Addr) (n c : Nat) (L : List Nat) {w : World} (hs : Bts w a n c L) :
    Calls Tryd.prog 25 #[.int .i64 pt, .agg #[.int .i64 b, .int .i64 r, .int .i64 m], .int .i64 st, .slice a n c] w fun e w' => ∃ v, e = .returned (.tuple #[.agg ((startS pt b r m st L).cells v).toArray, .int .i64 (cutE pt b r m st n : Int)]) ∧ FlOwn w' w.heap.size v (startA pt b r m st L) ∧ Below w.heap.size w w' := by
  have hl := hs.size
  obtain ⟨k, hk⟩ : ∃ k, cutE pt b r m st n = k := ⟨_, rfl⟩
  have HK := hide hk
  have HC1 := hide (fun (w' : World) (h : Bts w' a n c L) => rcut_any pt b r m st a n c L h)
  rw [hk] at HC1 ⊢
  obtain ⟨W, hW, B0, B1, D2⟩ := box2 w [.int .i64 b, .int .i64 r, .int .i64 m] 23 [.int .i64 0, .int .i64 0, .int .i64 0, .int .i64 0, .int .i64 0, .string ⟨#[]⟩, .slice none 0 0, .int .i64 0] 26
  obtain ⟨q, hq⟩ : ∃ q, w.heap.size + 1 = q := ⟨_, rfl⟩
  have HQ0 : Hid (w.heap.size < q) := by unfold Hid; omega
  rw [hq] at B1
  have HB0 := hide B0
  have HB1 := hide B1
  have HD := hide D2
  have HWD := hide hW
  have HQQ := hide hq
  have HS := hide (hs.below D2)
  clear B0 B1 D2 hW hs hk hq
  go_enter Tryd.func25, Tryd.ntmps25
  go_upto_region 1 with fail
  have hW := HWD.out
  have hq := HQQ.out
  clear HWD HQQ
  simp only [hW, hq]
  clear hW hq
  have x0 := HB0.out.cell 0 rfl
  have x1 := HB0.out.cell 1 rfl
  have x2 := HB0.out.cell 2 rfl
  go_wp2_with fail
  refine Calls.mono (HC1.out W HS.out) ?_
  rintro e w1 ⟨v, rfl, o1, b1⟩
  have HO := hide o1
  replace HB0 := hide (HB0.out.below b1)
  replace HB1 := hide (HB1.out.below b1)
  replace HD := hide (chain HD.out b1)
  replace HS := hide (HS.out.below b1)
  clear b1 o1 HC1 x0 x1 x2
  by_cases hk0 : k = 0
  · subst hk0
    have h0 : cutE pt b r m st L.length = 0 := by rw [hl]; exact HK.out
    have HV : Hid (startS pt b r m st L = ⟨pt, b, r, m, st, str L, 0⟩ ∧ startA pt b r m st L = List.replicate (tot L) false) := ⟨if_pos h0, if_pos h0⟩
    have HT := hide (cutL_len h0)
    have hn4 := (cutE_ok h0).2
    obtain ⟨t, ht⟩ : ∃ t, tot L = t := ⟨_, rfl⟩
    have ht32 : t ≤ 32 := by rw [← ht]; unfold tot; omega
    obtain ⟨av, cv, rfl, -⟩ := HO.out.rcs
    rw [HT.out, ht]
    obtain ⟨w2, hrun, o2, b2⟩ := made_recs (f := bvl) (sz := 1) bvl1 (by decide) false Tryd.underlying24 infoFl w1.drew t (by omega) (by omega)
    have B2 := (HB1.out.below (Below.refl _ _).drew).below b2
    have D2 := chain HD.out.drew b2
    have c0 := HB0.out.cell 0 rfl
    have c1 := HB0.out.cell 1 rfl
    have c2 := HB0.out.cell 2 rfl
    have B02 := (HB0.out.below (Below.refl _ _).drew).below b2
    have c0' := B02.cell 0 rfl
    have c1' := B02.cell 1 rfl
    have c2' := B02.cell 2 rfl
    have hcv := bts_string (HS.out.below (Below.refl _ _).drew)
    have hcv' := bts_string ((HS.out.below (Below.refl _ _).drew).below b2)
    have f0 := B2.frozen 0
    have f1 := B2.frozen 1
    have f2 := B2.frozen 2
    have f3 := B2.frozen 3
    have f4 := B2.frozen 4
    have f5 := B2.frozen 5
    have f6 := B2.frozen 6
    have f7 := B2.frozen 7
    have g0 := B2.cell 0 rfl
    have g1 := B2.cell 1 rfl
    have g2 := B2.cell 2 rfl
    have g3 := B2.cell 3 rfl
    have g4 := B2.cell 4 rfl
    have g5 := B2.cell 5 rfl
    have g6 := B2.cell 6 rfl
    have g7 := B2.cell 7 rfl
    have HO2 := hide o2
    have HB2 := hide B2
    have HD2 := hide D2
    have HTT := hide ht
    clear o2 B2 B02 b2 D2 h0 ht
    go_upto_region 4 with fail
    go_region
    have hge : w.heap.size ≤ q := Nat.le_of_lt HQ0.out
    have hne : (Value.slice (some ⟨w1.heap.size, 0, none⟩) t t).ownBlock ≠ some q := by
      have h1 := HB1.out.lt
      intro h2
      have h3 : w1.heap.size = q := by simpa [Value.ownBlock] using h2
      omega
    have Q1 := hide (HB2.out.sets [.int .i64 pt, .int .i64 b, .int .i64 r, .int .i64 m, .int .i64 st, .string (str L), .slice (some ⟨w1.heap.size, 0, none⟩) t t, .int .i64 0] rfl)
    have Q2 := hide (LOwn.fars hne [.int .i64 pt, .int .i64 b, .int .i64 r, .int .i64 m, .int .i64 st, .string (str L), .slice (some ⟨w1.heap.size, 0, none⟩) t t, .int .i64 0] 0 HO2.out)
    have Q3 := hide (below_sets hge [.int .i64 pt, .int .i64 b, .int .i64 r, .int .i64 m, .int .i64 st, .string (str L), .slice (some ⟨w1.heap.size, 0, none⟩) t t, .int .i64 0] 0 HD2.out)
    clear hge hne
    go_wp2
    obtain ⟨W9, hW9⟩ : ∃ W9, ((((((((w2.setCell ⟨q, 0, none⟩ (.int .i64 pt)).setCell ⟨q, 1, none⟩ (.int .i64 b)).setCell ⟨q, 2, none⟩ (.int .i64 r)).setCell ⟨q, 3, none⟩ (.int .i64 m)).setCell ⟨q, 4, none⟩ (.int .i64 st)).setCell ⟨q, 5, none⟩ (.string (str L))).setCell ⟨q, 6, none⟩ (.slice (some ⟨w1.heap.size, 0, none⟩) t t)).setCell ⟨q, 7, none⟩ (.int .i64 0)) = W9 := ⟨_, rfl⟩
    simp only [hW9]
    rw [show w2.setCells q 0 [.int .i64 pt, .int .i64 b, .int .i64 r, .int .i64 m, .int .i64 st, .string (str L), .slice (some ⟨w1.heap.size, 0, none⟩) t t, .int .i64 0] = W9 from hW9] at Q1 Q2 Q3
    clear hW9
    have e0 := Q1.out.cell 0 rfl
    have e1 := Q1.out.cell 1 rfl
    have e2 := Q1.out.cell 2 rfl
    have e3 := Q1.out.cell 3 rfl
    have e4 := Q1.out.cell 4 rfl
    have e5 := Q1.out.cell 5 rfl
    have e6 := Q1.out.cell 6 rfl
    have e7 := Q1.out.cell 7 rfl
    refine bodyPost_ret (v := .tuple #[.agg #[.int .i64 pt, .int .i64 b, .int .i64 r, .int .i64 m, .int .i64 st, .string (str L), .slice (some ⟨w1.heap.size, 0, none⟩) t t, .int .i64 0], .int .i64 0]) (by simp [results, Tryd.results25, go_sem, e0, e1, e2, e3, e4, e5, e6, e7]) rfl ?_
    exact ⟨.slice (some ⟨w1.heap.size, 0, none⟩) t t, by rw [HV.out.1]; rfl, by rw [HV.out.2, HTT.out]; exact Q2.out.weaken HD.out.size, Q3.out⟩
  · have HV : Hid (startS pt b r m st L = zSd ∧ startA pt b r m st L = []) := by
      have h1 : ¬ cutE pt b r m st L.length = 0 := by rw [hl, HK.out]; exact hk0
      exact ⟨if_neg h1, if_neg h1⟩
    have hkz : (((k : Nat) : Int) == 0) = false := by simp; omega
    have hkz2 : (((k : Nat) : Int) != 0) = true := by simp; omega
    have hge : w.heap.size ≤ q := Nat.le_of_lt HQ0.out
    have B2 := hide (HB1.out.sets [.int .i64 0, .int .i64 0, .int .i64 0, .int .i64 0, .int .i64 0, .string ⟨#[]⟩, .slice none 0 0, .int .i64 0] rfl)
    have D2 := hide (below_sets hge [.int .i64 0, .int .i64 0, .int .i64 0, .int .i64 0, .int .i64 0, .string ⟨#[]⟩, .slice none 0 0, .int .i64 0] 0 HD.out)
    clear hge hk0
    have f0 := HB1.out.frozen 0
    have f1 := HB1.out.frozen 1
    have f2 := HB1.out.frozen 2
    have f3 := HB1.out.frozen 3
    have f4 := HB1.out.frozen 4
    have f5 := HB1.out.frozen 5
    have f6 := HB1.out.frozen 6
    have f7 := HB1.out.frozen 7
    have g0 := HB1.out.cell 0 rfl
    have g1 := HB1.out.cell 1 rfl
    have g2 := HB1.out.cell 2 rfl
    have g3 := HB1.out.cell 3 rfl
    have g4 := HB1.out.cell 4 rfl
    have g5 := HB1.out.cell 5 rfl
    have g6 := HB1.out.cell 6 rfl
    have g7 := HB1.out.cell 7 rfl
    go_wp2
    obtain ⟨W9, hW9⟩ : ∃ W9, ((((((((w1.setCell ⟨q, 0, none⟩ (.int .i64 0)).setCell ⟨q, 1, none⟩ (.int .i64 0)).setCell ⟨q, 2, none⟩ (.int .i64 0)).setCell ⟨q, 3, none⟩ (.int .i64 0)).setCell ⟨q, 4, none⟩ (.int .i64 0)).setCell ⟨q, 5, none⟩ (.string ⟨#[]⟩)).setCell ⟨q, 6, none⟩ (.slice none 0 0)).setCell ⟨q, 7, none⟩ (.int .i64 0)) = W9 := ⟨_, rfl⟩
    simp only [hW9]
    rw [show w1.setCells q 0 [.int .i64 0, .int .i64 0, .int .i64 0, .int .i64 0, .int .i64 0, .string ⟨#[]⟩, .slice none 0 0, .int .i64 0] = W9 from hW9] at B2 D2
    clear hW9
    have e0 := B2.out.cell 0 rfl
    have e1 := B2.out.cell 1 rfl
    have e2 := B2.out.cell 2 rfl
    have e3 := B2.out.cell 3 rfl
    have e4 := B2.out.cell 4 rfl
    have e5 := B2.out.cell 5 rfl
    have e6 := B2.out.cell 6 rfl
    have e7 := B2.out.cell 7 rfl
    refine bodyPost_ret (v := .tuple #[.agg #[.int .i64 0, .int .i64 0, .int .i64 0, .int .i64 0, .int .i64 0, .string ⟨#[]⟩, .slice none 0 0, .int .i64 0], .int .i64 (k : Int)]) (by simp [results, Tryd.results25, go_sem, e0, e1, e2, e3, e4, e5, e6, e7]) rfl ?_
    exact ⟨.slice none 0 0, by rw [HV.out.1]; rfl, by rw [HV.out.2]; exact World.ownsRow_nil _ _ _ _, D2.out⟩
end Go.Proofs.YtnopclacchoijaaDoor
