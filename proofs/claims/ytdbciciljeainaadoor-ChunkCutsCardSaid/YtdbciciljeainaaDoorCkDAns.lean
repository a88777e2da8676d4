/-
  The document's Answer, of any kind.
-/
import Derived.Test.YtdbciciljeainaaDoorCkAns
import Derived.Test.YtdbciciljeainaaDoorXrChk
namespace Go.Proofs.YtdbciciljeainaaDoor
open Go.RowKit FerryCrc
set_option linter.unusedVariables false
set_option linter.unusedSimpArgs false

set_option maxRecDepth 100000 in
set_option maxHeartbeats 4000000 in
theorem ranswer2_any (k pt b r m st ix tt sm : Int) (d : ByteArray) (kd su : Int) {w : World} {E : Nat → Addr} (hd : d.size ≤ 9223372036854775807) (h1 : -9223372036854775808 ≤ tt) (h2 : tt ≤ 9223372036854775807) :
    Calls Tryd.prog 18 #[.agg #[.int .i64 k, .int .i64 pt, .int .i64 b, .int .i64 r, .int .i64 m, .int .i64 st, .int .i64 ix, .int .i64 tt, .int .u32 sm, .string d], .int .i64 kd, .int .u32 su] w fun e w' => e = .returned (.tuple #[.agg (ansN2 ⟨k, pt, b, r, m, st, ix, tt, sm, d⟩ kd su).cells.toArray, .int .i64 (ansE2 ⟨k, pt, b, r, m, st, ix, tt, sm, d⟩ kd su : Int)]) ∧ Below w.heap.size w w' := by
  have HC1 := hide (fun (w' : World) => rcheck_any k pt b r m st ix tt sm d w' hd h1 h2)
  obtain ⟨XE, hXE⟩ : ∃ x, ansE2 ⟨k, pt, b, r, m, st, ix, tt, sm, d⟩ kd su = x := ⟨_, rfl⟩
  obtain ⟨XN, hXN⟩ : ∃ x, ansN2 ⟨k, pt, b, r, m, st, ix, tt, sm, d⟩ kd su = x := ⟨_, rfl⟩
  obtain ⟨R, hR⟩ : ∃ x, chk ⟨k, pt, b, r, m, st, ix, tt, sm, d⟩ = x := ⟨_, rfl⟩
  have HST : Hid (R = 0 → k = 4 → st = 0) := fun h hk => by rw [← hR] at h; exact stage4 h hk
  have HXE : Hid (XE = if R = 0 then (if kd = 7 ∨ kd = 2 ∨ kd = 3 ∨ kd = 5 then (if k = (if kd = 5 then 4 else 1) ∧ (su = 0 ∨ kd = 2) then 0 else 12) else 7) else R) := by rw [← hXE, ← hR]; rfl
  have HXN : Hid (XN = if XE = 0 then ⟨kd, pt, b, r, m, st, if kd = 7 then ix else 0, if kd = 7 then tt else 0, su, ⟨#[]⟩⟩ else gNt) := by rw [← hXN, ← hXE]; rfl
  rw [hXE, hXN]
  rw [hR] at HC1
  clear hXE hXN hR
  obtain ⟨W, hW, B0, B2, D0⟩ := box2 w [.int .i64 k, .int .i64 pt, .int .i64 b, .int .i64 r, .int .i64 m, .int .i64 st, .int .i64 ix, .int .i64 tt, .int .u32 sm, .string d] 26 [.int .i64 0, .int .i64 0, .int .i64 0, .int .i64 0, .int .i64 0, .int .i64 0, .int .i64 0, .int .i64 0, .int .u32 0, .string ⟨#[]⟩] 26
  obtain ⟨q, hq⟩ : ∃ q, w.heap.size + 1 = q := ⟨_, rfl⟩
  have HQ0 : Hid (w.heap.size ≤ q) := by unfold Hid; omega
  rw [hq] at B2
  have HB0 := hide B0
  have HB2 := hide B2
  have HD := hide D0
  have HWD := hide hW


  have HQQ := hide hq
  clear B0 B2 D0 hW  h1 h2 hd hq
  go_enter Tryd.func18, Tryd.ntmps18
  go_upto_region 1 with fail
  have hW := HWD.out
  have hq := HQQ.out
  clear HWD HQQ
  simp only [hW, hq]
  clear hW hq
  have g0 := HB0.out.cell 0 rfl
  have g1 := HB0.out.cell 1 rfl
  have g2 := HB0.out.cell 2 rfl
  have g3 := HB0.out.cell 3 rfl
  have g4 := HB0.out.cell 4 rfl
  have g5 := HB0.out.cell 5 rfl
  have g6 := HB0.out.cell 6 rfl
  have g7 := HB0.out.cell 7 rfl
  have g8 := HB0.out.cell 8 rfl
  have g9 := HB0.out.cell 9 rfl
  go_wp2_with fail
  refine Calls.mono (HC1.out W) ?_
  rintro e w1 ⟨rfl, b1⟩
  replace HB0 := hide (HB0.out.below b1)
  replace HB2 := hide (HB2.out.below b1)
  replace HD := hide (chain HD.out b1)

  clear b1 HC1 g0 g1 g2 g3 g4 g5 g6 g7 g8 g9
  by_cases hc : R = 0
  rotate_left
  · have HF : Hid (XE = R) := by have hx := HXE.out; rw [if_neg hc] at hx; exact hx
    have HN0 : Hid (XN = gNt) := by rw [HXN.out, HF.out]; exact if_neg hc
    have d1 : ((R : Int) != 0) = true := by simp; omega
    have d2 : (R != 0) = true := by simp; omega
    go_upto_region 3 with fail
    have g0 := HB2.out.cell 0 rfl
    have g1 := HB2.out.cell 1 rfl
    have g2 := HB2.out.cell 2 rfl
    have g3 := HB2.out.cell 3 rfl
    have g4 := HB2.out.cell 4 rfl
    have g5 := HB2.out.cell 5 rfl
    have g6 := HB2.out.cell 6 rfl
    have g7 := HB2.out.cell 7 rfl
    have g8 := HB2.out.cell 8 rfl
    have g9 := HB2.out.cell 9 rfl
    have f0 := HB2.out.frozen 0
    have f1 := HB2.out.frozen 1
    have f2 := HB2.out.frozen 2
    have f3 := HB2.out.frozen 3
    have f4 := HB2.out.frozen 4
    have f5 := HB2.out.frozen 5
    have f6 := HB2.out.frozen 6
    have f7 := HB2.out.frozen 7
    have f8 := HB2.out.frozen 8
    have f9 := HB2.out.frozen 9
    have Q1 := hide (HB2.out.sets [.int .i64 0, .int .i64 0, .int .i64 0, .int .i64 0, .int .i64 0, .int .i64 0, .int .i64 0, .int .i64 0, .int .u32 0, .string ⟨#[]⟩] rfl)
    have Q3 := hide (below_sets HQ0.out [.int .i64 0, .int .i64 0, .int .i64 0, .int .i64 0, .int .i64 0, .int .i64 0, .int .i64 0, .int .i64 0, .int .u32 0, .string ⟨#[]⟩] 0 HD.out)
    go_wp2
    obtain ⟨W9, hW9⟩ : ∃ W9, ((((((((((w1.setCell ⟨q, 0, none⟩ (.int .i64 0)).setCell ⟨q, 1, none⟩ (.int .i64 0)).setCell ⟨q, 2, none⟩ (.int .i64 0)).setCell ⟨q, 3, none⟩ (.int .i64 0)).setCell ⟨q, 4, none⟩ (.int .i64 0)).setCell ⟨q, 5, none⟩ (.int .i64 0)).setCell ⟨q, 6, none⟩ (.int .i64 0)).setCell ⟨q, 7, none⟩ (.int .i64 0)).setCell ⟨q, 8, none⟩ (.int .u32 0)).setCell ⟨q, 9, none⟩ (.string ⟨#[]⟩)) = W9 := ⟨_, rfl⟩
    simp only [hW9]
    rw [show World.setCells w1 q 0 [.int .i64 0, .int .i64 0, .int .i64 0, .int .i64 0, .int .i64 0, .int .i64 0, .int .i64 0, .int .i64 0, .int .u32 0, .string ⟨#[]⟩] = W9 from hW9] at Q1 Q3
    clear hW9
    have e0 := Q1.out.cell 0 rfl
    have e1 := Q1.out.cell 1 rfl
    have e2 := Q1.out.cell 2 rfl
    have e3 := Q1.out.cell 3 rfl
    have e4 := Q1.out.cell 4 rfl
    have e5 := Q1.out.cell 5 rfl
    have e6 := Q1.out.cell 6 rfl
    have e7 := Q1.out.cell 7 rfl
    have e8 := Q1.out.cell 8 rfl
    have e9 := Q1.out.cell 9 rfl
    refine bodyPost_ret (v := .tuple #[.agg #[.int .i64 0, .int .i64 0, .int .i64 0, .int .i64 0, .int .i64 0, .int .i64 0, .int .i64 0, .int .i64 0, .int .u32 0, .string ⟨#[]⟩], .int .i64 (R : Int)]) (by simp [results, Tryd.results18, go_sem, e0, e1, e2, e3, e4, e5, e6, e7, e8, e9]) rfl ?_
    exact ⟨by rw [HF.out, HN0.out]; rfl, Q3.out⟩
  subst hc

  replace HXE : Hid (XE = if kd = 7 ∨ kd = 2 ∨ kd = 3 ∨ kd = 5 then (if k = (if kd = 5 then 4 else 1) ∧ (su = 0 ∨ kd = 2) then 0 else 12) else 7) := HXE
  have t0 := HB0.out.cell 0 rfl
  rcases (by omega : kd = 7 ∨ kd = 2 ∨ kd = 3 ∨ kd = 5 ∨ (¬ kd = 7 ∧ ¬ kd = 2 ∧ ¬ kd = 3 ∧ ¬ kd = 5)) with rfl | rfl | rfl | rfl | ⟨n7, n2, n3, n5⟩
  · by_cases hk : k = 1
    rotate_left
    · have d1 : (k != 1) = true := by simp; omega
      go_upto_region 7 with fail
      have HF : Hid (XE = 12) := by
        have hx := HXE.out
        simp [hk] at hx; exact hx
      have HN0 : Hid (XN = gNt) := by
        rw [HXN.out, HF.out]
        exact if_neg (by decide)
      have g0 := HB2.out.cell 0 rfl
      have g1 := HB2.out.cell 1 rfl
      have g2 := HB2.out.cell 2 rfl
      have g3 := HB2.out.cell 3 rfl
      have g4 := HB2.out.cell 4 rfl
      have g5 := HB2.out.cell 5 rfl
      have g6 := HB2.out.cell 6 rfl
      have g7 := HB2.out.cell 7 rfl
      have g8 := HB2.out.cell 8 rfl
      have g9 := HB2.out.cell 9 rfl
      have f0 := HB2.out.frozen 0
      have f1 := HB2.out.frozen 1
      have f2 := HB2.out.frozen 2
      have f3 := HB2.out.frozen 3
      have f4 := HB2.out.frozen 4
      have f5 := HB2.out.frozen 5
      have f6 := HB2.out.frozen 6
      have f7 := HB2.out.frozen 7
      have f8 := HB2.out.frozen 8
      have f9 := HB2.out.frozen 9
      have Q1 := hide (HB2.out.sets [.int .i64 0, .int .i64 0, .int .i64 0, .int .i64 0, .int .i64 0, .int .i64 0, .int .i64 0, .int .i64 0, .int .u32 0, .string ⟨#[]⟩] rfl)
      have Q3 := hide (below_sets HQ0.out [.int .i64 0, .int .i64 0, .int .i64 0, .int .i64 0, .int .i64 0, .int .i64 0, .int .i64 0, .int .i64 0, .int .u32 0, .string ⟨#[]⟩] 0 HD.out)
      go_wp2
      obtain ⟨W9, hW9⟩ : ∃ W9, ((((((((((w1.setCell ⟨q, 0, none⟩ (.int .i64 0)).setCell ⟨q, 1, none⟩ (.int .i64 0)).setCell ⟨q, 2, none⟩ (.int .i64 0)).setCell ⟨q, 3, none⟩ (.int .i64 0)).setCell ⟨q, 4, none⟩ (.int .i64 0)).setCell ⟨q, 5, none⟩ (.int .i64 0)).setCell ⟨q, 6, none⟩ (.int .i64 0)).setCell ⟨q, 7, none⟩ (.int .i64 0)).setCell ⟨q, 8, none⟩ (.int .u32 0)).setCell ⟨q, 9, none⟩ (.string ⟨#[]⟩)) = W9 := ⟨_, rfl⟩
      simp only [hW9]
      rw [show World.setCells w1 q 0 [.int .i64 0, .int .i64 0, .int .i64 0, .int .i64 0, .int .i64 0, .int .i64 0, .int .i64 0, .int .i64 0, .int .u32 0, .string ⟨#[]⟩] = W9 from hW9] at Q1 Q3
      clear hW9
      have e0 := Q1.out.cell 0 rfl
      have e1 := Q1.out.cell 1 rfl
      have e2 := Q1.out.cell 2 rfl
      have e3 := Q1.out.cell 3 rfl
      have e4 := Q1.out.cell 4 rfl
      have e5 := Q1.out.cell 5 rfl
      have e6 := Q1.out.cell 6 rfl
      have e7 := Q1.out.cell 7 rfl
      have e8 := Q1.out.cell 8 rfl
      have e9 := Q1.out.cell 9 rfl
      refine bodyPost_ret (v := .tuple #[.agg #[.int .i64 0, .int .i64 0, .int .i64 0, .int .i64 0, .int .i64 0, .int .i64 0, .int .i64 0, .int .i64 0, .int .u32 0, .string ⟨#[]⟩], .int .i64 12]) (by simp [results, Tryd.results18, go_sem, e0, e1, e2, e3, e4, e5, e6, e7, e8, e9]) rfl ?_
      exact ⟨by rw [HF.out, HN0.out]; rfl, Q3.out⟩
    subst hk
    clear t0
    have t0 := HB0.out.cell 0 rfl
    by_cases hs : su = 0
    · subst hs
      have HF : Hid (XE = 0) := by
        have hx := HXE.out
        unfold Hid
        simpa using hx
      have HN0 : Hid (XN = ⟨7, pt, b, r, m, st, ix, tt, 0, ⟨#[]⟩⟩) := by
        unfold Hid
        rw [HXN.out, HF.out]
        simp
      have c0 := HB0.out.cell 0 rfl
      have c1 := HB0.out.cell 1 rfl
      have c2 := HB0.out.cell 2 rfl
      have c3 := HB0.out.cell 3 rfl
      have c4 := HB0.out.cell 4 rfl
      have c5 := HB0.out.cell 5 rfl
      have c6 := HB0.out.cell 6 rfl
      have c7 := HB0.out.cell 7 rfl
      go_upto_region 8 with fail
      obtain ⟨W3, hW3, B3, D3⟩ := box1 w1 [.int .i64 7, .int .i64 pt, .int .i64 b, .int .i64 r, .int .i64 m, .int .i64 0, .int .i64 0, .int .i64 0, .int .u32 0, .string ⟨#[]⟩] 26
      obtain ⟨p, hp⟩ : ∃ p, w1.heap.size = p := ⟨_, rfl⟩
      rw [hp] at B3
      have HB3 := hide B3
      have HW3 := hide hW3
      have HPP := hide hp
      have HNG : Hid (q ≠ p ∧ w.heap.size ≠ p ∧ w.heap.size ≤ p) := by have h1 := HB2.out.lt; have h2 := HB0.out.lt; exact ⟨by omega, by omega, by omega⟩
      replace HB0 := hide (HB0.out.below D3)
      replace HB2 := hide (HB2.out.below D3)
      replace HD := hide (chain HD.out D3)
      clear B3 D3 hW3 hp
      go_upto_region 9 with fail
      have hW3 := HW3.out
      have hp := HPP.out
      simp only [hW3, hp]
      clear HW3 HPP hW3 hp c0 c1 c2 c3 c4 c5 c6 c7
      go_upto_region 10 with fail
      have s5 := HB0.out.cell 5 rfl
      have g5 := HB3.out.cell 5 rfl
      have f5 := HB3.out.frozen 5
      go_upto_region 11 with fail
      replace HB3 := hide (HB3.out.set 5 (.int .i64 st))
      replace HB2 := hide (HB2.out.other ⟨p, 5, none⟩ (.int .i64 st) HNG.out.1)
      replace HB0 := hide (HB0.out.other ⟨p, 5, none⟩ (.int .i64 st) HNG.out.2.1)
      replace HD := hide (HD.out.setCell (p := ⟨p, 5, none⟩) HNG.out.2.2 (.int .i64 st))
      obtain ⟨W4, hW4⟩ : ∃ W4, W3.setCell ⟨p, 5, none⟩ (.int .i64 st) = W4 := ⟨_, rfl⟩
      rw [hW4] at HB3 HB2 HB0 HD
      simp only [hW4]
      replace HB3 : Hid (Bk W4 p [.int .i64 7, .int .i64 pt, .int .i64 b, .int .i64 r, .int .i64 m, .int .i64 st, .int .i64 0, .int .i64 0, .int .u32 0, .string ⟨#[]⟩] 26) := HB3
      clear hW4 s5 g5 f5
      go_upto_region 12 with fail
      have g6 := HB0.out.cell 6 rfl
      have g7 := HB0.out.cell 7 rfl
      have c6 := HB3.out.cell 6 rfl
      have c7 := HB3.out.cell 7 rfl
      have z6 := HB3.out.frozen 6
      have z7 := HB3.out.frozen 7
      have K3 := hide ((HB3.out.set 6 (.int .i64 ix)).set 7 (.int .i64 tt))
      have K2 := hide ((HB2.out.other ⟨p, 6, none⟩ (.int .i64 ix) HNG.out.1).other ⟨p, 7, none⟩ (.int .i64 tt) HNG.out.1)
      have KD := hide ((HD.out.setCell (p := ⟨p, 6, none⟩) HNG.out.2.2 (.int .i64 ix)).setCell (p := ⟨p, 7, none⟩) HNG.out.2.2 (.int .i64 tt))
      obtain ⟨-, n2, n3⟩ := HNG.out
      go_region
      go_upto_region 13 with fail
      obtain ⟨W5, hW5⟩ : ∃ W5, (W4.setCell ⟨p, 6, none⟩ (.int .i64 ix)).setCell ⟨p, 7, none⟩ (.int .i64 tt) = W5 := ⟨_, rfl⟩
      rw [hW5] at K3 K2 KD
      simp only [hW5]
      clear hW5 g6 g7 c6 c7 z6 z7 HB0 HB2 HB3 HD n2 n3
      have HB3 : Hid (Bk W5.drew p [.int .i64 7, .int .i64 pt, .int .i64 b, .int .i64 r, .int .i64 m, .int .i64 st, .int .i64 ix, .int .i64 tt, .int .u32 0, .string ⟨#[]⟩] 26) := K3.out.below (Below.refl _ _).drew
      have HB2 := hide (K2.out.below (Below.refl _ _).drew)
      have HD := hide KD.out.drew
      generalize W5.drew = W6 at *
      clear K3 K2 KD
      have c0 := HB3.out.cell 0 rfl
      have c1 := HB3.out.cell 1 rfl
      have c2 := HB3.out.cell 2 rfl
      have c3 := HB3.out.cell 3 rfl
      have c4 := HB3.out.cell 4 rfl
      have c5 := HB3.out.cell 5 rfl
      have c6 := HB3.out.cell 6 rfl
      have c7 := HB3.out.cell 7 rfl
      have c8 := HB3.out.cell 8 rfl
      have c9 := HB3.out.cell 9 rfl
      have g0 := HB2.out.cell 0 rfl
      have g1 := HB2.out.cell 1 rfl
      have g2 := HB2.out.cell 2 rfl
      have g3 := HB2.out.cell 3 rfl
      have g4 := HB2.out.cell 4 rfl
      have g5 := HB2.out.cell 5 rfl
      have g6 := HB2.out.cell 6 rfl
      have g7 := HB2.out.cell 7 rfl
      have g8 := HB2.out.cell 8 rfl
      have g9 := HB2.out.cell 9 rfl
      have f0 := HB2.out.frozen 0
      have f1 := HB2.out.frozen 1
      have f2 := HB2.out.frozen 2
      have f3 := HB2.out.frozen 3
      have f4 := HB2.out.frozen 4
      have f5 := HB2.out.frozen 5
      have f6 := HB2.out.frozen 6
      have f7 := HB2.out.frozen 7
      have f8 := HB2.out.frozen 8
      have f9 := HB2.out.frozen 9
      have Q1 := hide (HB2.out.sets [.int .i64 7, .int .i64 pt, .int .i64 b, .int .i64 r, .int .i64 m, .int .i64 st, .int .i64 ix, .int .i64 tt, .int .u32 0, .string ⟨#[]⟩] rfl)
      have Q3 := hide (below_sets HQ0.out [.int .i64 7, .int .i64 pt, .int .i64 b, .int .i64 r, .int .i64 m, .int .i64 st, .int .i64 ix, .int .i64 tt, .int .u32 0, .string ⟨#[]⟩] 0 HD.out)
      go_wp2
      obtain ⟨W9, hW9⟩ : ∃ W9, ((((((((((W6.setCell ⟨q, 0, none⟩ (.int .i64 7)).setCell ⟨q, 1, none⟩ (.int .i64 pt)).setCell ⟨q, 2, none⟩ (.int .i64 b)).setCell ⟨q, 3, none⟩ (.int .i64 r)).setCell ⟨q, 4, none⟩ (.int .i64 m)).setCell ⟨q, 5, none⟩ (.int .i64 st)).setCell ⟨q, 6, none⟩ (.int .i64 ix)).setCell ⟨q, 7, none⟩ (.int .i64 tt)).setCell ⟨q, 8, none⟩ (.int .u32 0)).setCell ⟨q, 9, none⟩ (.string ⟨#[]⟩)) = W9 := ⟨_, rfl⟩
      simp only [hW9]
      rw [show World.setCells W6 q 0 [.int .i64 7, .int .i64 pt, .int .i64 b, .int .i64 r, .int .i64 m, .int .i64 st, .int .i64 ix, .int .i64 tt, .int .u32 0, .string ⟨#[]⟩] = W9 from hW9] at Q1 Q3
      clear hW9
      have e0 := Q1.out.cell 0 rfl
      have e1 := Q1.out.cell 1 rfl
      have e2 := Q1.out.cell 2 rfl
      have e3 := Q1.out.cell 3 rfl
      have e4 := Q1.out.cell 4 rfl
      have e5 := Q1.out.cell 5 rfl
      have e6 := Q1.out.cell 6 rfl
      have e7 := Q1.out.cell 7 rfl
      have e8 := Q1.out.cell 8 rfl
      have e9 := Q1.out.cell 9 rfl
      refine bodyPost_ret (v := .tuple #[.agg #[.int .i64 7, .int .i64 pt, .int .i64 b, .int .i64 r, .int .i64 m, .int .i64 st, .int .i64 ix, .int .i64 tt, .int .u32 0, .string ⟨#[]⟩], .int .i64 0]) (by simp [results, Tryd.results18, go_sem, e0, e1, e2, e3, e4, e5, e6, e7, e8, e9]) rfl ?_
      exact ⟨by rw [HF.out, HN0.out]; rfl, Q3.out⟩
    · have d1 : (su != 0) = true := by simp; omega
      go_upto_region 7 with fail
      have HF : Hid (XE = 12) := by
        have hx := HXE.out
        simp [hs] at hx; exact hx
      have HN0 : Hid (XN = gNt) := by
        rw [HXN.out, HF.out]
        exact if_neg (by decide)
      have g0 := HB2.out.cell 0 rfl
      have g1 := HB2.out.cell 1 rfl
      have g2 := HB2.out.cell 2 rfl
      have g3 := HB2.out.cell 3 rfl
      have g4 := HB2.out.cell 4 rfl
      have g5 := HB2.out.cell 5 rfl
      have g6 := HB2.out.cell 6 rfl
      have g7 := HB2.out.cell 7 rfl
      have g8 := HB2.out.cell 8 rfl
      have g9 := HB2.out.cell 9 rfl
      have f0 := HB2.out.frozen 0
      have f1 := HB2.out.frozen 1
      have f2 := HB2.out.frozen 2
      have f3 := HB2.out.frozen 3
      have f4 := HB2.out.frozen 4
      have f5 := HB2.out.frozen 5
      have f6 := HB2.out.frozen 6
      have f7 := HB2.out.frozen 7
      have f8 := HB2.out.frozen 8
      have f9 := HB2.out.frozen 9
      have Q1 := hide (HB2.out.sets [.int .i64 0, .int .i64 0, .int .i64 0, .int .i64 0, .int .i64 0, .int .i64 0, .int .i64 0, .int .i64 0, .int .u32 0, .string ⟨#[]⟩] rfl)
      have Q3 := hide (below_sets HQ0.out [.int .i64 0, .int .i64 0, .int .i64 0, .int .i64 0, .int .i64 0, .int .i64 0, .int .i64 0, .int .i64 0, .int .u32 0, .string ⟨#[]⟩] 0 HD.out)
      go_wp2
      obtain ⟨W9, hW9⟩ : ∃ W9, ((((((((((w1.setCell ⟨q, 0, none⟩ (.int .i64 0)).setCell ⟨q, 1, none⟩ (.int .i64 0)).setCell ⟨q, 2, none⟩ (.int .i64 0)).setCell ⟨q, 3, none⟩ (.int .i64 0)).setCell ⟨q, 4, none⟩ (.int .i64 0)).setCell ⟨q, 5, none⟩ (.int .i64 0)).setCell ⟨q, 6, none⟩ (.int .i64 0)).setCell ⟨q, 7, none⟩ (.int .i64 0)).setCell ⟨q, 8, none⟩ (.int .u32 0)).setCell ⟨q, 9, none⟩ (.string ⟨#[]⟩)) = W9 := ⟨_, rfl⟩
      simp only [hW9]
      rw [show World.setCells w1 q 0 [.int .i64 0, .int .i64 0, .int .i64 0, .int .i64 0, .int .i64 0, .int .i64 0, .int .i64 0, .int .i64 0, .int .u32 0, .string ⟨#[]⟩] = W9 from hW9] at Q1 Q3
      clear hW9
      have e0 := Q1.out.cell 0 rfl
      have e1 := Q1.out.cell 1 rfl
      have e2 := Q1.out.cell 2 rfl
      have e3 := Q1.out.cell 3 rfl
      have e4 := Q1.out.cell 4 rfl
      have e5 := Q1.out.cell 5 rfl
      have e6 := Q1.out.cell 6 rfl
      have e7 := Q1.out.cell 7 rfl
      have e8 := Q1.out.cell 8 rfl
      have e9 := Q1.out.cell 9 rfl
      refine bodyPost_ret (v := .tuple #[.agg #[.int .i64 0, .int .i64 0, .int .i64 0, .int .i64 0, .int .i64 0, .int .i64 0, .int .i64 0, .int .i64 0, .int .u32 0, .string ⟨#[]⟩], .int .i64 12]) (by simp [results, Tryd.results18, go_sem, e0, e1, e2, e3, e4, e5, e6, e7, e8, e9]) rfl ?_
      exact ⟨by rw [HF.out, HN0.out]; rfl, Q3.out⟩
  · by_cases hk : k = 1
    rotate_left
    · have d1 : (k != 1) = true := by simp; omega
      go_upto_region 7 with fail
      have HF : Hid (XE = 12) := by
        have hx := HXE.out
        simp [hk] at hx; exact hx
      have HN0 : Hid (XN = gNt) := by
        rw [HXN.out, HF.out]
        exact if_neg (by decide)
      have g0 := HB2.out.cell 0 rfl
      have g1 := HB2.out.cell 1 rfl
      have g2 := HB2.out.cell 2 rfl
      have g3 := HB2.out.cell 3 rfl
      have g4 := HB2.out.cell 4 rfl
      have g5 := HB2.out.cell 5 rfl
      have g6 := HB2.out.cell 6 rfl
      have g7 := HB2.out.cell 7 rfl
      have g8 := HB2.out.cell 8 rfl
      have g9 := HB2.out.cell 9 rfl
      have f0 := HB2.out.frozen 0
      have f1 := HB2.out.frozen 1
      have f2 := HB2.out.frozen 2
      have f3 := HB2.out.frozen 3
      have f4 := HB2.out.frozen 4
      have f5 := HB2.out.frozen 5
      have f6 := HB2.out.frozen 6
      have f7 := HB2.out.frozen 7
      have f8 := HB2.out.frozen 8
      have f9 := HB2.out.frozen 9
      have Q1 := hide (HB2.out.sets [.int .i64 0, .int .i64 0, .int .i64 0, .int .i64 0, .int .i64 0, .int .i64 0, .int .i64 0, .int .i64 0, .int .u32 0, .string ⟨#[]⟩] rfl)
      have Q3 := hide (below_sets HQ0.out [.int .i64 0, .int .i64 0, .int .i64 0, .int .i64 0, .int .i64 0, .int .i64 0, .int .i64 0, .int .i64 0, .int .u32 0, .string ⟨#[]⟩] 0 HD.out)
      go_wp2
      obtain ⟨W9, hW9⟩ : ∃ W9, ((((((((((w1.setCell ⟨q, 0, none⟩ (.int .i64 0)).setCell ⟨q, 1, none⟩ (.int .i64 0)).setCell ⟨q, 2, none⟩ (.int .i64 0)).setCell ⟨q, 3, none⟩ (.int .i64 0)).setCell ⟨q, 4, none⟩ (.int .i64 0)).setCell ⟨q, 5, none⟩ (.int .i64 0)).setCell ⟨q, 6, none⟩ (.int .i64 0)).setCell ⟨q, 7, none⟩ (.int .i64 0)).setCell ⟨q, 8, none⟩ (.int .u32 0)).setCell ⟨q, 9, none⟩ (.string ⟨#[]⟩)) = W9 := ⟨_, rfl⟩
      simp only [hW9]
      rw [show World.setCells w1 q 0 [.int .i64 0, .int .i64 0, .int .i64 0, .int .i64 0, .int .i64 0, .int .i64 0, .int .i64 0, .int .i64 0, .int .u32 0, .string ⟨#[]⟩] = W9 from hW9] at Q1 Q3
      clear hW9
      have e0 := Q1.out.cell 0 rfl
      have e1 := Q1.out.cell 1 rfl
      have e2 := Q1.out.cell 2 rfl
      have e3 := Q1.out.cell 3 rfl
      have e4 := Q1.out.cell 4 rfl
      have e5 := Q1.out.cell 5 rfl
      have e6 := Q1.out.cell 6 rfl
      have e7 := Q1.out.cell 7 rfl
      have e8 := Q1.out.cell 8 rfl
      have e9 := Q1.out.cell 9 rfl
      refine bodyPost_ret (v := .tuple #[.agg #[.int .i64 0, .int .i64 0, .int .i64 0, .int .i64 0, .int .i64 0, .int .i64 0, .int .i64 0, .int .i64 0, .int .u32 0, .string ⟨#[]⟩], .int .i64 12]) (by simp [results, Tryd.results18, go_sem, e0, e1, e2, e3, e4, e5, e6, e7, e8, e9]) rfl ?_
      exact ⟨by rw [HF.out, HN0.out]; rfl, Q3.out⟩
    subst hk
    clear t0
    have t0 := HB0.out.cell 0 rfl
    by_cases hs : su = 0
    · subst hs
      have HF : Hid (XE = 0) := by
        have hx := HXE.out
        unfold Hid
        simpa using hx
      have HN0 : Hid (XN = ⟨2, pt, b, r, m, st, 0, 0, 0, ⟨#[]⟩⟩) := by
        unfold Hid
        rw [HXN.out, HF.out]
        simp
      have c0 := HB0.out.cell 0 rfl
      have c1 := HB0.out.cell 1 rfl
      have c2 := HB0.out.cell 2 rfl
      have c3 := HB0.out.cell 3 rfl
      have c4 := HB0.out.cell 4 rfl
      have c5 := HB0.out.cell 5 rfl
      have c6 := HB0.out.cell 6 rfl
      have c7 := HB0.out.cell 7 rfl
      go_upto_region 8 with fail
      obtain ⟨W3, hW3, B3, D3⟩ := box1 w1 [.int .i64 2, .int .i64 pt, .int .i64 b, .int .i64 r, .int .i64 m, .int .i64 0, .int .i64 0, .int .i64 0, .int .u32 0, .string ⟨#[]⟩] 26
      obtain ⟨p, hp⟩ : ∃ p, w1.heap.size = p := ⟨_, rfl⟩
      rw [hp] at B3
      have HB3 := hide B3
      have HW3 := hide hW3
      have HPP := hide hp
      have HNG : Hid (q ≠ p ∧ w.heap.size ≠ p ∧ w.heap.size ≤ p) := by have h1 := HB2.out.lt; have h2 := HB0.out.lt; exact ⟨by omega, by omega, by omega⟩
      replace HB0 := hide (HB0.out.below D3)
      replace HB2 := hide (HB2.out.below D3)
      replace HD := hide (chain HD.out D3)
      clear B3 D3 hW3 hp
      go_upto_region 9 with fail
      have hW3 := HW3.out
      have hp := HPP.out
      simp only [hW3, hp]
      clear HW3 HPP hW3 hp c0 c1 c2 c3 c4 c5 c6 c7
      go_upto_region 10 with fail
      have s5 := HB0.out.cell 5 rfl
      have g5 := HB3.out.cell 5 rfl
      have f5 := HB3.out.frozen 5
      go_upto_region 11 with fail
      replace HB3 := hide (HB3.out.set 5 (.int .i64 st))
      replace HB2 := hide (HB2.out.other ⟨p, 5, none⟩ (.int .i64 st) HNG.out.1)
      replace HB0 := hide (HB0.out.other ⟨p, 5, none⟩ (.int .i64 st) HNG.out.2.1)
      replace HD := hide (HD.out.setCell (p := ⟨p, 5, none⟩) HNG.out.2.2 (.int .i64 st))
      obtain ⟨W4, hW4⟩ : ∃ W4, W3.setCell ⟨p, 5, none⟩ (.int .i64 st) = W4 := ⟨_, rfl⟩
      rw [hW4] at HB3 HB2 HB0 HD
      simp only [hW4]
      replace HB3 : Hid (Bk W4 p [.int .i64 2, .int .i64 pt, .int .i64 b, .int .i64 r, .int .i64 m, .int .i64 st, .int .i64 0, .int .i64 0, .int .u32 0, .string ⟨#[]⟩] 26) := HB3
      clear hW4 s5 g5 f5
      go_upto_region 13 with fail
      have c0 := HB3.out.cell 0 rfl
      have c1 := HB3.out.cell 1 rfl
      have c2 := HB3.out.cell 2 rfl
      have c3 := HB3.out.cell 3 rfl
      have c4 := HB3.out.cell 4 rfl
      have c5 := HB3.out.cell 5 rfl
      have c6 := HB3.out.cell 6 rfl
      have c7 := HB3.out.cell 7 rfl
      have c8 := HB3.out.cell 8 rfl
      have c9 := HB3.out.cell 9 rfl
      have g0 := HB2.out.cell 0 rfl
      have g1 := HB2.out.cell 1 rfl
      have g2 := HB2.out.cell 2 rfl
      have g3 := HB2.out.cell 3 rfl
      have g4 := HB2.out.cell 4 rfl
      have g5 := HB2.out.cell 5 rfl
      have g6 := HB2.out.cell 6 rfl
      have g7 := HB2.out.cell 7 rfl
      have g8 := HB2.out.cell 8 rfl
      have g9 := HB2.out.cell 9 rfl
      have f0 := HB2.out.frozen 0
      have f1 := HB2.out.frozen 1
      have f2 := HB2.out.frozen 2
      have f3 := HB2.out.frozen 3
      have f4 := HB2.out.frozen 4
      have f5 := HB2.out.frozen 5
      have f6 := HB2.out.frozen 6
      have f7 := HB2.out.frozen 7
      have f8 := HB2.out.frozen 8
      have f9 := HB2.out.frozen 9
      have Q1 := hide (HB2.out.sets [.int .i64 2, .int .i64 pt, .int .i64 b, .int .i64 r, .int .i64 m, .int .i64 st, .int .i64 0, .int .i64 0, .int .u32 0, .string ⟨#[]⟩] rfl)
      have Q3 := hide (below_sets HQ0.out [.int .i64 2, .int .i64 pt, .int .i64 b, .int .i64 r, .int .i64 m, .int .i64 st, .int .i64 0, .int .i64 0, .int .u32 0, .string ⟨#[]⟩] 0 HD.out)
      go_wp2
      obtain ⟨W9, hW9⟩ : ∃ W9, ((((((((((W4.setCell ⟨q, 0, none⟩ (.int .i64 2)).setCell ⟨q, 1, none⟩ (.int .i64 pt)).setCell ⟨q, 2, none⟩ (.int .i64 b)).setCell ⟨q, 3, none⟩ (.int .i64 r)).setCell ⟨q, 4, none⟩ (.int .i64 m)).setCell ⟨q, 5, none⟩ (.int .i64 st)).setCell ⟨q, 6, none⟩ (.int .i64 0)).setCell ⟨q, 7, none⟩ (.int .i64 0)).setCell ⟨q, 8, none⟩ (.int .u32 0)).setCell ⟨q, 9, none⟩ (.string ⟨#[]⟩)) = W9 := ⟨_, rfl⟩
      simp only [hW9]
      rw [show World.setCells W4 q 0 [.int .i64 2, .int .i64 pt, .int .i64 b, .int .i64 r, .int .i64 m, .int .i64 st, .int .i64 0, .int .i64 0, .int .u32 0, .string ⟨#[]⟩] = W9 from hW9] at Q1 Q3
      clear hW9
      have e0 := Q1.out.cell 0 rfl
      have e1 := Q1.out.cell 1 rfl
      have e2 := Q1.out.cell 2 rfl
      have e3 := Q1.out.cell 3 rfl
      have e4 := Q1.out.cell 4 rfl
      have e5 := Q1.out.cell 5 rfl
      have e6 := Q1.out.cell 6 rfl
      have e7 := Q1.out.cell 7 rfl
      have e8 := Q1.out.cell 8 rfl
      have e9 := Q1.out.cell 9 rfl
      refine bodyPost_ret (v := .tuple #[.agg #[.int .i64 2, .int .i64 pt, .int .i64 b, .int .i64 r, .int .i64 m, .int .i64 st, .int .i64 0, .int .i64 0, .int .u32 0, .string ⟨#[]⟩], .int .i64 0]) (by simp [results, Tryd.results18, go_sem, e0, e1, e2, e3, e4, e5, e6, e7, e8, e9]) rfl ?_
      exact ⟨by rw [HF.out, HN0.out]; rfl, Q3.out⟩
    · have d1 : (su != 0) = true := by simp; omega
      have HF : Hid (XE = 0) := by
        have hx := HXE.out
        unfold Hid
        simpa using hx
      have HN0 : Hid (XN = ⟨2, pt, b, r, m, st, 0, 0, su, ⟨#[]⟩⟩) := by
        unfold Hid
        rw [HXN.out, HF.out]
        simp
      have c0 := HB0.out.cell 0 rfl
      have c1 := HB0.out.cell 1 rfl
      have c2 := HB0.out.cell 2 rfl
      have c3 := HB0.out.cell 3 rfl
      have c4 := HB0.out.cell 4 rfl
      have c5 := HB0.out.cell 5 rfl
      have c6 := HB0.out.cell 6 rfl
      have c7 := HB0.out.cell 7 rfl
      go_upto_region 8 with fail
      obtain ⟨W3, hW3, B3, D3⟩ := box1 w1 [.int .i64 2, .int .i64 pt, .int .i64 b, .int .i64 r, .int .i64 m, .int .i64 0, .int .i64 0, .int .i64 0, .int .u32 su, .string ⟨#[]⟩] 26
      obtain ⟨p, hp⟩ : ∃ p, w1.heap.size = p := ⟨_, rfl⟩
      rw [hp] at B3
      have HB3 := hide B3
      have HW3 := hide hW3
      have HPP := hide hp
      have HNG : Hid (q ≠ p ∧ w.heap.size ≠ p ∧ w.heap.size ≤ p) := by have h1 := HB2.out.lt; have h2 := HB0.out.lt; exact ⟨by omega, by omega, by omega⟩
      replace HB0 := hide (HB0.out.below D3)
      replace HB2 := hide (HB2.out.below D3)
      replace HD := hide (chain HD.out D3)
      clear B3 D3 hW3 hp
      go_upto_region 9 with fail
      have hW3 := HW3.out
      have hp := HPP.out
      simp only [hW3, hp]
      clear HW3 HPP hW3 hp c0 c1 c2 c3 c4 c5 c6 c7
      go_upto_region 10 with fail
      have s5 := HB0.out.cell 5 rfl
      have g5 := HB3.out.cell 5 rfl
      have f5 := HB3.out.frozen 5
      go_upto_region 11 with fail
      replace HB3 := hide (HB3.out.set 5 (.int .i64 st))
      replace HB2 := hide (HB2.out.other ⟨p, 5, none⟩ (.int .i64 st) HNG.out.1)
      replace HB0 := hide (HB0.out.other ⟨p, 5, none⟩ (.int .i64 st) HNG.out.2.1)
      replace HD := hide (HD.out.setCell (p := ⟨p, 5, none⟩) HNG.out.2.2 (.int .i64 st))
      obtain ⟨W4, hW4⟩ : ∃ W4, W3.setCell ⟨p, 5, none⟩ (.int .i64 st) = W4 := ⟨_, rfl⟩
      rw [hW4] at HB3 HB2 HB0 HD
      simp only [hW4]
      replace HB3 : Hid (Bk W4 p [.int .i64 2, .int .i64 pt, .int .i64 b, .int .i64 r, .int .i64 m, .int .i64 st, .int .i64 0, .int .i64 0, .int .u32 su, .string ⟨#[]⟩] 26) := HB3
      clear hW4 s5 g5 f5
      go_upto_region 13 with fail
      have c0 := HB3.out.cell 0 rfl
      have c1 := HB3.out.cell 1 rfl
      have c2 := HB3.out.cell 2 rfl
      have c3 := HB3.out.cell 3 rfl
      have c4 := HB3.out.cell 4 rfl
      have c5 := HB3.out.cell 5 rfl
      have c6 := HB3.out.cell 6 rfl
      have c7 := HB3.out.cell 7 rfl
      have c8 := HB3.out.cell 8 rfl
      have c9 := HB3.out.cell 9 rfl
      have g0 := HB2.out.cell 0 rfl
      have g1 := HB2.out.cell 1 rfl
      have g2 := HB2.out.cell 2 rfl
      have g3 := HB2.out.cell 3 rfl
      have g4 := HB2.out.cell 4 rfl
      have g5 := HB2.out.cell 5 rfl
      have g6 := HB2.out.cell 6 rfl
      have g7 := HB2.out.cell 7 rfl
      have g8 := HB2.out.cell 8 rfl
      have g9 := HB2.out.cell 9 rfl
      have f0 := HB2.out.frozen 0
      have f1 := HB2.out.frozen 1
      have f2 := HB2.out.frozen 2
      have f3 := HB2.out.frozen 3
      have f4 := HB2.out.frozen 4
      have f5 := HB2.out.frozen 5
      have f6 := HB2.out.frozen 6
      have f7 := HB2.out.frozen 7
      have f8 := HB2.out.frozen 8
      have f9 := HB2.out.frozen 9
      have Q1 := hide (HB2.out.sets [.int .i64 2, .int .i64 pt, .int .i64 b, .int .i64 r, .int .i64 m, .int .i64 st, .int .i64 0, .int .i64 0, .int .u32 su, .string ⟨#[]⟩] rfl)
      have Q3 := hide (below_sets HQ0.out [.int .i64 2, .int .i64 pt, .int .i64 b, .int .i64 r, .int .i64 m, .int .i64 st, .int .i64 0, .int .i64 0, .int .u32 su, .string ⟨#[]⟩] 0 HD.out)
      go_wp2
      obtain ⟨W9, hW9⟩ : ∃ W9, ((((((((((W4.setCell ⟨q, 0, none⟩ (.int .i64 2)).setCell ⟨q, 1, none⟩ (.int .i64 pt)).setCell ⟨q, 2, none⟩ (.int .i64 b)).setCell ⟨q, 3, none⟩ (.int .i64 r)).setCell ⟨q, 4, none⟩ (.int .i64 m)).setCell ⟨q, 5, none⟩ (.int .i64 st)).setCell ⟨q, 6, none⟩ (.int .i64 0)).setCell ⟨q, 7, none⟩ (.int .i64 0)).setCell ⟨q, 8, none⟩ (.int .u32 su)).setCell ⟨q, 9, none⟩ (.string ⟨#[]⟩)) = W9 := ⟨_, rfl⟩
      simp only [hW9]
      rw [show World.setCells W4 q 0 [.int .i64 2, .int .i64 pt, .int .i64 b, .int .i64 r, .int .i64 m, .int .i64 st, .int .i64 0, .int .i64 0, .int .u32 su, .string ⟨#[]⟩] = W9 from hW9] at Q1 Q3
      clear hW9
      have e0 := Q1.out.cell 0 rfl
      have e1 := Q1.out.cell 1 rfl
      have e2 := Q1.out.cell 2 rfl
      have e3 := Q1.out.cell 3 rfl
      have e4 := Q1.out.cell 4 rfl
      have e5 := Q1.out.cell 5 rfl
      have e6 := Q1.out.cell 6 rfl
      have e7 := Q1.out.cell 7 rfl
      have e8 := Q1.out.cell 8 rfl
      have e9 := Q1.out.cell 9 rfl
      refine bodyPost_ret (v := .tuple #[.agg #[.int .i64 2, .int .i64 pt, .int .i64 b, .int .i64 r, .int .i64 m, .int .i64 st, .int .i64 0, .int .i64 0, .int .u32 su, .string ⟨#[]⟩], .int .i64 0]) (by simp [results, Tryd.results18, go_sem, e0, e1, e2, e3, e4, e5, e6, e7, e8, e9]) rfl ?_
      exact ⟨by rw [HF.out, HN0.out]; rfl, Q3.out⟩
  · by_cases hk : k = 1
    rotate_left
    · have d1 : (k != 1) = true := by simp; omega
      go_upto_region 7 with fail
      have HF : Hid (XE = 12) := by
        have hx := HXE.out
        simp [hk] at hx; exact hx
      have HN0 : Hid (XN = gNt) := by
        rw [HXN.out, HF.out]
        exact if_neg (by decide)
      have g0 := HB2.out.cell 0 rfl
      have g1 := HB2.out.cell 1 rfl
      have g2 := HB2.out.cell 2 rfl
      have g3 := HB2.out.cell 3 rfl
      have g4 := HB2.out.cell 4 rfl
      have g5 := HB2.out.cell 5 rfl
      have g6 := HB2.out.cell 6 rfl
      have g7 := HB2.out.cell 7 rfl
      have g8 := HB2.out.cell 8 rfl
      have g9 := HB2.out.cell 9 rfl
      have f0 := HB2.out.frozen 0
      have f1 := HB2.out.frozen 1
      have f2 := HB2.out.frozen 2
      have f3 := HB2.out.frozen 3
      have f4 := HB2.out.frozen 4
      have f5 := HB2.out.frozen 5
      have f6 := HB2.out.frozen 6
      have f7 := HB2.out.frozen 7
      have f8 := HB2.out.frozen 8
      have f9 := HB2.out.frozen 9
      have Q1 := hide (HB2.out.sets [.int .i64 0, .int .i64 0, .int .i64 0, .int .i64 0, .int .i64 0, .int .i64 0, .int .i64 0, .int .i64 0, .int .u32 0, .string ⟨#[]⟩] rfl)
      have Q3 := hide (below_sets HQ0.out [.int .i64 0, .int .i64 0, .int .i64 0, .int .i64 0, .int .i64 0, .int .i64 0, .int .i64 0, .int .i64 0, .int .u32 0, .string ⟨#[]⟩] 0 HD.out)
      go_wp2
      obtain ⟨W9, hW9⟩ : ∃ W9, ((((((((((w1.setCell ⟨q, 0, none⟩ (.int .i64 0)).setCell ⟨q, 1, none⟩ (.int .i64 0)).setCell ⟨q, 2, none⟩ (.int .i64 0)).setCell ⟨q, 3, none⟩ (.int .i64 0)).setCell ⟨q, 4, none⟩ (.int .i64 0)).setCell ⟨q, 5, none⟩ (.int .i64 0)).setCell ⟨q, 6, none⟩ (.int .i64 0)).setCell ⟨q, 7, none⟩ (.int .i64 0)).setCell ⟨q, 8, none⟩ (.int .u32 0)).setCell ⟨q, 9, none⟩ (.string ⟨#[]⟩)) = W9 := ⟨_, rfl⟩
      simp only [hW9]
      rw [show World.setCells w1 q 0 [.int .i64 0, .int .i64 0, .int .i64 0, .int .i64 0, .int .i64 0, .int .i64 0, .int .i64 0, .int .i64 0, .int .u32 0, .string ⟨#[]⟩] = W9 from hW9] at Q1 Q3
      clear hW9
      have e0 := Q1.out.cell 0 rfl
      have e1 := Q1.out.cell 1 rfl
      have e2 := Q1.out.cell 2 rfl
      have e3 := Q1.out.cell 3 rfl
      have e4 := Q1.out.cell 4 rfl
      have e5 := Q1.out.cell 5 rfl
      have e6 := Q1.out.cell 6 rfl
      have e7 := Q1.out.cell 7 rfl
      have e8 := Q1.out.cell 8 rfl
      have e9 := Q1.out.cell 9 rfl
      refine bodyPost_ret (v := .tuple #[.agg #[.int .i64 0, .int .i64 0, .int .i64 0, .int .i64 0, .int .i64 0, .int .i64 0, .int .i64 0, .int .i64 0, .int .u32 0, .string ⟨#[]⟩], .int .i64 12]) (by simp [results, Tryd.results18, go_sem, e0, e1, e2, e3, e4, e5, e6, e7, e8, e9]) rfl ?_
      exact ⟨by rw [HF.out, HN0.out]; rfl, Q3.out⟩
    subst hk
    clear t0
    have t0 := HB0.out.cell 0 rfl
    by_cases hs : su = 0
    · subst hs
      have HF : Hid (XE = 0) := by
        have hx := HXE.out
        unfold Hid
        simpa using hx
      have HN0 : Hid (XN = ⟨3, pt, b, r, m, st, 0, 0, 0, ⟨#[]⟩⟩) := by
        unfold Hid
        rw [HXN.out, HF.out]
        simp
      have c0 := HB0.out.cell 0 rfl
      have c1 := HB0.out.cell 1 rfl
      have c2 := HB0.out.cell 2 rfl
      have c3 := HB0.out.cell 3 rfl
      have c4 := HB0.out.cell 4 rfl
      have c5 := HB0.out.cell 5 rfl
      have c6 := HB0.out.cell 6 rfl
      have c7 := HB0.out.cell 7 rfl
      go_upto_region 8 with fail
      obtain ⟨W3, hW3, B3, D3⟩ := box1 w1 [.int .i64 3, .int .i64 pt, .int .i64 b, .int .i64 r, .int .i64 m, .int .i64 0, .int .i64 0, .int .i64 0, .int .u32 0, .string ⟨#[]⟩] 26
      obtain ⟨p, hp⟩ : ∃ p, w1.heap.size = p := ⟨_, rfl⟩
      rw [hp] at B3
      have HB3 := hide B3
      have HW3 := hide hW3
      have HPP := hide hp
      have HNG : Hid (q ≠ p ∧ w.heap.size ≠ p ∧ w.heap.size ≤ p) := by have h1 := HB2.out.lt; have h2 := HB0.out.lt; exact ⟨by omega, by omega, by omega⟩
      replace HB0 := hide (HB0.out.below D3)
      replace HB2 := hide (HB2.out.below D3)
      replace HD := hide (chain HD.out D3)
      clear B3 D3 hW3 hp
      go_upto_region 9 with fail
      have hW3 := HW3.out
      have hp := HPP.out
      simp only [hW3, hp]
      clear HW3 HPP hW3 hp c0 c1 c2 c3 c4 c5 c6 c7
      go_upto_region 10 with fail
      have s5 := HB0.out.cell 5 rfl
      have g5 := HB3.out.cell 5 rfl
      have f5 := HB3.out.frozen 5
      go_upto_region 11 with fail
      replace HB3 := hide (HB3.out.set 5 (.int .i64 st))
      replace HB2 := hide (HB2.out.other ⟨p, 5, none⟩ (.int .i64 st) HNG.out.1)
      replace HB0 := hide (HB0.out.other ⟨p, 5, none⟩ (.int .i64 st) HNG.out.2.1)
      replace HD := hide (HD.out.setCell (p := ⟨p, 5, none⟩) HNG.out.2.2 (.int .i64 st))
      obtain ⟨W4, hW4⟩ : ∃ W4, W3.setCell ⟨p, 5, none⟩ (.int .i64 st) = W4 := ⟨_, rfl⟩
      rw [hW4] at HB3 HB2 HB0 HD
      simp only [hW4]
      replace HB3 : Hid (Bk W4 p [.int .i64 3, .int .i64 pt, .int .i64 b, .int .i64 r, .int .i64 m, .int .i64 st, .int .i64 0, .int .i64 0, .int .u32 0, .string ⟨#[]⟩] 26) := HB3
      clear hW4 s5 g5 f5
      go_upto_region 13 with fail
      have c0 := HB3.out.cell 0 rfl
      have c1 := HB3.out.cell 1 rfl
      have c2 := HB3.out.cell 2 rfl
      have c3 := HB3.out.cell 3 rfl
      have c4 := HB3.out.cell 4 rfl
      have c5 := HB3.out.cell 5 rfl
      have c6 := HB3.out.cell 6 rfl
      have c7 := HB3.out.cell 7 rfl
      have c8 := HB3.out.cell 8 rfl
      have c9 := HB3.out.cell 9 rfl
      have g0 := HB2.out.cell 0 rfl
      have g1 := HB2.out.cell 1 rfl
      have g2 := HB2.out.cell 2 rfl
      have g3 := HB2.out.cell 3 rfl
      have g4 := HB2.out.cell 4 rfl
      have g5 := HB2.out.cell 5 rfl
      have g6 := HB2.out.cell 6 rfl
      have g7 := HB2.out.cell 7 rfl
      have g8 := HB2.out.cell 8 rfl
      have g9 := HB2.out.cell 9 rfl
      have f0 := HB2.out.frozen 0
      have f1 := HB2.out.frozen 1
      have f2 := HB2.out.frozen 2
      have f3 := HB2.out.frozen 3
      have f4 := HB2.out.frozen 4
      have f5 := HB2.out.frozen 5
      have f6 := HB2.out.frozen 6
      have f7 := HB2.out.frozen 7
      have f8 := HB2.out.frozen 8
      have f9 := HB2.out.frozen 9
      have Q1 := hide (HB2.out.sets [.int .i64 3, .int .i64 pt, .int .i64 b, .int .i64 r, .int .i64 m, .int .i64 st, .int .i64 0, .int .i64 0, .int .u32 0, .string ⟨#[]⟩] rfl)
      have Q3 := hide (below_sets HQ0.out [.int .i64 3, .int .i64 pt, .int .i64 b, .int .i64 r, .int .i64 m, .int .i64 st, .int .i64 0, .int .i64 0, .int .u32 0, .string ⟨#[]⟩] 0 HD.out)
      go_wp2
      obtain ⟨W9, hW9⟩ : ∃ W9, ((((((((((W4.setCell ⟨q, 0, none⟩ (.int .i64 3)).setCell ⟨q, 1, none⟩ (.int .i64 pt)).setCell ⟨q, 2, none⟩ (.int .i64 b)).setCell ⟨q, 3, none⟩ (.int .i64 r)).setCell ⟨q, 4, none⟩ (.int .i64 m)).setCell ⟨q, 5, none⟩ (.int .i64 st)).setCell ⟨q, 6, none⟩ (.int .i64 0)).setCell ⟨q, 7, none⟩ (.int .i64 0)).setCell ⟨q, 8, none⟩ (.int .u32 0)).setCell ⟨q, 9, none⟩ (.string ⟨#[]⟩)) = W9 := ⟨_, rfl⟩
      simp only [hW9]
      rw [show World.setCells W4 q 0 [.int .i64 3, .int .i64 pt, .int .i64 b, .int .i64 r, .int .i64 m, .int .i64 st, .int .i64 0, .int .i64 0, .int .u32 0, .string ⟨#[]⟩] = W9 from hW9] at Q1 Q3
      clear hW9
      have e0 := Q1.out.cell 0 rfl
      have e1 := Q1.out.cell 1 rfl
      have e2 := Q1.out.cell 2 rfl
      have e3 := Q1.out.cell 3 rfl
      have e4 := Q1.out.cell 4 rfl
      have e5 := Q1.out.cell 5 rfl
      have e6 := Q1.out.cell 6 rfl
      have e7 := Q1.out.cell 7 rfl
      have e8 := Q1.out.cell 8 rfl
      have e9 := Q1.out.cell 9 rfl
      refine bodyPost_ret (v := .tuple #[.agg #[.int .i64 3, .int .i64 pt, .int .i64 b, .int .i64 r, .int .i64 m, .int .i64 st, .int .i64 0, .int .i64 0, .int .u32 0, .string ⟨#[]⟩], .int .i64 0]) (by simp [results, Tryd.results18, go_sem, e0, e1, e2, e3, e4, e5, e6, e7, e8, e9]) rfl ?_
      exact ⟨by rw [HF.out, HN0.out]; rfl, Q3.out⟩
    · have d1 : (su != 0) = true := by simp; omega
      go_upto_region 7 with fail
      have HF : Hid (XE = 12) := by
        have hx := HXE.out
        simp [hs] at hx; exact hx
      have HN0 : Hid (XN = gNt) := by
        rw [HXN.out, HF.out]
        exact if_neg (by decide)
      have g0 := HB2.out.cell 0 rfl
      have g1 := HB2.out.cell 1 rfl
      have g2 := HB2.out.cell 2 rfl
      have g3 := HB2.out.cell 3 rfl
      have g4 := HB2.out.cell 4 rfl
      have g5 := HB2.out.cell 5 rfl
      have g6 := HB2.out.cell 6 rfl
      have g7 := HB2.out.cell 7 rfl
      have g8 := HB2.out.cell 8 rfl
      have g9 := HB2.out.cell 9 rfl
      have f0 := HB2.out.frozen 0
      have f1 := HB2.out.frozen 1
      have f2 := HB2.out.frozen 2
      have f3 := HB2.out.frozen 3
      have f4 := HB2.out.frozen 4
      have f5 := HB2.out.frozen 5
      have f6 := HB2.out.frozen 6
      have f7 := HB2.out.frozen 7
      have f8 := HB2.out.frozen 8
      have f9 := HB2.out.frozen 9
      have Q1 := hide (HB2.out.sets [.int .i64 0, .int .i64 0, .int .i64 0, .int .i64 0, .int .i64 0, .int .i64 0, .int .i64 0, .int .i64 0, .int .u32 0, .string ⟨#[]⟩] rfl)
      have Q3 := hide (below_sets HQ0.out [.int .i64 0, .int .i64 0, .int .i64 0, .int .i64 0, .int .i64 0, .int .i64 0, .int .i64 0, .int .i64 0, .int .u32 0, .string ⟨#[]⟩] 0 HD.out)
      go_wp2
      obtain ⟨W9, hW9⟩ : ∃ W9, ((((((((((w1.setCell ⟨q, 0, none⟩ (.int .i64 0)).setCell ⟨q, 1, none⟩ (.int .i64 0)).setCell ⟨q, 2, none⟩ (.int .i64 0)).setCell ⟨q, 3, none⟩ (.int .i64 0)).setCell ⟨q, 4, none⟩ (.int .i64 0)).setCell ⟨q, 5, none⟩ (.int .i64 0)).setCell ⟨q, 6, none⟩ (.int .i64 0)).setCell ⟨q, 7, none⟩ (.int .i64 0)).setCell ⟨q, 8, none⟩ (.int .u32 0)).setCell ⟨q, 9, none⟩ (.string ⟨#[]⟩)) = W9 := ⟨_, rfl⟩
      simp only [hW9]
      rw [show World.setCells w1 q 0 [.int .i64 0, .int .i64 0, .int .i64 0, .int .i64 0, .int .i64 0, .int .i64 0, .int .i64 0, .int .i64 0, .int .u32 0, .string ⟨#[]⟩] = W9 from hW9] at Q1 Q3
      clear hW9
      have e0 := Q1.out.cell 0 rfl
      have e1 := Q1.out.cell 1 rfl
      have e2 := Q1.out.cell 2 rfl
      have e3 := Q1.out.cell 3 rfl
      have e4 := Q1.out.cell 4 rfl
      have e5 := Q1.out.cell 5 rfl
      have e6 := Q1.out.cell 6 rfl
      have e7 := Q1.out.cell 7 rfl
      have e8 := Q1.out.cell 8 rfl
      have e9 := Q1.out.cell 9 rfl
      refine bodyPost_ret (v := .tuple #[.agg #[.int .i64 0, .int .i64 0, .int .i64 0, .int .i64 0, .int .i64 0, .int .i64 0, .int .i64 0, .int .i64 0, .int .u32 0, .string ⟨#[]⟩], .int .i64 12]) (by simp [results, Tryd.results18, go_sem, e0, e1, e2, e3, e4, e5, e6, e7, e8, e9]) rfl ?_
      exact ⟨by rw [HF.out, HN0.out]; rfl, Q3.out⟩
  · by_cases hk : k = 4
    rotate_left
    · have d1 : (k != 4) = true := by simp; omega
      go_upto_region 7 with fail
      have HF : Hid (XE = 12) := by
        have hx := HXE.out
        simp [hk] at hx; exact hx
      have HN0 : Hid (XN = gNt) := by
        rw [HXN.out, HF.out]
        exact if_neg (by decide)
      have g0 := HB2.out.cell 0 rfl
      have g1 := HB2.out.cell 1 rfl
      have g2 := HB2.out.cell 2 rfl
      have g3 := HB2.out.cell 3 rfl
      have g4 := HB2.out.cell 4 rfl
      have g5 := HB2.out.cell 5 rfl
      have g6 := HB2.out.cell 6 rfl
      have g7 := HB2.out.cell 7 rfl
      have g8 := HB2.out.cell 8 rfl
      have g9 := HB2.out.cell 9 rfl
      have f0 := HB2.out.frozen 0
      have f1 := HB2.out.frozen 1
      have f2 := HB2.out.frozen 2
      have f3 := HB2.out.frozen 3
      have f4 := HB2.out.frozen 4
      have f5 := HB2.out.frozen 5
      have f6 := HB2.out.frozen 6
      have f7 := HB2.out.frozen 7
      have f8 := HB2.out.frozen 8
      have f9 := HB2.out.frozen 9
      have Q1 := hide (HB2.out.sets [.int .i64 0, .int .i64 0, .int .i64 0, .int .i64 0, .int .i64 0, .int .i64 0, .int .i64 0, .int .i64 0, .int .u32 0, .string ⟨#[]⟩] rfl)
      have Q3 := hide (below_sets HQ0.out [.int .i64 0, .int .i64 0, .int .i64 0, .int .i64 0, .int .i64 0, .int .i64 0, .int .i64 0, .int .i64 0, .int .u32 0, .string ⟨#[]⟩] 0 HD.out)
      go_wp2
      obtain ⟨W9, hW9⟩ : ∃ W9, ((((((((((w1.setCell ⟨q, 0, none⟩ (.int .i64 0)).setCell ⟨q, 1, none⟩ (.int .i64 0)).setCell ⟨q, 2, none⟩ (.int .i64 0)).setCell ⟨q, 3, none⟩ (.int .i64 0)).setCell ⟨q, 4, none⟩ (.int .i64 0)).setCell ⟨q, 5, none⟩ (.int .i64 0)).setCell ⟨q, 6, none⟩ (.int .i64 0)).setCell ⟨q, 7, none⟩ (.int .i64 0)).setCell ⟨q, 8, none⟩ (.int .u32 0)).setCell ⟨q, 9, none⟩ (.string ⟨#[]⟩)) = W9 := ⟨_, rfl⟩
      simp only [hW9]
      rw [show World.setCells w1 q 0 [.int .i64 0, .int .i64 0, .int .i64 0, .int .i64 0, .int .i64 0, .int .i64 0, .int .i64 0, .int .i64 0, .int .u32 0, .string ⟨#[]⟩] = W9 from hW9] at Q1 Q3
      clear hW9
      have e0 := Q1.out.cell 0 rfl
      have e1 := Q1.out.cell 1 rfl
      have e2 := Q1.out.cell 2 rfl
      have e3 := Q1.out.cell 3 rfl
      have e4 := Q1.out.cell 4 rfl
      have e5 := Q1.out.cell 5 rfl
      have e6 := Q1.out.cell 6 rfl
      have e7 := Q1.out.cell 7 rfl
      have e8 := Q1.out.cell 8 rfl
      have e9 := Q1.out.cell 9 rfl
      refine bodyPost_ret (v := .tuple #[.agg #[.int .i64 0, .int .i64 0, .int .i64 0, .int .i64 0, .int .i64 0, .int .i64 0, .int .i64 0, .int .i64 0, .int .u32 0, .string ⟨#[]⟩], .int .i64 12]) (by simp [results, Tryd.results18, go_sem, e0, e1, e2, e3, e4, e5, e6, e7, e8, e9]) rfl ?_
      exact ⟨by rw [HF.out, HN0.out]; rfl, Q3.out⟩
    subst hk
    clear t0
    have t0 := HB0.out.cell 0 rfl
    obtain rfl : st = 0 := HST.out rfl rfl
    by_cases hs : su = 0
    · subst hs
      have HF : Hid (XE = 0) := by
        have hx := HXE.out
        unfold Hid
        simpa using hx
      have HN0 : Hid (XN = ⟨5, pt, b, r, m, 0, 0, 0, 0, ⟨#[]⟩⟩) := by
        unfold Hid
        rw [HXN.out, HF.out]
        simp
      have c0 := HB0.out.cell 0 rfl
      have c1 := HB0.out.cell 1 rfl
      have c2 := HB0.out.cell 2 rfl
      have c3 := HB0.out.cell 3 rfl
      have c4 := HB0.out.cell 4 rfl
      have c5 := HB0.out.cell 5 rfl
      have c6 := HB0.out.cell 6 rfl
      have c7 := HB0.out.cell 7 rfl
      go_upto_region 8 with fail
      obtain ⟨W3, hW3, B3, D3⟩ := box1 w1 [.int .i64 5, .int .i64 pt, .int .i64 b, .int .i64 r, .int .i64 m, .int .i64 0, .int .i64 0, .int .i64 0, .int .u32 0, .string ⟨#[]⟩] 26
      obtain ⟨p, hp⟩ : ∃ p, w1.heap.size = p := ⟨_, rfl⟩
      rw [hp] at B3
      have HB3 := hide B3
      have HW3 := hide hW3
      have HPP := hide hp
      have HNG : Hid (q ≠ p ∧ w.heap.size ≠ p ∧ w.heap.size ≤ p) := by have h1 := HB2.out.lt; have h2 := HB0.out.lt; exact ⟨by omega, by omega, by omega⟩
      replace HB0 := hide (HB0.out.below D3)
      replace HB2 := hide (HB2.out.below D3)
      replace HD := hide (chain HD.out D3)
      clear B3 D3 hW3 hp
      go_upto_region 9 with fail
      have hW3 := HW3.out
      have hp := HPP.out
      simp only [hW3, hp]
      clear HW3 HPP hW3 hp c0 c1 c2 c3 c4 c5 c6 c7
      go_upto_region 13 with fail
      have c0 := HB3.out.cell 0 rfl
      have c1 := HB3.out.cell 1 rfl
      have c2 := HB3.out.cell 2 rfl
      have c3 := HB3.out.cell 3 rfl
      have c4 := HB3.out.cell 4 rfl
      have c5 := HB3.out.cell 5 rfl
      have c6 := HB3.out.cell 6 rfl
      have c7 := HB3.out.cell 7 rfl
      have c8 := HB3.out.cell 8 rfl
      have c9 := HB3.out.cell 9 rfl
      have g0 := HB2.out.cell 0 rfl
      have g1 := HB2.out.cell 1 rfl
      have g2 := HB2.out.cell 2 rfl
      have g3 := HB2.out.cell 3 rfl
      have g4 := HB2.out.cell 4 rfl
      have g5 := HB2.out.cell 5 rfl
      have g6 := HB2.out.cell 6 rfl
      have g7 := HB2.out.cell 7 rfl
      have g8 := HB2.out.cell 8 rfl
      have g9 := HB2.out.cell 9 rfl
      have f0 := HB2.out.frozen 0
      have f1 := HB2.out.frozen 1
      have f2 := HB2.out.frozen 2
      have f3 := HB2.out.frozen 3
      have f4 := HB2.out.frozen 4
      have f5 := HB2.out.frozen 5
      have f6 := HB2.out.frozen 6
      have f7 := HB2.out.frozen 7
      have f8 := HB2.out.frozen 8
      have f9 := HB2.out.frozen 9
      have Q1 := hide (HB2.out.sets [.int .i64 5, .int .i64 pt, .int .i64 b, .int .i64 r, .int .i64 m, .int .i64 0, .int .i64 0, .int .i64 0, .int .u32 0, .string ⟨#[]⟩] rfl)
      have Q3 := hide (below_sets HQ0.out [.int .i64 5, .int .i64 pt, .int .i64 b, .int .i64 r, .int .i64 m, .int .i64 0, .int .i64 0, .int .i64 0, .int .u32 0, .string ⟨#[]⟩] 0 HD.out)
      go_wp2
      obtain ⟨W9, hW9⟩ : ∃ W9, ((((((((((W3.setCell ⟨q, 0, none⟩ (.int .i64 5)).setCell ⟨q, 1, none⟩ (.int .i64 pt)).setCell ⟨q, 2, none⟩ (.int .i64 b)).setCell ⟨q, 3, none⟩ (.int .i64 r)).setCell ⟨q, 4, none⟩ (.int .i64 m)).setCell ⟨q, 5, none⟩ (.int .i64 0)).setCell ⟨q, 6, none⟩ (.int .i64 0)).setCell ⟨q, 7, none⟩ (.int .i64 0)).setCell ⟨q, 8, none⟩ (.int .u32 0)).setCell ⟨q, 9, none⟩ (.string ⟨#[]⟩)) = W9 := ⟨_, rfl⟩
      simp only [hW9]
      rw [show World.setCells W3 q 0 [.int .i64 5, .int .i64 pt, .int .i64 b, .int .i64 r, .int .i64 m, .int .i64 0, .int .i64 0, .int .i64 0, .int .u32 0, .string ⟨#[]⟩] = W9 from hW9] at Q1 Q3
      clear hW9
      have e0 := Q1.out.cell 0 rfl
      have e1 := Q1.out.cell 1 rfl
      have e2 := Q1.out.cell 2 rfl
      have e3 := Q1.out.cell 3 rfl
      have e4 := Q1.out.cell 4 rfl
      have e5 := Q1.out.cell 5 rfl
      have e6 := Q1.out.cell 6 rfl
      have e7 := Q1.out.cell 7 rfl
      have e8 := Q1.out.cell 8 rfl
      have e9 := Q1.out.cell 9 rfl
      refine bodyPost_ret (v := .tuple #[.agg #[.int .i64 5, .int .i64 pt, .int .i64 b, .int .i64 r, .int .i64 m, .int .i64 0, .int .i64 0, .int .i64 0, .int .u32 0, .string ⟨#[]⟩], .int .i64 0]) (by simp [results, Tryd.results18, go_sem, e0, e1, e2, e3, e4, e5, e6, e7, e8, e9]) rfl ?_
      exact ⟨by rw [HF.out, HN0.out]; rfl, Q3.out⟩
    · have d1 : (su != 0) = true := by simp; omega
      go_upto_region 7 with fail
      have HF : Hid (XE = 12) := by
        have hx := HXE.out
        simp [hs] at hx; exact hx
      have HN0 : Hid (XN = gNt) := by
        rw [HXN.out, HF.out]
        exact if_neg (by decide)
      have g0 := HB2.out.cell 0 rfl
      have g1 := HB2.out.cell 1 rfl
      have g2 := HB2.out.cell 2 rfl
      have g3 := HB2.out.cell 3 rfl
      have g4 := HB2.out.cell 4 rfl
      have g5 := HB2.out.cell 5 rfl
      have g6 := HB2.out.cell 6 rfl
      have g7 := HB2.out.cell 7 rfl
      have g8 := HB2.out.cell 8 rfl
      have g9 := HB2.out.cell 9 rfl
      have f0 := HB2.out.frozen 0
      have f1 := HB2.out.frozen 1
      have f2 := HB2.out.frozen 2
      have f3 := HB2.out.frozen 3
      have f4 := HB2.out.frozen 4
      have f5 := HB2.out.frozen 5
      have f6 := HB2.out.frozen 6
      have f7 := HB2.out.frozen 7
      have f8 := HB2.out.frozen 8
      have f9 := HB2.out.frozen 9
      have Q1 := hide (HB2.out.sets [.int .i64 0, .int .i64 0, .int .i64 0, .int .i64 0, .int .i64 0, .int .i64 0, .int .i64 0, .int .i64 0, .int .u32 0, .string ⟨#[]⟩] rfl)
      have Q3 := hide (below_sets HQ0.out [.int .i64 0, .int .i64 0, .int .i64 0, .int .i64 0, .int .i64 0, .int .i64 0, .int .i64 0, .int .i64 0, .int .u32 0, .string ⟨#[]⟩] 0 HD.out)
      go_wp2
      obtain ⟨W9, hW9⟩ : ∃ W9, ((((((((((w1.setCell ⟨q, 0, none⟩ (.int .i64 0)).setCell ⟨q, 1, none⟩ (.int .i64 0)).setCell ⟨q, 2, none⟩ (.int .i64 0)).setCell ⟨q, 3, none⟩ (.int .i64 0)).setCell ⟨q, 4, none⟩ (.int .i64 0)).setCell ⟨q, 5, none⟩ (.int .i64 0)).setCell ⟨q, 6, none⟩ (.int .i64 0)).setCell ⟨q, 7, none⟩ (.int .i64 0)).setCell ⟨q, 8, none⟩ (.int .u32 0)).setCell ⟨q, 9, none⟩ (.string ⟨#[]⟩)) = W9 := ⟨_, rfl⟩
      simp only [hW9]
      rw [show World.setCells w1 q 0 [.int .i64 0, .int .i64 0, .int .i64 0, .int .i64 0, .int .i64 0, .int .i64 0, .int .i64 0, .int .i64 0, .int .u32 0, .string ⟨#[]⟩] = W9 from hW9] at Q1 Q3
      clear hW9
      have e0 := Q1.out.cell 0 rfl
      have e1 := Q1.out.cell 1 rfl
      have e2 := Q1.out.cell 2 rfl
      have e3 := Q1.out.cell 3 rfl
      have e4 := Q1.out.cell 4 rfl
      have e5 := Q1.out.cell 5 rfl
      have e6 := Q1.out.cell 6 rfl
      have e7 := Q1.out.cell 7 rfl
      have e8 := Q1.out.cell 8 rfl
      have e9 := Q1.out.cell 9 rfl
      refine bodyPost_ret (v := .tuple #[.agg #[.int .i64 0, .int .i64 0, .int .i64 0, .int .i64 0, .int .i64 0, .int .i64 0, .int .i64 0, .int .i64 0, .int .u32 0, .string ⟨#[]⟩], .int .i64 12]) (by simp [results, Tryd.results18, go_sem, e0, e1, e2, e3, e4, e5, e6, e7, e8, e9]) rfl ?_
      exact ⟨by rw [HF.out, HN0.out]; rfl, Q3.out⟩
  · have e7 : (kd == 7) = false := by simp; omega
    have e2 : (kd == 2) = false := by simp; omega
    have e3 : (kd == 3) = false := by simp; omega
    have e5 : (kd == 5) = false := by simp; omega
    have d7 : (kd != 7) = true := by simp; omega
    have d2 : (kd != 2) = true := by simp; omega
    have d3 : (kd != 3) = true := by simp; omega
    have d5 : (kd != 5) = true := by simp; omega
    go_upto_region 5 with fail
    have HF : Hid (XE = 7) := by
      have hx := HXE.out
      rw [if_neg (by omega)] at hx; exact hx
    have HN0 : Hid (XN = gNt) := by
      rw [HXN.out, HF.out]
      exact if_neg (by decide)
    have g0 := HB2.out.cell 0 rfl
    have g1 := HB2.out.cell 1 rfl
    have g2 := HB2.out.cell 2 rfl
    have g3 := HB2.out.cell 3 rfl
    have g4 := HB2.out.cell 4 rfl
    have g5 := HB2.out.cell 5 rfl
    have g6 := HB2.out.cell 6 rfl
    have g7 := HB2.out.cell 7 rfl
    have g8 := HB2.out.cell 8 rfl
    have g9 := HB2.out.cell 9 rfl
    have f0 := HB2.out.frozen 0
    have f1 := HB2.out.frozen 1
    have f2 := HB2.out.frozen 2
    have f3 := HB2.out.frozen 3
    have f4 := HB2.out.frozen 4
    have f5 := HB2.out.frozen 5
    have f6 := HB2.out.frozen 6
    have f7 := HB2.out.frozen 7
    have f8 := HB2.out.frozen 8
    have f9 := HB2.out.frozen 9
    have Q1 := hide (HB2.out.sets [.int .i64 0, .int .i64 0, .int .i64 0, .int .i64 0, .int .i64 0, .int .i64 0, .int .i64 0, .int .i64 0, .int .u32 0, .string ⟨#[]⟩] rfl)
    have Q3 := hide (below_sets HQ0.out [.int .i64 0, .int .i64 0, .int .i64 0, .int .i64 0, .int .i64 0, .int .i64 0, .int .i64 0, .int .i64 0, .int .u32 0, .string ⟨#[]⟩] 0 HD.out)
    go_wp2
    obtain ⟨W9, hW9⟩ : ∃ W9, ((((((((((w1.setCell ⟨q, 0, none⟩ (.int .i64 0)).setCell ⟨q, 1, none⟩ (.int .i64 0)).setCell ⟨q, 2, none⟩ (.int .i64 0)).setCell ⟨q, 3, none⟩ (.int .i64 0)).setCell ⟨q, 4, none⟩ (.int .i64 0)).setCell ⟨q, 5, none⟩ (.int .i64 0)).setCell ⟨q, 6, none⟩ (.int .i64 0)).setCell ⟨q, 7, none⟩ (.int .i64 0)).setCell ⟨q, 8, none⟩ (.int .u32 0)).setCell ⟨q, 9, none⟩ (.string ⟨#[]⟩)) = W9 := ⟨_, rfl⟩
    simp only [hW9]
    rw [show World.setCells w1 q 0 [.int .i64 0, .int .i64 0, .int .i64 0, .int .i64 0, .int .i64 0, .int .i64 0, .int .i64 0, .int .i64 0, .int .u32 0, .string ⟨#[]⟩] = W9 from hW9] at Q1 Q3
    clear hW9
    have e0 := Q1.out.cell 0 rfl
    have e1 := Q1.out.cell 1 rfl
    have e2 := Q1.out.cell 2 rfl
    have e3 := Q1.out.cell 3 rfl
    have e4 := Q1.out.cell 4 rfl
    have e5 := Q1.out.cell 5 rfl
    have e6 := Q1.out.cell 6 rfl
    have e7 := Q1.out.cell 7 rfl
    have e8 := Q1.out.cell 8 rfl
    have e9 := Q1.out.cell 9 rfl
    refine bodyPost_ret (v := .tuple #[.agg #[.int .i64 0, .int .i64 0, .int .i64 0, .int .i64 0, .int .i64 0, .int .i64 0, .int .i64 0, .int .i64 0, .int .u32 0, .string ⟨#[]⟩], .int .i64 7]) (by simp [results, Tryd.results18, go_sem, e0, e1, e2, e3, e4, e5, e6, e7, e8, e9]) rfl ?_
    exact ⟨by rw [HF.out, HN0.out]; rfl, Q3.out⟩
end Go.Proofs.YtdbciciljeainaaDoor
