/-
  The program's Round.
-/
import Derived.Test.YtnopclacchoijaaDoorXfRound
import Derived.Test.YtnopclacchoijaaDoorXfAdd
namespace Go.Proofs.YtnopclacchoijaaDoor
open Go.RowKit FerryCrc
set_option linter.unusedVariables false
set_option linter.unusedSimpArgs false

def rndK (s : Sd) (fn : Nat) (tr : Int) : Bool := decide (pieE s fn = 0) && decide (s.rounds < tr)
def rndS (s : Sd) (fn : Nat) (tr : Int) : Sd := if pieE s fn = 0 then (if s.rounds < tr then ⟨s.part, s.boot, s.peer, s.num, s.stage, s.image, s.rounds + 1⟩ else s) else zSd
def rndA (s : Sd) (F : List Bool) : List Bool := if pieE s F.length = 0 then F else []
def rndN (s : Sd) (F : List Bool) (tr : Int) : List Nt := if rndK s F.length tr = true then dueL s F else []
set_option maxRecDepth 100000 in
set_option maxHeartbeats 2000000 in
theorem round_any (s : Sd) (fa : Option Addr) (fn fc : Nat) (F : List Bool) (tr : Int) {w : World} {E : Nat → Addr} (he : Er7 w E) (him : s.image.size ≤ 140737488351232) (hF : Fls w fa fn fc F) (htr : tr ≤ 9223372036854775807) (hrd : -9223372036854775808 ≤ s.rounds) :
    Calls Tryd.prog 20 #[.agg (s.cells (.slice fa fn fc)).toArray, .int .i64 tr] w fun e w' => ∃ v u, e = .returned (.tuple #[.agg ((rndS s fn tr).cells v).toArray, u, .bool (rndK s fn tr), erv E (pieE s fn)]) ∧ FlOwn w' w.heap.size v (rndA s F) ∧ NOwn w' w.heap.size u (rndN s F tr) ∧ Below w.heap.size w w' := by
  have hFs := hF.size
  have HC1 := hide (fun (w' : World) (h : Er7 w' E) (h2 : Fls w' fa fn fc F) => due_any s fa fn fc F h him h2)
  have HFN : Hid (pieE s fn = 0 → fn ≤ 32) := fun h => pieE_fn h
  have HS : Hid (rndS s fn tr = if pieE s fn = 0 then (if s.rounds < tr then ⟨s.part, s.boot, s.peer, s.num, s.stage, s.image, s.rounds + 1⟩ else s) else zSd) := rfl
  have HA : Hid (rndA s F = if pieE s fn = 0 then F else []) := by unfold Hid rndA; rw [hFs]
  have HK : Hid (rndK s fn tr = (decide (pieE s fn = 0) && decide (s.rounds < tr))) := rfl
  have HNN : Hid (rndN s F tr = if rndK s fn tr = true then dueL s F else []) := by unfold Hid rndN; rw [hFs]
  obtain ⟨R, hR⟩ : ∃ R, pieE s fn = R := ⟨_, rfl⟩
  rw [hR] at HC1 HFN HS HA HK ⊢
  obtain ⟨XS, hXS⟩ : ∃ X, rndS s fn tr = X := ⟨_, rfl⟩
  obtain ⟨XA, hXA⟩ : ∃ X, rndA s F = X := ⟨_, rfl⟩
  obtain ⟨XK, hXK⟩ : ∃ X, rndK s fn tr = X := ⟨_, rfl⟩
  obtain ⟨XN, hXN⟩ : ∃ X, rndN s F tr = X := ⟨_, rfl⟩
  obtain ⟨XD, hXD⟩ : ∃ X, dueL s F = X := ⟨_, rfl⟩
  rw [hXS] at HS
  rw [hXA] at HA
  rw [hXK] at HK HNN
  rw [hXN, hXD] at HNN
  rw [hXD] at HC1
  rw [hXS, hXA, hXK, hXN]
  clear hR hXS hXA hXK hXN hXD
  obtain ⟨pt, b, r, m, st, im, rd⟩ := s
  unfold Sd.cells at HC1 ⊢
  simp only at HC1 HS HK hrd ⊢
  obtain ⟨W, hW, B0, B1, D0⟩ := box2 w [.int .i64 pt, .int .i64 b, .int .i64 r, .int .i64 m, .int .i64 st, .string im, .slice fa fn fc, .int .i64 rd] 48 [.int .i64 0, .int .i64 0, .int .i64 0, .int .i64 0, .int .i64 0, .string ⟨#[]⟩, .slice none 0 0, .int .i64 0] 48
  obtain ⟨q, hq⟩ : ∃ q, w.heap.size + 1 = q := ⟨_, rfl⟩
  have HQ0 : Hid (w.heap.size < q) := by unfold Hid; omega
  rw [hq] at B1
  have HB0 := hide B0
  have HB1 := hide B1
  have HD := hide D0
  have HWD := hide hW
  have HQQ := hide hq
  have HE := hide (he.below D0)
  have HF1 := hide (hF.below D0)
  have HTR := hide (And.intro htr hrd)
  clear B0 B1 D0 hW hq he him hF htr hrd
  go_enter Tryd.func20, Tryd.ntmps20
  go_upto_region 1 with fail
  have hW := HWD.out
  have hq := HQQ.out
  simp only [hW, hq]
  clear hW HWD hq HQQ
  have g0 := HB0.out.cell 0 rfl
  have g1 := HB0.out.cell 1 rfl
  have g2 := HB0.out.cell 2 rfl
  have g3 := HB0.out.cell 3 rfl
  have g4 := HB0.out.cell 4 rfl
  have g5 := HB0.out.cell 5 rfl
  have g6 := HB0.out.cell 6 rfl
  have g7 := HB0.out.cell 7 rfl
  go_wp2_with fail
  refine Calls.mono (HC1.out W HE.out HF1.out) ?_
  rintro e w1 ⟨u, rfl, o1, b1⟩
  have HWL : Hid (w.heap.size < W.heap.size ∧ q < W.heap.size) := ⟨HB0.out.lt, HB1.out.lt⟩
  replace HB0 := hide (HB0.out.below b1)
  replace HB1 := hide (HB1.out.below b1)
  replace HD := hide (chain HD.out b1)
  replace HF1 := hide (HF1.out.below b1)
  obtain ⟨ua, uc, rfl, -⟩ := o1.rcs
  obtain ⟨un, hun⟩ : ∃ un, XD.length = un := ⟨_, rfl⟩
  rw [hun] at o1 ⊢
  have HU := hide o1
  clear b1 HC1 o1 hun g0 g1 g2 g3 g4 g5 g6 g7
  by_cases h0 : R = 0
  · --
    have hfn := HFN.out h0
    subst h0
    rw [show erv E 0 = .nilIface from rfl]
    have HCL := hide (fun (w' : World) (h : Fls w' fa fn fc F) => clone_fl fa fn fc F h (by omega))
    have HA2 : Hid (XA = F) := HA.out
    clear HA HFN
    have g6 := HB0.out.cell 6 rfl
    go_upto_region 4 with fail
    go_wp2_with fail
    refine Calls.mono (HCL.out _ HF1.out) ?_
    rintro e w3 ⟨v, rfl, o3, b3⟩
    obtain ⟨va, vc, rfl, -⟩ := o3.rcs
    rw [hFs] at o3 ⊢
    have HWV := hide HD.out.size
    have HV0 := hide (o3.off (show w.heap.size < w1.heap.size from HB0.out.lt))
    have HVQ := hide (o3.off (show q < w1.heap.size from HB1.out.lt))
    have HU0 := hide (HU.out.off HWL.out.1)
    have HUQ := hide (HU.out.off HWL.out.2)
    replace HB0 := hide (HB0.out.below b3)
    replace HB1 := hide (HB1.out.below b3)
    replace HD := hide (chain HD.out b3)
    have HU3 := hide (HU.out.below b3)
    have HV := hide o3
    clear b3 o3 HCL HF1 g6 HU
    have c6 := HB0.out.cell 6 rfl
    have z6 := HB0.out.frozen 6
    have K0 := hide (HB0.out.set 6 (.slice va fn vc))
    have KQ := hide (HB1.out.other ⟨w.heap.size, 6, none⟩ (.slice va fn vc) (Ne.symm (Nat.ne_of_lt HQ0.out)))
    have KV := hide (HV.out.far (p := ⟨w.heap.size, 6, none⟩) HV0.out (.slice va fn vc))
    have KU := hide (HU3.out.far (p := ⟨w.heap.size, 6, none⟩) HU0.out (.slice va fn vc))
    have KD := hide (HD.out.setCell (p := ⟨w.heap.size, 6, none⟩) (Nat.le_refl _) (.slice va fn vc))
    have HWU : Hid (w.heap.size ≤ W.heap.size) := Nat.le_of_lt HWL.out.1
    go_upto_region 5 with fail
    obtain ⟨W4, hW4⟩ : ∃ W4, w3.setCell ⟨w.heap.size, 6, none⟩ (.slice va fn vc) = W4 := ⟨_, rfl⟩
    rw [hW4] at K0 KQ KV KU KD
    simp only [hW4]
    replace K0 : Hid (Bk W4 w.heap.size [.int .i64 pt, .int .i64 b, .int .i64 r, .int .i64 m, .int .i64 st, .string im, .slice va fn vc, .int .i64 rd] 48) := K0
    clear hW4 c6 z6 HB0 HB1 HD HV HU3
    by_cases hlt : rd < tr
    · have HF : Hid (XS = ⟨pt, b, r, m, st, im, rd + 1⟩ ∧ XA = F ∧ XN = XD ∧ XK = true) := by
        have hk : XK = true := by rw [HK.out, decide_eq_true hlt]; rfl
        exact ⟨by rw [HS.out, if_pos trivial, if_pos hlt], HA2.out, by rw [HNN.out, if_pos hk], hk⟩
      have hnl : ¬ tr ≤ rd := by omega
      have hwr : IntKind.i64.wrap (rd + 1) = rd + 1 := by
        have h1 := HTR.out
        rw [IntKind.wrap_i64]
        omega
      have c7 := K0.out.cell 7 rfl
      have z7 := K0.out.frozen 7
      have M0 := hide (K0.out.set 7 (.int .i64 (rd + 1)))
      have MQ := hide (KQ.out.other ⟨w.heap.size, 7, none⟩ (.int .i64 (rd + 1)) (Ne.symm (Nat.ne_of_lt HQ0.out)))
      have MV := hide (KV.out.far (p := ⟨w.heap.size, 7, none⟩) HV0.out (.int .i64 (rd + 1)))
      have MU := hide (KU.out.far (p := ⟨w.heap.size, 7, none⟩) HU0.out (.int .i64 (rd + 1)))
      have MD := hide (KD.out.setCell (p := ⟨w.heap.size, 7, none⟩) (Nat.le_refl _) (.int .i64 (rd + 1)))
      clear HTR
      go_upto_region 8 with fail
      obtain ⟨W7, hW7⟩ : ∃ W7, W4.setCell ⟨w.heap.size, 7, none⟩ (.int .i64 (rd + 1)) = W7 := ⟨_, rfl⟩
      rw [hW7] at M0 MQ MV MU MD
      simp only [hW7]
      replace M0 : Hid (Bk W7 w.heap.size [.int .i64 pt, .int .i64 b, .int .i64 r, .int .i64 m, .int .i64 st, .string im, .slice va fn vc, .int .i64 (rd + 1)] 48) := M0
      clear hW7 c7 z7 K0 KQ KV KU KD hwr hnl
      have K0 := M0
      have KQ := MQ
      have KV := MV
      have KU := MU
      have KD := MD
      clear M0 MQ MV MU MD
      have c0 := K0.out.cell 0 rfl
      have c1 := K0.out.cell 1 rfl
      have c2 := K0.out.cell 2 rfl
      have c3 := K0.out.cell 3 rfl
      have c4 := K0.out.cell 4 rfl
      have c5 := K0.out.cell 5 rfl
      have c6 := K0.out.cell 6 rfl
      have c7 := K0.out.cell 7 rfl
      have g0 := KQ.out.cell 0 rfl
      have g1 := KQ.out.cell 1 rfl
      have g2 := KQ.out.cell 2 rfl
      have g3 := KQ.out.cell 3 rfl
      have g4 := KQ.out.cell 4 rfl
      have g5 := KQ.out.cell 5 rfl
      have g6 := KQ.out.cell 6 rfl
      have g7 := KQ.out.cell 7 rfl
      have f0 := KQ.out.frozen 0
      have f1 := KQ.out.frozen 1
      have f2 := KQ.out.frozen 2
      have f3 := KQ.out.frozen 3
      have f4 := KQ.out.frozen 4
      have f5 := KQ.out.frozen 5
      have f6 := KQ.out.frozen 6
      have f7 := KQ.out.frozen 7
      have Q1 := hide (KQ.out.sets [.int .i64 pt, .int .i64 b, .int .i64 r, .int .i64 m, .int .i64 st, .string im, .slice va fn vc, .int .i64 (rd + 1)] rfl)
      have Q2 := hide (LOwn.fars HVQ.out [.int .i64 pt, .int .i64 b, .int .i64 r, .int .i64 m, .int .i64 st, .string im, .slice va fn vc, .int .i64 (rd + 1)] 0 KV.out)
      have Q4 := hide (LOwn.fars HUQ.out [.int .i64 pt, .int .i64 b, .int .i64 r, .int .i64 m, .int .i64 st, .string im, .slice va fn vc, .int .i64 (rd + 1)] 0 KU.out)
      have Q3 := hide (below_sets (Nat.le_of_lt HQ0.out) [.int .i64 pt, .int .i64 b, .int .i64 r, .int .i64 m, .int .i64 st, .string im, .slice va fn vc, .int .i64 (rd + 1)] 0 KD.out)
      go_wp2
      obtain ⟨W9, hW9⟩ : ∃ W9, ((((((((W7.setCell ⟨q, 0, none⟩ (.int .i64 pt)).setCell ⟨q, 1, none⟩ (.int .i64 b)).setCell ⟨q, 2, none⟩ (.int .i64 r)).setCell ⟨q, 3, none⟩ (.int .i64 m)).setCell ⟨q, 4, none⟩ (.int .i64 st)).setCell ⟨q, 5, none⟩ (.string im)).setCell ⟨q, 6, none⟩ (.slice va fn vc)).setCell ⟨q, 7, none⟩ (.int .i64 (rd + 1))) = W9 := ⟨_, rfl⟩
      simp only [hW9]
      rw [show W7.setCells q 0 [.int .i64 pt, .int .i64 b, .int .i64 r, .int .i64 m, .int .i64 st, .string im, .slice va fn vc, .int .i64 (rd + 1)] = W9 from hW9] at Q1 Q2 Q3 Q4
      clear hW9
      have e0 := Q1.out.cell 0 rfl
      have e1 := Q1.out.cell 1 rfl
      have e2 := Q1.out.cell 2 rfl
      have e3 := Q1.out.cell 3 rfl
      have e4 := Q1.out.cell 4 rfl
      have e5 := Q1.out.cell 5 rfl
      have e6 := Q1.out.cell 6 rfl
      have e7 := Q1.out.cell 7 rfl
      refine bodyPost_ret (v := .tuple #[.agg #[.int .i64 pt, .int .i64 b, .int .i64 r, .int .i64 m, .int .i64 st, .string im, .slice va fn vc, .int .i64 (rd + 1)], .slice ua un uc, .bool true, .nilIface]) (by simp [results, Tryd.results20, go_sem, e0, e1, e2, e3, e4, e5, e6, e7]) rfl ?_
      exact ⟨.slice va fn vc, .slice ua un uc, by rw [HF.out.1, HF.out.2.2.2]; rfl, by rw [HF.out.2.1]; exact Q2.out.weaken HWV.out, by rw [HF.out.2.2.1]; exact Q4.out.weaken HWU.out, Q3.out⟩
    · have HF : Hid (XS = ⟨pt, b, r, m, st, im, rd⟩ ∧ XA = F ∧ XN = [] ∧ XK = false) := by
        have hk : XK = false := by rw [HK.out, decide_eq_false hlt]; rfl
        exact ⟨by rw [HS.out, if_pos trivial, if_neg hlt], HA2.out, by rw [HNN.out, hk]; rfl, hk⟩
      have hnl : tr ≤ rd := by omega
      clear HTR
      have c0 := K0.out.cell 0 rfl
      have c1 := K0.out.cell 1 rfl
      have c2 := K0.out.cell 2 rfl
      have c3 := K0.out.cell 3 rfl
      have c4 := K0.out.cell 4 rfl
      have c5 := K0.out.cell 5 rfl
      have c6 := K0.out.cell 6 rfl
      have c7 := K0.out.cell 7 rfl
      have g0 := KQ.out.cell 0 rfl
      have g1 := KQ.out.cell 1 rfl
      have g2 := KQ.out.cell 2 rfl
      have g3 := KQ.out.cell 3 rfl
      have g4 := KQ.out.cell 4 rfl
      have g5 := KQ.out.cell 5 rfl
      have g6 := KQ.out.cell 6 rfl
      have g7 := KQ.out.cell 7 rfl
      have f0 := KQ.out.frozen 0
      have f1 := KQ.out.frozen 1
      have f2 := KQ.out.frozen 2
      have f3 := KQ.out.frozen 3
      have f4 := KQ.out.frozen 4
      have f5 := KQ.out.frozen 5
      have f6 := KQ.out.frozen 6
      have f7 := KQ.out.frozen 7
      have Q1 := hide (KQ.out.sets [.int .i64 pt, .int .i64 b, .int .i64 r, .int .i64 m, .int .i64 st, .string im, .slice va fn vc, .int .i64 rd] rfl)
      have Q2 := hide (LOwn.fars HVQ.out [.int .i64 pt, .int .i64 b, .int .i64 r, .int .i64 m, .int .i64 st, .string im, .slice va fn vc, .int .i64 rd] 0 KV.out)
      have Q4 := hide (LOwn.fars HUQ.out [.int .i64 pt, .int .i64 b, .int .i64 r, .int .i64 m, .int .i64 st, .string im, .slice va fn vc, .int .i64 rd] 0 KU.out)
      have Q3 := hide (below_sets (Nat.le_of_lt HQ0.out) [.int .i64 pt, .int .i64 b, .int .i64 r, .int .i64 m, .int .i64 st, .string im, .slice va fn vc, .int .i64 rd] 0 KD.out)
      go_wp2
      obtain ⟨W9, hW9⟩ : ∃ W9, ((((((((W4.setCell ⟨q, 0, none⟩ (.int .i64 pt)).setCell ⟨q, 1, none⟩ (.int .i64 b)).setCell ⟨q, 2, none⟩ (.int .i64 r)).setCell ⟨q, 3, none⟩ (.int .i64 m)).setCell ⟨q, 4, none⟩ (.int .i64 st)).setCell ⟨q, 5, none⟩ (.string im)).setCell ⟨q, 6, none⟩ (.slice va fn vc)).setCell ⟨q, 7, none⟩ (.int .i64 rd)) = W9 := ⟨_, rfl⟩
      simp only [hW9]
      rw [show W4.setCells q 0 [.int .i64 pt, .int .i64 b, .int .i64 r, .int .i64 m, .int .i64 st, .string im, .slice va fn vc, .int .i64 rd] = W9 from hW9] at Q1 Q2 Q3 Q4
      clear hW9
      have e0 := Q1.out.cell 0 rfl
      have e1 := Q1.out.cell 1 rfl
      have e2 := Q1.out.cell 2 rfl
      have e3 := Q1.out.cell 3 rfl
      have e4 := Q1.out.cell 4 rfl
      have e5 := Q1.out.cell 5 rfl
      have e6 := Q1.out.cell 6 rfl
      have e7 := Q1.out.cell 7 rfl
      refine bodyPost_ret (v := .tuple #[.agg #[.int .i64 pt, .int .i64 b, .int .i64 r, .int .i64 m, .int .i64 st, .string im, .slice va fn vc, .int .i64 rd], .slice none 0 0, .bool false, .nilIface]) (by simp [results, Tryd.results20, go_sem, e0, e1, e2, e3, e4, e5, e6, e7]) rfl ?_
      exact ⟨.slice va fn vc, .slice none 0 0, by rw [HF.out.1, HF.out.2.2.2]; rfl, by rw [HF.out.2.1]; exact Q2.out.weaken HWV.out, by rw [HF.out.2.2.1]; exact World.ownsRow_nil _ _ _ _, Q3.out⟩
  · --
    have HF : Hid (XS = zSd ∧ XA = [] ∧ XN = [] ∧ XK = false) := by
      have hk : XK = false := by rw [HK.out, decide_eq_false h0]; rfl
      exact ⟨by rw [HS.out, if_neg h0], by rw [HA.out, if_neg h0], by rw [HNN.out, hk]; rfl, hk⟩
    rw [show erv E R = sent (E R) from if_neg h0]
    unfold sent
    have B2 := hide (HB1.out.sets [.int .i64 0, .int .i64 0, .int .i64 0, .int .i64 0, .int .i64 0, .string ⟨#[]⟩, .slice none 0 0, .int .i64 0] rfl)
    have D2 := hide (below_sets (Nat.le_of_lt HQ0.out) [.int .i64 0, .int .i64 0, .int .i64 0, .int .i64 0, .int .i64 0, .string ⟨#[]⟩, .slice none 0 0, .int .i64 0] 0 HD.out)
    have f0 := HB1.out.frozen 0
    have f1 := HB1.out.frozen 1
    have f2 := HB1.out.frozen 2
    have f3 := HB1.out.frozen 3
    have f4 := HB1.out.frozen 4
    have f5 := HB1.out.frozen 5
    have f6 := HB1.out.frozen 6
    have f7 := HB1.out.frozen 7
    have g0 := HB1.out.cell 0 rfl
    have g1 := HB1.out.cell 1 rfl
    have g2 := HB1.out.cell 2 rfl
    have g3 := HB1.out.cell 3 rfl
    have g4 := HB1.out.cell 4 rfl
    have g5 := HB1.out.cell 5 rfl
    have g6 := HB1.out.cell 6 rfl
    have g7 := HB1.out.cell 7 rfl
    go_wp2
    obtain ⟨W9, hW9⟩ : ∃ W9, ((((((((w1.setCell ⟨q, 0, none⟩ (.int .i64 0)).setCell ⟨q, 1, none⟩ (.int .i64 0)).setCell ⟨q, 2, none⟩ (.int .i64 0)).setCell ⟨q, 3, none⟩ (.int .i64 0)).setCell ⟨q, 4, none⟩ (.int .i64 0)).setCell ⟨q, 5, none⟩ (.string ⟨#[]⟩)).setCell ⟨q, 6, none⟩ (.slice none 0 0)).setCell ⟨q, 7, none⟩ (.int .i64 0)) = W9 := ⟨_, rfl⟩
    simp only [hW9]
    rw [show w1.setCells q 0 [.int .i64 0, .int .i64 0, .int .i64 0, .int .i64 0, .int .i64 0, .string ⟨#[]⟩, .slice none 0 0, .int .i64 0] = W9 from hW9] at B2 D2
    clear hW9
    have e0 := B2.out.cell 0 rfl
    have e1 := B2.out.cell 1 rfl
    have e2 := B2.out.cell 2 rfl
    have e3 := B2.out.cell 3 rfl
    have e4 := B2.out.cell 4 rfl
    have e5 := B2.out.cell 5 rfl
    have e6 := B2.out.cell 6 rfl
    have e7 := B2.out.cell 7 rfl
    refine bodyPost_ret (v := .tuple #[.agg #[.int .i64 0, .int .i64 0, .int .i64 0, .int .i64 0, .int .i64 0, .string ⟨#[]⟩, .slice none 0 0, .int .i64 0], .slice none 0 0, .bool false, sent (E R)]) (by simp [results, Tryd.results20, go_sem, e0, e1, e2, e3, e4, e5, e6, e7, sent]) rfl ?_
    exact ⟨.slice none 0 0, .slice none 0 0, by rw [HF.out.1, HF.out.2.2.2]; unfold erv; rw [if_neg h0]; rfl, by rw [HF.out.2.1]; exact World.ownsRow_nil _ _ _ _, by rw [HF.out.2.2.1]; exact World.ownsRow_nil _ _ _ _, D2.out⟩
end Go.Proofs.YtnopclacchoijaaDoor
