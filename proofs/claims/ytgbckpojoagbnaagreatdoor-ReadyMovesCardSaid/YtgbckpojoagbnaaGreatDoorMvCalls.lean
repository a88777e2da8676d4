/-
  ready's Halt, with its errors.
  ready's Rank, with its errors.
  ready's Start, with its errors.
  ready's Wake, with its errors.
  Block, with its errors.
-/
import Derived.Test.YtgbckpojoagbnaaGreatDoorMvBase
import Derived.Test.YtgbckpojoagbnaaGreatDoorRyYield
import Derived.Test.YtgbckpojoagbnaaGreatDoorRyWake
import Derived.Test.YtgbckpojoagbnaaGreatDoorRbWait
namespace Go.Proofs.YtgbckpojoagbnaaGreatDoor
open Classical
open Go.RowKit FerryCrc
set_option linter.unusedVariables false
set_option linter.unusedSimpArgs false

set_option maxRecDepth 100000 in
set_option maxHeartbeats 4000000 in
theorem halt_any {w : World} {E : Nat → Addr} (he : Er9 w E) (pa : Option Addr) (pn pc : Nat) (l : List Pro) (hp : Pros w pa pn pc l) (ra : Option Addr) (rn rc : Nat) (r : List Int) (hr : Is w ra rn rc r) (ta : Option Addr) (tn tc : Nat) (t : List Tm) (ht : Tms w ta tn tc t) (hmp : pn ≤ 9223372036854775807) (hmr : rn ≤ 9223372036854775807) (hmt : tn ≤ 9223372036854775807) (p st : Int) :
    Calls Tryz.prog 16 #[.agg #[.slice pa pn pc, .slice ra rn rc, .slice ta tn tc], .int .i64 p, .int .i64 st] w fun e w' => ∃ a1 n1 c1 a2 n2 c2 a3 n3 c3 v, e = .returned (.tuple #[.agg #[.slice a1 n1 c1, .slice a2 n2 c2, .slice a3 n3 c3], v]) ∧ Bare E v (ofE (Good l r t) (OkP l p [1] ∧ (st = 0 ∨ st = 3))) ∧ Tab w' w.heap.size (.slice a1 n1 c1) (.slice a2 n2 c2) (.slice a3 n3 c3) (ownT (Good l r t ∧ (OkP l p [1] ∧ (st = 0 ∨ st = 3))) (setAt l p (fun q => { q with state := st }))) (ownT (Good l r t ∧ (OkP l p [1] ∧ (st = 0 ∨ st = 3))) (outOf r p)) (ownT (Good l r t ∧ (OkP l p [1] ∧ (st = 0 ∨ st = 3))) t) ∧ Below w.heap.size w w' := by
  have X1 := new_below w (.cells #[.slice pa pn pc, .slice ra rn rc, .slice ta tn tc] 37)
  have X2 := new_below (w.alloc (.cells #[.slice pa pn pc, .slice ra rn rc, .slice ta tn tc] 37)) (.cells #[.slice none 0 0, .slice none 0 0, .slice none 0 0] 37)
  have BX0 : Bl (w.alloc (.cells #[.slice pa pn pc, .slice ra rn rc, .slice ta tn tc] 37)) w.heap.size [.slice pa pn pc, .slice ra rn rc, .slice ta tn tc] := bl_alloc w #[.slice pa pn pc, .slice ra rn rc, .slice ta tn tc] 37
  have BX := hide (BX0.below (by simp) X2)
  have BG : Hid (Bl ((w.alloc (.cells #[.slice pa pn pc, .slice ra rn rc, .slice ta tn tc] 37)).alloc (.cells #[.slice none 0 0, .slice none 0 0, .slice none 0 0] 37)) (w.heap.size + 1) [.slice none 0 0, .slice none 0 0, .slice none 0 0]) := by
    have := bl_alloc (w.alloc (.cells #[.slice pa pn pc, .slice ra rn rc, .slice ta tn tc] 37)) #[.slice none 0 0, .slice none 0 0, .slice none 0 0] 37
    rw [show (w.alloc (.cells #[.slice pa pn pc, .slice ra rn rc, .slice ta tn tc] 37)).heap.size = w.heap.size + 1 by simp] at this
    exact this
  have HB0 := hide (chain X1 X2)
  have hz : ((w.alloc (.cells #[.slice pa pn pc, .slice ra rn rc, .slice ta tn tc] 37)).alloc (.cells #[.slice none 0 0, .slice none 0 0, .slice none 0 0] 37)).heap.size = w.heap.size + 2 := by simp
  have HS := hide (hp.below HB0.out)
  have HI := hide (hr.below HB0.out)
  have HT := hide (ht.below HB0.out)
  have HE := hide (he.below HB0.out)
  have HL : Hid (l.length = pn) := hp.size
  have HLR : Hid (r.length = rn) := hr.size
  have HGL : Hid (0 < w.heap.size) := block_lt_of_cell he.v12
  clear X1 X2 BX0 hp hr ht he
  go_enter Tryz.func16, Tryz.ntmps16
  go_upto_region 1 with fail
  generalize (w.alloc (.cells #[.slice pa pn pc, .slice ra rn rc, .slice ta tn tc] 37)).alloc (.cells #[.slice none 0 0, .slice none 0 0, .slice none 0 0] 37) = W0 at *
  have HZ := hide hz
  clear hz
  have hl2 : Hid (w.heap.size + 1 < W0.heap.size) := by unfold Hid; rw [HZ.out]; omega
  have b0 := BX.out.cell 0 _ rfl
  have b1 := BX.out.cell 1 _ rfl
  have b2 := BX.out.cell 2 _ rfl
  have Y1 := new_below W0 (.cells #[.int .i64 1] 3)
  have HST : Hid (Is (W0.alloc (.cells #[.int .i64 1] 3)) (some ⟨W0.heap.size, 0, none⟩) 1 1 [1]) := by
    refine ⟨rfl, ⟨rfl, by decide, fun e => by simp at e, fun j v hv => ⟨_, _, rfl, ?_⟩⟩⟩
    rw [World.cell?_alloc_at _ _ _ _ rfl]
    simpa [ci] using hv
  have HSY := hide (HS.out.below Y1)
  have HIY := hide (HI.out.below Y1)
  have HTY := hide (HT.out.below Y1)
  have HEY := hide (HE.out.below Y1)
  have BGY := hide (BG.out.below hl2.out Y1)
  have HBY := hide (HB0.out.trans (Y1.mono HB0.out.size))
  have hl3 : Hid (w.heap.size + 1 < (W0.alloc (.cells #[.int .i64 1] 3)).heap.size) := Nat.lt_of_lt_of_le hl2.out Y1.size
  clear Y1
  go_wp2_with fail
  generalize W0.alloc (.cells #[.int .i64 1] 3) = WY at *
  refine Calls.mono (ownOf_any HEY.out pa pn pc l HSY.out ra rn rc r HIY.out ta tn tc t HTY.out hmp hmr hmt p (some ⟨W0.heap.size, 0, none⟩) 1 1 [1] HST.out (by decide)) ?_
  rintro e w1 ⟨a1, n1, c1, a2, n2, c2, a3, n3, c3, v, rfl, hv, htab, x1⟩
  have X3 := new_below w1 (.cells #[.slice a1 n1 c1, .slice a2 n2 c2, .slice a3 n3 c3] 37)
  have x2 := chain x1 X3
  have HE1 := hide (HEY.out.below x2)
  have HM := hide (mine_new htab x1.size 37)
  have BG1 := hide (BGY.out.below hl3.out x2)
  have B1 := hide (HBY.out.trans (x2.mono HBY.out.size))
  have hb1 : Hid (w.heap.size + 1 < WY.heap.size) := hl3.out
  have hb2 : Hid (w.heap.size ≤ WY.heap.size) := HBY.out.size
  clear htab x1 x2 X3 b0 b1 b2
  by_cases hk : Good l r t ∧ OkP l p [1]
  case neg =>
    have hne : ofE (Good l r t) (OkP l p [1]) ≠ 0 := by
      unfold ofE
      by_cases hg : Good l r t
      · rw [if_pos hg, if_neg (fun h => hk ⟨hg, h⟩)]; decide
      · rw [if_neg hg]; decide
    have hkk : ¬ (Good l r t ∧ (OkP l p [1] ∧ (st = 0 ∨ st = 3))) := fun h => hk ⟨h.1, h.2.1⟩
    have HO : Hid (ownT (Good l r t ∧ (OkP l p [1] ∧ (st = 0 ∨ st = 3))) (setAt l p (fun q => { q with state := st })) = [] ∧ ownT (Good l r t ∧ (OkP l p [1] ∧ (st = 0 ∨ st = 3))) (outOf r p) = [] ∧ ownT (Good l r t ∧ (OkP l p [1] ∧ (st = 0 ∨ st = 3))) t = []) := ⟨if_neg hkk, if_neg hkk, if_neg hkk⟩
    have HOE : Hid (ofE (Good l r t) (OkP l p [1] ∧ (st = 0 ∨ st = 3)) = ofE (Good l r t) (OkP l p [1])) := ofE_no hk
    obtain ⟨ee, hee⟩ : ∃ ee, ofE (Good l r t) (OkP l p [1]) = ee := ⟨_, rfl⟩
    rw [hee] at hv hne
    have HV := hide hv
    have HEE := hide hee
    obtain rfl := bare_ne hv hne
    clear hee
    have B2 := hide (below3 (g := w.heap.size + 1) (.slice none 0 0) (.slice none 0 0) (.slice none 0 0) B1.out (by omega))
    have G1 := hide (bl_three BG1.out (.slice none 0 0) (.slice none 0 0) (.slice none 0 0))
    clear hk hkk hne hv
    go_upto_region 2 with fail
    generalize w1.alloc (.cells #[.slice a1 n1 c1, .slice a2 n2 c2, .slice a3 n3 c3] 37) = W1 at *
    have g0 := BG1.out.cell 0 _ rfl
    have g1 := BG1.out.cell 1 _ rfl
    have g2 := BG1.out.cell 2 _ rfl
    have f0 := BG1.out.free 0
    have f1 := BG1.out.free 1
    have f2 := BG1.out.free 2
    unfold sent
    go_wp2
    generalize ((W1.setCell ⟨w.heap.size + 1, 0, none⟩ (.slice none 0 0)).setCell ⟨w.heap.size + 1, 1, none⟩ (.slice none 0 0)).setCell ⟨w.heap.size + 1, 2, none⟩ (.slice none 0 0) = W9 at *
    have e0 := G1.out.cell 0 _ rfl
    have e1 := G1.out.cell 1 _ rfl
    have e2 := G1.out.cell 2 _ rfl
    (try simp only [Exit.inBlock, Exit.then])
    refine bodyPost_ret (v := .tuple #[.agg #[.slice none 0 0, .slice none 0 0, .slice none 0 0], sent (E ee)]) (by simp [results, Tryz.results16, go_sem, e0, e1, e2, sent]) rfl ?_
    exact ⟨_, _, _, _, _, _, _, _, _, _, rfl, by rw [HOE.out, HEE.out]; exact HV.out, by rw [HO.out.1, HO.out.2.1, HO.out.2.2]; exact tab_nil _ _, B2.out⟩
  obtain ⟨hgood, hok⟩ := hk
  have hE : ofE (Good l r t) (OkP l p [1]) = 0 := ofE_ok hgood hok
  have hT1 : ownT (Good l r t ∧ OkP l p [1]) l = l := if_pos ⟨hgood, hok⟩
  have hT2 : ownT (Good l r t ∧ OkP l p [1]) r = r := if_pos ⟨hgood, hok⟩
  have hT3 : ownT (Good l r t ∧ OkP l p [1]) t = t := if_pos ⟨hgood, hok⟩
  rw [hE] at hv
  rw [hT1, hT2, hT3] at HM
  obtain rfl := bare0 hv
  have HOKP := hide hok
  obtain ⟨k, q, rfl, hkq, hst⟩ := okP_at hok
  have HR8 := hide (goodR_few hgood.2.2.1 hgood.1)
  have HF8 : Hid (Form t 8) := ⟨fun x hx => by have h1 := hgood.2.2.2.1.1 x hx; have h2 := hgood.1; unfold Tm.In at h1 ⊢; omega, hgood.2.2.2.1.2⟩
  have HT8 := hide hgood.tfew
  have HL8 := hide hgood.1
  have HGD := hide hgood
  have HKQ := hide hkq
  have HST := hide hst
  have HKL : Hid (k < l.length) := (List.getElem?_eq_some_iff.1 hkq).1
  obtain ⟨g, rfl⟩ : ∃ g, a1 = some ⟨g, 0, none⟩ := by
    rcases HM.out.tab.p.2 with ⟨e1, e2⟩ | ⟨g, cap, cur, e1, _⟩
    · have := HKL.out
      omega
    · simp only [Value.slice.injEq] at e1
      exact ⟨g, e1.1⟩
  obtain rfl : n1 = l.length := by
    obtain ⟨a, c, e, _⟩ := prown_pros HM.out.tab.p
    simp only [Value.slice.injEq] at e
    exact e.2.1
  have HGB : Hid (WY.heap.size ≤ g) := (HM.out.tab.p.lt g rfl).1
  clear hE hT1 hT2 hT3 hv hgood hok hkq hst
  go_upto_region 2 with fail
  generalize w1.alloc (.cells #[.slice (some ⟨g, 0, none⟩) l.length c1, .slice a2 n2 c2, .slice a3 n3 c3] 37) = W1 at *
  generalize w1.heap.size = mb at *
  have hbase : Hid (WY.heap.size ≤ W1.heap.size) := Nat.le_trans HM.out.hb (Nat.le_of_lt HM.out.lt)
  have hk1 : (k : Int) < (l.length : Int) := by have := HKL.out; omega
  have hk0 : (0 : Int) ≤ (k : Int) := by omega
  by_cases hx : (st = 0 ∨ st = 3)
  case neg =>
    have d1 : (st != 0) = true := by simp; omega
    have d2 : (st != 3) = true := by simp; omega
    have HO : Hid (ofE (Good l r t) (OkP l (k : Int) [1] ∧ (st = 0 ∨ st = 3)) = 12 ∧ ownT (Good l r t ∧ (OkP l (k : Int) [1] ∧ (st = 0 ∨ st = 3))) (setAt l (k : Int) (fun q => { q with state := st })) = [] ∧ ownT (Good l r t ∧ (OkP l (k : Int) [1] ∧ (st = 0 ∨ st = 3))) (outOf r (k : Int)) = [] ∧ ownT (Good l r t ∧ (OkP l (k : Int) [1] ∧ (st = 0 ∨ st = 3))) t = []) := ⟨ofE_arg HGD.out hx, if_neg (fun h => hx h.2.2), if_neg (fun h => hx h.2.2), if_neg (fun h => hx h.2.2)⟩
    have v12 := HE1.out.v12
    have hne : 0 ≠ w.heap.size + 1 := by have h9 := HGL.out; omega
    have v12s := glob3 v12 hne (.slice none 0 0) (.slice none 0 0) (.slice none 0 0)
    have B2 := hide (below3 (g := w.heap.size + 1) (.slice none 0 0) (.slice none 0 0) (.slice none 0 0) B1.out (by omega))
    have G1 := hide (bl_three BG1.out (.slice none 0 0) (.slice none 0 0) (.slice none 0 0))
    have g0 := BG1.out.cell 0 _ rfl
    have g1 := BG1.out.cell 1 _ rfl
    have g2 := BG1.out.cell 2 _ rfl
    have f0 := BG1.out.free 0
    have f1 := BG1.out.free 1
    have f2 := BG1.out.free 2
    clear hx
    go_wp2
    go_region_held3 (fun wz => wz.cell? ⟨0, 0, none⟩ = some (sent (E 12))) (first | exact v12 | exact v12s) (fail)
    generalize (((W1.setCell ⟨w.heap.size + 1, 0, none⟩ (.slice none 0 0)).setCell ⟨w.heap.size + 1, 1, none⟩ (.slice none 0 0)).setCell ⟨w.heap.size + 1, 2, none⟩ (.slice none 0 0)) = W9 at *
    go_wp2
    have e0 : W9.drew.cell? ⟨w.heap.size + 1, 0, none⟩ = _ := G1.out.cell 0 _ rfl
    have e1 : W9.drew.cell? ⟨w.heap.size + 1, 1, none⟩ = _ := G1.out.cell 1 _ rfl
    have e2 : W9.drew.cell? ⟨w.heap.size + 1, 2, none⟩ = _ := G1.out.cell 2 _ rfl
    (try simp only [Exit.inBlock, Exit.then])
    refine bodyPost_ret (v := .tuple #[.agg #[.slice none 0 0, .slice none 0 0, .slice none 0 0], sent (E 12)]) (by simp [results, Tryz.results16, go_sem, e0, e1, e2]) rfl ?_
    exact ⟨_, _, _, _, _, _, _, _, _, _, rfl, by rw [HO.out.1]; exact bare_sent E 12 (by decide) (by decide), by rw [HO.out.2.1, HO.out.2.2.1, HO.out.2.2.2]; exact tab_nil _ _, B2.out.drew⟩
  by_cases h0 : st = 0
  · have d1 : (st != 0) = false := by simp [h0]
    clear h0
    have HO : Hid (ofE (Good l r t) (OkP l (k : Int) [1] ∧ (st = 0 ∨ st = 3)) = 0 ∧ ownT (Good l r t ∧ (OkP l (k : Int) [1] ∧ (st = 0 ∨ st = 3))) (setAt l (k : Int) (fun q => { q with state := st })) = (setAt l (k : Int) (fun q => { q with state := st })) ∧ ownT (Good l r t ∧ (OkP l (k : Int) [1] ∧ (st = 0 ∨ st = 3))) (outOf r (k : Int)) = (outOf r (k : Int)) ∧ ownT (Good l r t ∧ (OkP l (k : Int) [1] ∧ (st = 0 ∨ st = 3))) t = t) := ⟨ofE_ok HGD.out ⟨HOKP.out, hx⟩, if_pos ⟨HGD.out, HOKP.out, hx⟩, if_pos ⟨HGD.out, HOKP.out, hx⟩, if_pos ⟨HGD.out, HOKP.out, hx⟩⟩
    have m0 := HM.out.bl.cell 0 _ rfl
    have qc : W1.cell? ⟨g, k * 21 + 17, none⟩ = some (.int .i64 q.state) := own_cellB HM.out.tab.p HKQ.out (by decide) rfl
    have fc : W1.frozen? ⟨g, k * 21 + 17, none⟩ = false := own_freeB HM.out.tab.p _
    go_upto_region 7 with fail
    have HM2 := hide (HM.out.put (j := 17) (q' := { q with state := st }) (u := .int .i64 st) HKQ.out (by decide) rfl)
    have Y2 := hide ((Below.refl WY.heap.size W1).setCell (p := ⟨g, k * 21 + 17, none⟩) HGB.out (.int .i64 st))
    clear qc fc m0
    generalize W1.setCell ⟨g, k * 21 + 17, none⟩ (.int .i64 st) = W2 at *
    go_wp2_with fail
    refine Calls.mono (leave_any W2 WY.heap.size mb _ _ _ a2 n2 c2 a3 n3 c3 _ r t HM2.out (k : Int) HR8.out) ?_
    rintro e w3 ⟨rfl, ⟨a5, n5, c5, hm3⟩, y3⟩
    have HM3 := hide hm3
    have Y3 := hide (Y2.out.trans y3)
    clear hm3 y3
    have BG3 : Hid (Bl w3 (w.heap.size + 1) [.slice none 0 0, .slice none 0 0, .slice none 0 0]) :=
      ⟨fun j v hv => by rw [Y3.out.cell (p := ⟨w.heap.size + 1, j, none⟩) hb1.out]; exact BG1.out.cell j v hv, fun j => by rw [Y3.out.frozen (p := ⟨w.heap.size + 1, j, none⟩) hb1.out]; exact BG1.out.free j⟩
    have B3 := hide (B1.out.trans (Y3.out.mono hb2.out))
    have B4 := hide (below3 (g := w.heap.size + 1) (.slice (some ⟨g, 0, none⟩) l.length c1) (.slice a5 n5 c5) (.slice a3 n3 c3) B3.out (by omega))
    have G1 := hide (bl_three BG3.out (.slice (some ⟨g, 0, none⟩) l.length c1) (.slice a5 n5 c5) (.slice a3 n3 c3))
    have T1 := hide ((HM3.out.tab.three (g := w.heap.size + 1) hb1.out (.slice (some ⟨g, 0, none⟩) l.length c1) (.slice a5 n5 c5) (.slice a3 n3 c3)).weaken hb2.out)
    have g0 := BG3.out.cell 0 _ rfl
    have g1 := BG3.out.cell 1 _ rfl
    have g2 := BG3.out.cell 2 _ rfl
    have f0 := BG3.out.free 0
    have f1 := BG3.out.free 1
    have f2 := BG3.out.free 2
    have m0 := HM3.out.bl.cell 0 _ rfl
    have m1 := HM3.out.bl.cell 1 _ rfl
    have m2 := HM3.out.bl.cell 2 _ rfl
    go_wp2
    generalize (((w3.setCell ⟨w.heap.size + 1, 0, none⟩ (.slice (some ⟨g, 0, none⟩) l.length c1)).setCell ⟨w.heap.size + 1, 1, none⟩ (.slice a5 n5 c5)).setCell ⟨w.heap.size + 1, 2, none⟩ (.slice a3 n3 c3)) = W9 at *
    have e0 := G1.out.cell 0 _ rfl
    have e1 := G1.out.cell 1 _ rfl
    have e2 := G1.out.cell 2 _ rfl
    (try simp only [Exit.inBlock, Exit.then])
    refine bodyPost_ret (v := .tuple #[.agg #[.slice (some ⟨g, 0, none⟩) l.length c1, .slice a5 n5 c5, .slice a3 n3 c3], .nilIface]) (by simp [results, Tryz.results16, go_sem, e0, e1, e2]) rfl ?_
    exact ⟨_, _, _, _, _, _, _, _, _, _, rfl, by rw [HO.out.1]; exact bare_nil E, by rw [HO.out.2.1, HO.out.2.2.1, HO.out.2.2.2, setAt_of HKQ.out]; exact T1.out, B4.out⟩
  · have d1 : (st != 0) = true := by simp [h0]
    have d2 : (st != 3) = false := by simp; omega
    clear h0
    have HO : Hid (ofE (Good l r t) (OkP l (k : Int) [1] ∧ (st = 0 ∨ st = 3)) = 0 ∧ ownT (Good l r t ∧ (OkP l (k : Int) [1] ∧ (st = 0 ∨ st = 3))) (setAt l (k : Int) (fun q => { q with state := st })) = (setAt l (k : Int) (fun q => { q with state := st })) ∧ ownT (Good l r t ∧ (OkP l (k : Int) [1] ∧ (st = 0 ∨ st = 3))) (outOf r (k : Int)) = (outOf r (k : Int)) ∧ ownT (Good l r t ∧ (OkP l (k : Int) [1] ∧ (st = 0 ∨ st = 3))) t = t) := ⟨ofE_ok HGD.out ⟨HOKP.out, hx⟩, if_pos ⟨HGD.out, HOKP.out, hx⟩, if_pos ⟨HGD.out, HOKP.out, hx⟩, if_pos ⟨HGD.out, HOKP.out, hx⟩⟩
    have m0 := HM.out.bl.cell 0 _ rfl
    have qc : W1.cell? ⟨g, k * 21 + 17, none⟩ = some (.int .i64 q.state) := own_cellB HM.out.tab.p HKQ.out (by decide) rfl
    have fc : W1.frozen? ⟨g, k * 21 + 17, none⟩ = false := own_freeB HM.out.tab.p _
    go_upto_region 7 with fail
    have HM2 := hide (HM.out.put (j := 17) (q' := { q with state := st }) (u := .int .i64 st) HKQ.out (by decide) rfl)
    have Y2 := hide ((Below.refl WY.heap.size W1).setCell (p := ⟨g, k * 21 + 17, none⟩) HGB.out (.int .i64 st))
    clear qc fc m0
    generalize W1.setCell ⟨g, k * 21 + 17, none⟩ (.int .i64 st) = W2 at *
    go_wp2_with fail
    refine Calls.mono (leave_any W2 WY.heap.size mb _ _ _ a2 n2 c2 a3 n3 c3 _ r t HM2.out (k : Int) HR8.out) ?_
    rintro e w3 ⟨rfl, ⟨a5, n5, c5, hm3⟩, y3⟩
    have HM3 := hide hm3
    have Y3 := hide (Y2.out.trans y3)
    clear hm3 y3
    have BG3 : Hid (Bl w3 (w.heap.size + 1) [.slice none 0 0, .slice none 0 0, .slice none 0 0]) :=
      ⟨fun j v hv => by rw [Y3.out.cell (p := ⟨w.heap.size + 1, j, none⟩) hb1.out]; exact BG1.out.cell j v hv, fun j => by rw [Y3.out.frozen (p := ⟨w.heap.size + 1, j, none⟩) hb1.out]; exact BG1.out.free j⟩
    have B3 := hide (B1.out.trans (Y3.out.mono hb2.out))
    have B4 := hide (below3 (g := w.heap.size + 1) (.slice (some ⟨g, 0, none⟩) l.length c1) (.slice a5 n5 c5) (.slice a3 n3 c3) B3.out (by omega))
    have G1 := hide (bl_three BG3.out (.slice (some ⟨g, 0, none⟩) l.length c1) (.slice a5 n5 c5) (.slice a3 n3 c3))
    have T1 := hide ((HM3.out.tab.three (g := w.heap.size + 1) hb1.out (.slice (some ⟨g, 0, none⟩) l.length c1) (.slice a5 n5 c5) (.slice a3 n3 c3)).weaken hb2.out)
    have g0 := BG3.out.cell 0 _ rfl
    have g1 := BG3.out.cell 1 _ rfl
    have g2 := BG3.out.cell 2 _ rfl
    have f0 := BG3.out.free 0
    have f1 := BG3.out.free 1
    have f2 := BG3.out.free 2
    have m0 := HM3.out.bl.cell 0 _ rfl
    have m1 := HM3.out.bl.cell 1 _ rfl
    have m2 := HM3.out.bl.cell 2 _ rfl
    go_wp2
    generalize (((w3.setCell ⟨w.heap.size + 1, 0, none⟩ (.slice (some ⟨g, 0, none⟩) l.length c1)).setCell ⟨w.heap.size + 1, 1, none⟩ (.slice a5 n5 c5)).setCell ⟨w.heap.size + 1, 2, none⟩ (.slice a3 n3 c3)) = W9 at *
    have e0 := G1.out.cell 0 _ rfl
    have e1 := G1.out.cell 1 _ rfl
    have e2 := G1.out.cell 2 _ rfl
    (try simp only [Exit.inBlock, Exit.then])
    refine bodyPost_ret (v := .tuple #[.agg #[.slice (some ⟨g, 0, none⟩) l.length c1, .slice a5 n5 c5, .slice a3 n3 c3], .nilIface]) (by simp [results, Tryz.results16, go_sem, e0, e1, e2]) rfl ?_
    exact ⟨_, _, _, _, _, _, _, _, _, _, rfl, by rw [HO.out.1]; exact bare_nil E, by rw [HO.out.2.1, HO.out.2.2.1, HO.out.2.2.2, setAt_of HKQ.out]; exact T1.out, B4.out⟩
end Go.Proofs.YtgbckpojoagbnaaGreatDoor
namespace Go.Proofs.YtgbckpojoagbnaaGreatDoor
open Classical
open Go.RowKit FerryCrc
set_option linter.unusedVariables false
set_option linter.unusedSimpArgs false

set_option maxRecDepth 100000 in
set_option maxHeartbeats 4000000 in
theorem rank_any {w : World} {E : Nat → Addr} (he : Er9 w E) (pa : Option Addr) (pn pc : Nat) (l : List Pro) (hp : Pros w pa pn pc l) (ra : Option Addr) (rn rc : Nat) (r : List Int) (hr : Is w ra rn rc r) (ta : Option Addr) (tn tc : Nat) (t : List Tm) (ht : Tms w ta tn tc t) (hmp : pn ≤ 9223372036854775807) (hmr : rn ≤ 9223372036854775807) (hmt : tn ≤ 9223372036854775807) (p pr : Int) :
    Calls Tryz.prog 18 #[.agg #[.slice pa pn pc, .slice ra rn rc, .slice ta tn tc], .int .i64 p, .int .i64 pr] w fun e w' => ∃ a1 n1 c1 a2 n2 c2 a3 n3 c3 v, e = .returned (.tuple #[.agg #[.slice a1 n1 c1, .slice a2 n2 c2, .slice a3 n3 c3], v]) ∧ Bare E v (ofE (Good l r t) (OkP l p [0, 1, 2, 3] ∧ (0 ≤ pr ∧ pr ≤ 255))) ∧ Tab w' w.heap.size (.slice a1 n1 c1) (.slice a2 n2 c2) (.slice a3 n3 c3) (ownT (Good l r t ∧ (OkP l p [0, 1, 2, 3] ∧ (0 ≤ pr ∧ pr ≤ 255))) (setAt l p (fun q => { q with prio := pr }))) (ownT (Good l r t ∧ (OkP l p [0, 1, 2, 3] ∧ (0 ≤ pr ∧ pr ≤ 255))) r) (ownT (Good l r t ∧ (OkP l p [0, 1, 2, 3] ∧ (0 ≤ pr ∧ pr ≤ 255))) t) ∧ Below w.heap.size w w' := by
  have X1 := new_below w (.cells #[.slice pa pn pc, .slice ra rn rc, .slice ta tn tc] 37)
  have X2 := new_below (w.alloc (.cells #[.slice pa pn pc, .slice ra rn rc, .slice ta tn tc] 37)) (.cells #[.slice none 0 0, .slice none 0 0, .slice none 0 0] 37)
  have BX0 : Bl (w.alloc (.cells #[.slice pa pn pc, .slice ra rn rc, .slice ta tn tc] 37)) w.heap.size [.slice pa pn pc, .slice ra rn rc, .slice ta tn tc] := bl_alloc w #[.slice pa pn pc, .slice ra rn rc, .slice ta tn tc] 37
  have BX := hide (BX0.below (by simp) X2)
  have BG : Hid (Bl ((w.alloc (.cells #[.slice pa pn pc, .slice ra rn rc, .slice ta tn tc] 37)).alloc (.cells #[.slice none 0 0, .slice none 0 0, .slice none 0 0] 37)) (w.heap.size + 1) [.slice none 0 0, .slice none 0 0, .slice none 0 0]) := by
    have := bl_alloc (w.alloc (.cells #[.slice pa pn pc, .slice ra rn rc, .slice ta tn tc] 37)) #[.slice none 0 0, .slice none 0 0, .slice none 0 0] 37
    rw [show (w.alloc (.cells #[.slice pa pn pc, .slice ra rn rc, .slice ta tn tc] 37)).heap.size = w.heap.size + 1 by simp] at this
    exact this
  have HB0 := hide (chain X1 X2)
  have hz : ((w.alloc (.cells #[.slice pa pn pc, .slice ra rn rc, .slice ta tn tc] 37)).alloc (.cells #[.slice none 0 0, .slice none 0 0, .slice none 0 0] 37)).heap.size = w.heap.size + 2 := by simp
  have HS := hide (hp.below HB0.out)
  have HI := hide (hr.below HB0.out)
  have HT := hide (ht.below HB0.out)
  have HE := hide (he.below HB0.out)
  have HL : Hid (l.length = pn) := hp.size
  have HLR : Hid (r.length = rn) := hr.size
  have HGL : Hid (0 < w.heap.size) := block_lt_of_cell he.v12
  clear X1 X2 BX0 hp hr ht he
  go_enter Tryz.func18, Tryz.ntmps18
  go_upto_region 1 with fail
  generalize (w.alloc (.cells #[.slice pa pn pc, .slice ra rn rc, .slice ta tn tc] 37)).alloc (.cells #[.slice none 0 0, .slice none 0 0, .slice none 0 0] 37) = W0 at *
  have HZ := hide hz
  clear hz
  have hl2 : Hid (w.heap.size + 1 < W0.heap.size) := by unfold Hid; rw [HZ.out]; omega
  have b0 := BX.out.cell 0 _ rfl
  have b1 := BX.out.cell 1 _ rfl
  have b2 := BX.out.cell 2 _ rfl
  have Y1 := new_below W0 (.cells #[.int .i64 0, .int .i64 1, .int .i64 2, .int .i64 3] 3)
  have HST : Hid (Is (W0.alloc (.cells #[.int .i64 0, .int .i64 1, .int .i64 2, .int .i64 3] 3)) (some ⟨W0.heap.size, 0, none⟩) 4 4 [0, 1, 2, 3]) := by
    refine ⟨rfl, ⟨rfl, by decide, fun e => by simp at e, fun j v hv => ⟨_, _, rfl, ?_⟩⟩⟩
    rw [World.cell?_alloc_at _ _ _ _ rfl]
    simpa [ci] using hv
  have HSY := hide (HS.out.below Y1)
  have HIY := hide (HI.out.below Y1)
  have HTY := hide (HT.out.below Y1)
  have HEY := hide (HE.out.below Y1)
  have BGY := hide (BG.out.below hl2.out Y1)
  have HBY := hide (HB0.out.trans (Y1.mono HB0.out.size))
  have hl3 : Hid (w.heap.size + 1 < (W0.alloc (.cells #[.int .i64 0, .int .i64 1, .int .i64 2, .int .i64 3] 3)).heap.size) := Nat.lt_of_lt_of_le hl2.out Y1.size
  clear Y1
  go_wp2_with fail
  generalize W0.alloc (.cells #[.int .i64 0, .int .i64 1, .int .i64 2, .int .i64 3] 3) = WY at *
  refine Calls.mono (ownOf_any HEY.out pa pn pc l HSY.out ra rn rc r HIY.out ta tn tc t HTY.out hmp hmr hmt p (some ⟨W0.heap.size, 0, none⟩) 4 4 [0, 1, 2, 3] HST.out (by decide)) ?_
  rintro e w1 ⟨a1, n1, c1, a2, n2, c2, a3, n3, c3, v, rfl, hv, htab, x1⟩
  have X3 := new_below w1 (.cells #[.slice a1 n1 c1, .slice a2 n2 c2, .slice a3 n3 c3] 37)
  have x2 := chain x1 X3
  have HE1 := hide (HEY.out.below x2)
  have HM := hide (mine_new htab x1.size 37)
  have BG1 := hide (BGY.out.below hl3.out x2)
  have B1 := hide (HBY.out.trans (x2.mono HBY.out.size))
  have hb1 : Hid (w.heap.size + 1 < WY.heap.size) := hl3.out
  have hb2 : Hid (w.heap.size ≤ WY.heap.size) := HBY.out.size
  clear htab x1 x2 X3 b0 b1 b2
  by_cases hk : Good l r t ∧ OkP l p [0, 1, 2, 3]
  case neg =>
    have hne : ofE (Good l r t) (OkP l p [0, 1, 2, 3]) ≠ 0 := by
      unfold ofE
      by_cases hg : Good l r t
      · rw [if_pos hg, if_neg (fun h => hk ⟨hg, h⟩)]; decide
      · rw [if_neg hg]; decide
    have hkk : ¬ (Good l r t ∧ (OkP l p [0, 1, 2, 3] ∧ (0 ≤ pr ∧ pr ≤ 255))) := fun h => hk ⟨h.1, h.2.1⟩
    have HO : Hid (ownT (Good l r t ∧ (OkP l p [0, 1, 2, 3] ∧ (0 ≤ pr ∧ pr ≤ 255))) (setAt l p (fun q => { q with prio := pr })) = [] ∧ ownT (Good l r t ∧ (OkP l p [0, 1, 2, 3] ∧ (0 ≤ pr ∧ pr ≤ 255))) r = [] ∧ ownT (Good l r t ∧ (OkP l p [0, 1, 2, 3] ∧ (0 ≤ pr ∧ pr ≤ 255))) t = []) := ⟨if_neg hkk, if_neg hkk, if_neg hkk⟩
    have HOE : Hid (ofE (Good l r t) (OkP l p [0, 1, 2, 3] ∧ (0 ≤ pr ∧ pr ≤ 255)) = ofE (Good l r t) (OkP l p [0, 1, 2, 3])) := ofE_no hk
    obtain ⟨ee, hee⟩ : ∃ ee, ofE (Good l r t) (OkP l p [0, 1, 2, 3]) = ee := ⟨_, rfl⟩
    rw [hee] at hv hne
    have HV := hide hv
    have HEE := hide hee
    obtain rfl := bare_ne hv hne
    clear hee
    have B2 := hide (below3 (g := w.heap.size + 1) (.slice none 0 0) (.slice none 0 0) (.slice none 0 0) B1.out (by omega))
    have G1 := hide (bl_three BG1.out (.slice none 0 0) (.slice none 0 0) (.slice none 0 0))
    clear hk hkk hne hv
    go_upto_region 2 with fail
    generalize w1.alloc (.cells #[.slice a1 n1 c1, .slice a2 n2 c2, .slice a3 n3 c3] 37) = W1 at *
    have g0 := BG1.out.cell 0 _ rfl
    have g1 := BG1.out.cell 1 _ rfl
    have g2 := BG1.out.cell 2 _ rfl
    have f0 := BG1.out.free 0
    have f1 := BG1.out.free 1
    have f2 := BG1.out.free 2
    unfold sent
    go_wp2
    generalize ((W1.setCell ⟨w.heap.size + 1, 0, none⟩ (.slice none 0 0)).setCell ⟨w.heap.size + 1, 1, none⟩ (.slice none 0 0)).setCell ⟨w.heap.size + 1, 2, none⟩ (.slice none 0 0) = W9 at *
    have e0 := G1.out.cell 0 _ rfl
    have e1 := G1.out.cell 1 _ rfl
    have e2 := G1.out.cell 2 _ rfl
    (try simp only [Exit.inBlock, Exit.then])
    refine bodyPost_ret (v := .tuple #[.agg #[.slice none 0 0, .slice none 0 0, .slice none 0 0], sent (E ee)]) (by simp [results, Tryz.results18, go_sem, e0, e1, e2, sent]) rfl ?_
    exact ⟨_, _, _, _, _, _, _, _, _, _, rfl, by rw [HOE.out, HEE.out]; exact HV.out, by rw [HO.out.1, HO.out.2.1, HO.out.2.2]; exact tab_nil _ _, B2.out⟩
  obtain ⟨hgood, hok⟩ := hk
  have hE : ofE (Good l r t) (OkP l p [0, 1, 2, 3]) = 0 := ofE_ok hgood hok
  have hT1 : ownT (Good l r t ∧ OkP l p [0, 1, 2, 3]) l = l := if_pos ⟨hgood, hok⟩
  have hT2 : ownT (Good l r t ∧ OkP l p [0, 1, 2, 3]) r = r := if_pos ⟨hgood, hok⟩
  have hT3 : ownT (Good l r t ∧ OkP l p [0, 1, 2, 3]) t = t := if_pos ⟨hgood, hok⟩
  rw [hE] at hv
  rw [hT1, hT2, hT3] at HM
  obtain rfl := bare0 hv
  have HOKP := hide hok
  obtain ⟨k, q, rfl, hkq, hst⟩ := okP_at hok
  have HR8 := hide (goodR_few hgood.2.2.1 hgood.1)
  have HF8 : Hid (Form t 8) := ⟨fun x hx => by have h1 := hgood.2.2.2.1.1 x hx; have h2 := hgood.1; unfold Tm.In at h1 ⊢; omega, hgood.2.2.2.1.2⟩
  have HT8 := hide hgood.tfew
  have HL8 := hide hgood.1
  have HGD := hide hgood
  have HKQ := hide hkq
  have HST := hide hst
  have HKL : Hid (k < l.length) := (List.getElem?_eq_some_iff.1 hkq).1
  obtain ⟨g, rfl⟩ : ∃ g, a1 = some ⟨g, 0, none⟩ := by
    rcases HM.out.tab.p.2 with ⟨e1, e2⟩ | ⟨g, cap, cur, e1, _⟩
    · have := HKL.out
      omega
    · simp only [Value.slice.injEq] at e1
      exact ⟨g, e1.1⟩
  obtain rfl : n1 = l.length := by
    obtain ⟨a, c, e, _⟩ := prown_pros HM.out.tab.p
    simp only [Value.slice.injEq] at e
    exact e.2.1
  have HGB : Hid (WY.heap.size ≤ g) := (HM.out.tab.p.lt g rfl).1
  clear hE hT1 hT2 hT3 hv hgood hok hkq hst
  go_upto_region 2 with fail
  generalize w1.alloc (.cells #[.slice (some ⟨g, 0, none⟩) l.length c1, .slice a2 n2 c2, .slice a3 n3 c3] 37) = W1 at *
  generalize w1.heap.size = mb at *
  have hbase : Hid (WY.heap.size ≤ W1.heap.size) := Nat.le_trans HM.out.hb (Nat.le_of_lt HM.out.lt)
  have hk1 : (k : Int) < (l.length : Int) := by have := HKL.out; omega
  have hk0 : (0 : Int) ≤ (k : Int) := by omega
  go_wp2_with fail
  refine Calls.mono (isPrio_any pr W1) ?_
  rintro e w' ⟨rfl, rfl⟩
  by_cases hx : (0 ≤ pr ∧ pr ≤ 255)
  case neg =>
    rw [decide_eq_false hx]
    have HO : Hid (ofE (Good l r t) (OkP l (k : Int) [0, 1, 2, 3] ∧ (0 ≤ pr ∧ pr ≤ 255)) = 12 ∧ ownT (Good l r t ∧ (OkP l (k : Int) [0, 1, 2, 3] ∧ (0 ≤ pr ∧ pr ≤ 255))) (setAt l (k : Int) (fun q => { q with prio := pr })) = [] ∧ ownT (Good l r t ∧ (OkP l (k : Int) [0, 1, 2, 3] ∧ (0 ≤ pr ∧ pr ≤ 255))) r = [] ∧ ownT (Good l r t ∧ (OkP l (k : Int) [0, 1, 2, 3] ∧ (0 ≤ pr ∧ pr ≤ 255))) t = []) := ⟨ofE_arg HGD.out hx, if_neg (fun h => hx h.2.2), if_neg (fun h => hx h.2.2), if_neg (fun h => hx h.2.2)⟩
    have v12 := HE1.out.v12
    have hne : 0 ≠ w.heap.size + 1 := by have h9 := HGL.out; omega
    have v12s := glob3 v12 hne (.slice none 0 0) (.slice none 0 0) (.slice none 0 0)
    have B2 := hide (below3 (g := w.heap.size + 1) (.slice none 0 0) (.slice none 0 0) (.slice none 0 0) B1.out (by omega))
    have G1 := hide (bl_three BG1.out (.slice none 0 0) (.slice none 0 0) (.slice none 0 0))
    have g0 := BG1.out.cell 0 _ rfl
    have g1 := BG1.out.cell 1 _ rfl
    have g2 := BG1.out.cell 2 _ rfl
    have f0 := BG1.out.free 0
    have f1 := BG1.out.free 1
    have f2 := BG1.out.free 2
    clear hx
    go_wp2
    go_region_held3 (fun wz => wz.cell? ⟨0, 0, none⟩ = some (sent (E 12))) (first | exact v12 | exact v12s) (fail)
    generalize (((w'.setCell ⟨w.heap.size + 1, 0, none⟩ (.slice none 0 0)).setCell ⟨w.heap.size + 1, 1, none⟩ (.slice none 0 0)).setCell ⟨w.heap.size + 1, 2, none⟩ (.slice none 0 0)) = W9 at *
    go_wp2
    have e0 : W9.drew.cell? ⟨w.heap.size + 1, 0, none⟩ = _ := G1.out.cell 0 _ rfl
    have e1 : W9.drew.cell? ⟨w.heap.size + 1, 1, none⟩ = _ := G1.out.cell 1 _ rfl
    have e2 : W9.drew.cell? ⟨w.heap.size + 1, 2, none⟩ = _ := G1.out.cell 2 _ rfl
    (try simp only [Exit.inBlock, Exit.then])
    refine bodyPost_ret (v := .tuple #[.agg #[.slice none 0 0, .slice none 0 0, .slice none 0 0], sent (E 12)]) (by simp [results, Tryz.results18, go_sem, e0, e1, e2]) rfl ?_
    exact ⟨_, _, _, _, _, _, _, _, _, _, rfl, by rw [HO.out.1]; exact bare_sent E 12 (by decide) (by decide), by rw [HO.out.2.1, HO.out.2.2.1, HO.out.2.2.2]; exact tab_nil _ _, B2.out.drew⟩
  rw [decide_eq_true hx]
  have HO : Hid (ofE (Good l r t) (OkP l (k : Int) [0, 1, 2, 3] ∧ (0 ≤ pr ∧ pr ≤ 255)) = 0 ∧ ownT (Good l r t ∧ (OkP l (k : Int) [0, 1, 2, 3] ∧ (0 ≤ pr ∧ pr ≤ 255))) (setAt l (k : Int) (fun q => { q with prio := pr })) = (setAt l (k : Int) (fun q => { q with prio := pr })) ∧ ownT (Good l r t ∧ (OkP l (k : Int) [0, 1, 2, 3] ∧ (0 ≤ pr ∧ pr ≤ 255))) r = r ∧ ownT (Good l r t ∧ (OkP l (k : Int) [0, 1, 2, 3] ∧ (0 ≤ pr ∧ pr ≤ 255))) t = t) := ⟨ofE_ok HGD.out ⟨HOKP.out, hx⟩, if_pos ⟨HGD.out, HOKP.out, hx⟩, if_pos ⟨HGD.out, HOKP.out, hx⟩, if_pos ⟨HGD.out, HOKP.out, hx⟩⟩
  have m0 := HM.out.bl.cell 0 _ rfl
  have qc : w'.cell? ⟨g, k * 21 + 18, none⟩ = some (.int .i64 q.prio) := own_cellB HM.out.tab.p HKQ.out (by decide) rfl
  have fc : w'.frozen? ⟨g, k * 21 + 18, none⟩ = false := own_freeB HM.out.tab.p _
  go_upto_region 7 with fail
  have HM3 := hide (HM.out.put (j := 18) (q' := { q with prio := pr }) (u := .int .i64 pr) HKQ.out (by decide) rfl)
  have Y2 := hide ((Below.refl WY.heap.size w').setCell (p := ⟨g, k * 21 + 18, none⟩) HGB.out (.int .i64 pr))
  clear qc fc m0
  generalize w'.setCell ⟨g, k * 21 + 18, none⟩ (.int .i64 pr) = W2 at *
  have Y3 := hide Y2.out
  have BG3 : Hid (Bl W2 (w.heap.size + 1) [.slice none 0 0, .slice none 0 0, .slice none 0 0]) :=
    ⟨fun j v hv => by rw [Y3.out.cell (p := ⟨w.heap.size + 1, j, none⟩) hb1.out]; exact BG1.out.cell j v hv, fun j => by rw [Y3.out.frozen (p := ⟨w.heap.size + 1, j, none⟩) hb1.out]; exact BG1.out.free j⟩
  have B3 := hide (B1.out.trans (Y3.out.mono hb2.out))
  have B4 := hide (below3 (g := w.heap.size + 1) (.slice (some ⟨g, 0, none⟩) l.length c1) (.slice a2 n2 c2) (.slice a3 n3 c3) B3.out (by omega))
  have G1 := hide (bl_three BG3.out (.slice (some ⟨g, 0, none⟩) l.length c1) (.slice a2 n2 c2) (.slice a3 n3 c3))
  have T1 := hide ((HM3.out.tab.three (g := w.heap.size + 1) hb1.out (.slice (some ⟨g, 0, none⟩) l.length c1) (.slice a2 n2 c2) (.slice a3 n3 c3)).weaken hb2.out)
  have g0 := BG3.out.cell 0 _ rfl
  have g1 := BG3.out.cell 1 _ rfl
  have g2 := BG3.out.cell 2 _ rfl
  have f0 := BG3.out.free 0
  have f1 := BG3.out.free 1
  have f2 := BG3.out.free 2
  have m0 := HM3.out.bl.cell 0 _ rfl
  have m1 := HM3.out.bl.cell 1 _ rfl
  have m2 := HM3.out.bl.cell 2 _ rfl
  go_wp2
  generalize (((W2.setCell ⟨w.heap.size + 1, 0, none⟩ (.slice (some ⟨g, 0, none⟩) l.length c1)).setCell ⟨w.heap.size + 1, 1, none⟩ (.slice a2 n2 c2)).setCell ⟨w.heap.size + 1, 2, none⟩ (.slice a3 n3 c3)) = W9 at *
  have e0 := G1.out.cell 0 _ rfl
  have e1 := G1.out.cell 1 _ rfl
  have e2 := G1.out.cell 2 _ rfl
  (try simp only [Exit.inBlock, Exit.then])
  refine bodyPost_ret (v := .tuple #[.agg #[.slice (some ⟨g, 0, none⟩) l.length c1, .slice a2 n2 c2, .slice a3 n3 c3], .nilIface]) (by simp [results, Tryz.results18, go_sem, e0, e1, e2]) rfl ?_
  exact ⟨_, _, _, _, _, _, _, _, _, _, rfl, by rw [HO.out.1]; exact bare_nil E, by rw [HO.out.2.1, HO.out.2.2.1, HO.out.2.2.2, setAt_of HKQ.out]; exact T1.out, B4.out⟩
end Go.Proofs.YtgbckpojoagbnaaGreatDoor
namespace Go.Proofs.YtgbckpojoagbnaaGreatDoor
open Classical
open Go.RowKit FerryCrc
set_option linter.unusedVariables false
set_option linter.unusedSimpArgs false

set_option maxRecDepth 100000 in
set_option maxHeartbeats 4000000 in
theorem start_any {w : World} {E : Nat → Addr} (he : Er9 w E) (pa : Option Addr) (pn pc : Nat) (l : List Pro) (hp : Pros w pa pn pc l) (ra : Option Addr) (rn rc : Nat) (r : List Int) (hr : Is w ra rn rc r) (ta : Option Addr) (tn tc : Nat) (t : List Tm) (ht : Tms w ta tn tc t) (hmp : pn ≤ 9223372036854775807) (hmr : rn ≤ 9223372036854775807) (hmt : tn ≤ 9223372036854775807) (p x pr : Int) :
    Calls Tryz.prog 17 #[.agg #[.slice pa pn pc, .slice ra rn rc, .slice ta tn tc], .int .i64 p, .int .u32 x, .int .i64 pr] w fun e w' => ∃ a1 n1 c1 a2 n2 c2 a3 n3 c3 v, e = .returned (.tuple #[.agg #[.slice a1 n1 c1, .slice a2 n2 c2, .slice a3 n3 c3], v]) ∧ Bare E v (ofE (Good l r t) (OkP l p [0, 3] ∧ (0 ≤ pr ∧ pr ≤ 255))) ∧ Tab w' w.heap.size (.slice a1 n1 c1) (.slice a2 n2 c2) (.slice a3 n3 c3) (ownT (Good l r t ∧ (OkP l p [0, 3] ∧ (0 ≤ pr ∧ pr ≤ 255))) (setAt l p (fun _ => newP x pr))) (ownT (Good l r t ∧ (OkP l p [0, 3] ∧ (0 ≤ pr ∧ pr ≤ 255))) (r ++ [p])) (ownT (Good l r t ∧ (OkP l p [0, 3] ∧ (0 ≤ pr ∧ pr ≤ 255))) t) ∧ Below w.heap.size w w' := by
  have X1 := new_below w (.cells #[.slice pa pn pc, .slice ra rn rc, .slice ta tn tc] 37)
  have X2 := new_below (w.alloc (.cells #[.slice pa pn pc, .slice ra rn rc, .slice ta tn tc] 37)) (.cells #[.slice none 0 0, .slice none 0 0, .slice none 0 0] 37)
  have BX0 : Bl (w.alloc (.cells #[.slice pa pn pc, .slice ra rn rc, .slice ta tn tc] 37)) w.heap.size [.slice pa pn pc, .slice ra rn rc, .slice ta tn tc] := bl_alloc w #[.slice pa pn pc, .slice ra rn rc, .slice ta tn tc] 37
  have BX := hide (BX0.below (by simp) X2)
  have BG : Hid (Bl ((w.alloc (.cells #[.slice pa pn pc, .slice ra rn rc, .slice ta tn tc] 37)).alloc (.cells #[.slice none 0 0, .slice none 0 0, .slice none 0 0] 37)) (w.heap.size + 1) [.slice none 0 0, .slice none 0 0, .slice none 0 0]) := by
    have := bl_alloc (w.alloc (.cells #[.slice pa pn pc, .slice ra rn rc, .slice ta tn tc] 37)) #[.slice none 0 0, .slice none 0 0, .slice none 0 0] 37
    rw [show (w.alloc (.cells #[.slice pa pn pc, .slice ra rn rc, .slice ta tn tc] 37)).heap.size = w.heap.size + 1 by simp] at this
    exact this
  have HB0 := hide (chain X1 X2)
  have hz : ((w.alloc (.cells #[.slice pa pn pc, .slice ra rn rc, .slice ta tn tc] 37)).alloc (.cells #[.slice none 0 0, .slice none 0 0, .slice none 0 0] 37)).heap.size = w.heap.size + 2 := by simp
  have HS := hide (hp.below HB0.out)
  have HI := hide (hr.below HB0.out)
  have HT := hide (ht.below HB0.out)
  have HE := hide (he.below HB0.out)
  have HL : Hid (l.length = pn) := hp.size
  have HLR : Hid (r.length = rn) := hr.size
  have HGL : Hid (0 < w.heap.size) := block_lt_of_cell he.v12
  clear X1 X2 BX0 hp hr ht he
  go_enter Tryz.func17, Tryz.ntmps17
  go_upto_region 1 with fail
  generalize (w.alloc (.cells #[.slice pa pn pc, .slice ra rn rc, .slice ta tn tc] 37)).alloc (.cells #[.slice none 0 0, .slice none 0 0, .slice none 0 0] 37) = W0 at *
  have HZ := hide hz
  clear hz
  have hl2 : Hid (w.heap.size + 1 < W0.heap.size) := by unfold Hid; rw [HZ.out]; omega
  have b0 := BX.out.cell 0 _ rfl
  have b1 := BX.out.cell 1 _ rfl
  have b2 := BX.out.cell 2 _ rfl
  have Y1 := new_below W0 (.cells #[.int .i64 0, .int .i64 3] 3)
  have HST : Hid (Is (W0.alloc (.cells #[.int .i64 0, .int .i64 3] 3)) (some ⟨W0.heap.size, 0, none⟩) 2 2 [0, 3]) := by
    refine ⟨rfl, ⟨rfl, by decide, fun e => by simp at e, fun j v hv => ⟨_, _, rfl, ?_⟩⟩⟩
    rw [World.cell?_alloc_at _ _ _ _ rfl]
    simpa [ci] using hv
  have HSY := hide (HS.out.below Y1)
  have HIY := hide (HI.out.below Y1)
  have HTY := hide (HT.out.below Y1)
  have HEY := hide (HE.out.below Y1)
  have BGY := hide (BG.out.below hl2.out Y1)
  have HBY := hide (HB0.out.trans (Y1.mono HB0.out.size))
  have hl3 : Hid (w.heap.size + 1 < (W0.alloc (.cells #[.int .i64 0, .int .i64 3] 3)).heap.size) := Nat.lt_of_lt_of_le hl2.out Y1.size
  clear Y1
  go_wp2_with fail
  generalize W0.alloc (.cells #[.int .i64 0, .int .i64 3] 3) = WY at *
  refine Calls.mono (ownOf_any HEY.out pa pn pc l HSY.out ra rn rc r HIY.out ta tn tc t HTY.out hmp hmr hmt p (some ⟨W0.heap.size, 0, none⟩) 2 2 [0, 3] HST.out (by decide)) ?_
  rintro e w1 ⟨a1, n1, c1, a2, n2, c2, a3, n3, c3, v, rfl, hv, htab, x1⟩
  have X3 := new_below w1 (.cells #[.slice a1 n1 c1, .slice a2 n2 c2, .slice a3 n3 c3] 37)
  have x2 := chain x1 X3
  have HE1 := hide (HEY.out.below x2)
  have HM := hide (mine_new htab x1.size 37)
  have BG1 := hide (BGY.out.below hl3.out x2)
  have B1 := hide (HBY.out.trans (x2.mono HBY.out.size))
  have hb1 : Hid (w.heap.size + 1 < WY.heap.size) := hl3.out
  have hb2 : Hid (w.heap.size ≤ WY.heap.size) := HBY.out.size
  clear htab x1 x2 X3 b0 b1 b2
  by_cases hk : Good l r t ∧ OkP l p [0, 3]
  case neg =>
    have hne : ofE (Good l r t) (OkP l p [0, 3]) ≠ 0 := by
      unfold ofE
      by_cases hg : Good l r t
      · rw [if_pos hg, if_neg (fun h => hk ⟨hg, h⟩)]; decide
      · rw [if_neg hg]; decide
    have hkk : ¬ (Good l r t ∧ (OkP l p [0, 3] ∧ (0 ≤ pr ∧ pr ≤ 255))) := fun h => hk ⟨h.1, h.2.1⟩
    have HO : Hid (ownT (Good l r t ∧ (OkP l p [0, 3] ∧ (0 ≤ pr ∧ pr ≤ 255))) (setAt l p (fun _ => newP x pr)) = [] ∧ ownT (Good l r t ∧ (OkP l p [0, 3] ∧ (0 ≤ pr ∧ pr ≤ 255))) (r ++ [p]) = [] ∧ ownT (Good l r t ∧ (OkP l p [0, 3] ∧ (0 ≤ pr ∧ pr ≤ 255))) t = []) := ⟨if_neg hkk, if_neg hkk, if_neg hkk⟩
    have HOE : Hid (ofE (Good l r t) (OkP l p [0, 3] ∧ (0 ≤ pr ∧ pr ≤ 255)) = ofE (Good l r t) (OkP l p [0, 3])) := ofE_no hk
    obtain ⟨ee, hee⟩ : ∃ ee, ofE (Good l r t) (OkP l p [0, 3]) = ee := ⟨_, rfl⟩
    rw [hee] at hv hne
    have HV := hide hv
    have HEE := hide hee
    obtain rfl := bare_ne hv hne
    clear hee
    have B2 := hide (below3 (g := w.heap.size + 1) (.slice none 0 0) (.slice none 0 0) (.slice none 0 0) B1.out (by omega))
    have G1 := hide (bl_three BG1.out (.slice none 0 0) (.slice none 0 0) (.slice none 0 0))
    clear hk hkk hne hv
    go_upto_region 2 with fail
    generalize w1.alloc (.cells #[.slice a1 n1 c1, .slice a2 n2 c2, .slice a3 n3 c3] 37) = W1 at *
    have g0 := BG1.out.cell 0 _ rfl
    have g1 := BG1.out.cell 1 _ rfl
    have g2 := BG1.out.cell 2 _ rfl
    have f0 := BG1.out.free 0
    have f1 := BG1.out.free 1
    have f2 := BG1.out.free 2
    unfold sent
    go_wp2
    generalize ((W1.setCell ⟨w.heap.size + 1, 0, none⟩ (.slice none 0 0)).setCell ⟨w.heap.size + 1, 1, none⟩ (.slice none 0 0)).setCell ⟨w.heap.size + 1, 2, none⟩ (.slice none 0 0) = W9 at *
    have e0 := G1.out.cell 0 _ rfl
    have e1 := G1.out.cell 1 _ rfl
    have e2 := G1.out.cell 2 _ rfl
    (try simp only [Exit.inBlock, Exit.then])
    refine bodyPost_ret (v := .tuple #[.agg #[.slice none 0 0, .slice none 0 0, .slice none 0 0], sent (E ee)]) (by simp [results, Tryz.results17, go_sem, e0, e1, e2, sent]) rfl ?_
    exact ⟨_, _, _, _, _, _, _, _, _, _, rfl, by rw [HOE.out, HEE.out]; exact HV.out, by rw [HO.out.1, HO.out.2.1, HO.out.2.2]; exact tab_nil _ _, B2.out⟩
  obtain ⟨hgood, hok⟩ := hk
  have hE : ofE (Good l r t) (OkP l p [0, 3]) = 0 := ofE_ok hgood hok
  have hT1 : ownT (Good l r t ∧ OkP l p [0, 3]) l = l := if_pos ⟨hgood, hok⟩
  have hT2 : ownT (Good l r t ∧ OkP l p [0, 3]) r = r := if_pos ⟨hgood, hok⟩
  have hT3 : ownT (Good l r t ∧ OkP l p [0, 3]) t = t := if_pos ⟨hgood, hok⟩
  rw [hE] at hv
  rw [hT1, hT2, hT3] at HM
  obtain rfl := bare0 hv
  have HOKP := hide hok
  obtain ⟨k, q, rfl, hkq, hst⟩ := okP_at hok
  have HR8 := hide (goodR_few hgood.2.2.1 hgood.1)
  have HF8 : Hid (Form t 8) := ⟨fun x hx => by have h1 := hgood.2.2.2.1.1 x hx; have h2 := hgood.1; unfold Tm.In at h1 ⊢; omega, hgood.2.2.2.1.2⟩
  have HT8 := hide hgood.tfew
  have HL8 := hide hgood.1
  have HGD := hide hgood
  have HKQ := hide hkq
  have HST := hide hst
  have HKL : Hid (k < l.length) := (List.getElem?_eq_some_iff.1 hkq).1
  obtain ⟨g, rfl⟩ : ∃ g, a1 = some ⟨g, 0, none⟩ := by
    rcases HM.out.tab.p.2 with ⟨e1, e2⟩ | ⟨g, cap, cur, e1, _⟩
    · have := HKL.out
      omega
    · simp only [Value.slice.injEq] at e1
      exact ⟨g, e1.1⟩
  obtain rfl : n1 = l.length := by
    obtain ⟨a, c, e, _⟩ := prown_pros HM.out.tab.p
    simp only [Value.slice.injEq] at e
    exact e.2.1
  have HGB : Hid (WY.heap.size ≤ g) := (HM.out.tab.p.lt g rfl).1
  clear hE hT1 hT2 hT3 hv hgood hok hkq hst
  go_upto_region 2 with fail
  generalize w1.alloc (.cells #[.slice (some ⟨g, 0, none⟩) l.length c1, .slice a2 n2 c2, .slice a3 n3 c3] 37) = W1 at *
  generalize w1.heap.size = mb at *
  have hbase : Hid (WY.heap.size ≤ W1.heap.size) := Nat.le_trans HM.out.hb (Nat.le_of_lt HM.out.lt)
  have hk1 : (k : Int) < (l.length : Int) := by have := HKL.out; omega
  have hk0 : (0 : Int) ≤ (k : Int) := by omega
  go_wp2_with fail
  refine Calls.mono (isPrio_any pr W1) ?_
  rintro e w' ⟨rfl, rfl⟩
  by_cases hx : (0 ≤ pr ∧ pr ≤ 255)
  case neg =>
    rw [decide_eq_false hx]
    have HO : Hid (ofE (Good l r t) (OkP l (k : Int) [0, 3] ∧ (0 ≤ pr ∧ pr ≤ 255)) = 12 ∧ ownT (Good l r t ∧ (OkP l (k : Int) [0, 3] ∧ (0 ≤ pr ∧ pr ≤ 255))) (setAt l (k : Int) (fun _ => newP x pr)) = [] ∧ ownT (Good l r t ∧ (OkP l (k : Int) [0, 3] ∧ (0 ≤ pr ∧ pr ≤ 255))) (r ++ [(k : Int)]) = [] ∧ ownT (Good l r t ∧ (OkP l (k : Int) [0, 3] ∧ (0 ≤ pr ∧ pr ≤ 255))) t = []) := ⟨ofE_arg HGD.out hx, if_neg (fun h => hx h.2.2), if_neg (fun h => hx h.2.2), if_neg (fun h => hx h.2.2)⟩
    have v12 := HE1.out.v12
    have hne : 0 ≠ w.heap.size + 1 := by have h9 := HGL.out; omega
    have v12s := glob3 v12 hne (.slice none 0 0) (.slice none 0 0) (.slice none 0 0)
    have B2 := hide (below3 (g := w.heap.size + 1) (.slice none 0 0) (.slice none 0 0) (.slice none 0 0) B1.out (by omega))
    have G1 := hide (bl_three BG1.out (.slice none 0 0) (.slice none 0 0) (.slice none 0 0))
    have g0 := BG1.out.cell 0 _ rfl
    have g1 := BG1.out.cell 1 _ rfl
    have g2 := BG1.out.cell 2 _ rfl
    have f0 := BG1.out.free 0
    have f1 := BG1.out.free 1
    have f2 := BG1.out.free 2
    clear hx
    go_wp2
    go_region_held3 (fun wz => wz.cell? ⟨0, 0, none⟩ = some (sent (E 12))) (first | exact v12 | exact v12s) (fail)
    generalize (((w'.setCell ⟨w.heap.size + 1, 0, none⟩ (.slice none 0 0)).setCell ⟨w.heap.size + 1, 1, none⟩ (.slice none 0 0)).setCell ⟨w.heap.size + 1, 2, none⟩ (.slice none 0 0)) = W9 at *
    go_wp2
    have e0 : W9.drew.cell? ⟨w.heap.size + 1, 0, none⟩ = _ := G1.out.cell 0 _ rfl
    have e1 : W9.drew.cell? ⟨w.heap.size + 1, 1, none⟩ = _ := G1.out.cell 1 _ rfl
    have e2 : W9.drew.cell? ⟨w.heap.size + 1, 2, none⟩ = _ := G1.out.cell 2 _ rfl
    (try simp only [Exit.inBlock, Exit.then])
    refine bodyPost_ret (v := .tuple #[.agg #[.slice none 0 0, .slice none 0 0, .slice none 0 0], sent (E 12)]) (by simp [results, Tryz.results17, go_sem, e0, e1, e2]) rfl ?_
    exact ⟨_, _, _, _, _, _, _, _, _, _, rfl, by rw [HO.out.1]; exact bare_sent E 12 (by decide) (by decide), by rw [HO.out.2.1, HO.out.2.2.1, HO.out.2.2.2]; exact tab_nil _ _, B2.out.drew⟩
  rw [decide_eq_true hx]
  have HO : Hid (ofE (Good l r t) (OkP l (k : Int) [0, 3] ∧ (0 ≤ pr ∧ pr ≤ 255)) = 0 ∧ ownT (Good l r t ∧ (OkP l (k : Int) [0, 3] ∧ (0 ≤ pr ∧ pr ≤ 255))) (setAt l (k : Int) (fun _ => newP x pr)) = (setAt l (k : Int) (fun _ => newP x pr)) ∧ ownT (Good l r t ∧ (OkP l (k : Int) [0, 3] ∧ (0 ≤ pr ∧ pr ≤ 255))) (r ++ [(k : Int)]) = (r ++ [(k : Int)]) ∧ ownT (Good l r t ∧ (OkP l (k : Int) [0, 3] ∧ (0 ≤ pr ∧ pr ≤ 255))) t = t) := ⟨ofE_ok HGD.out ⟨HOKP.out, hx⟩, if_pos ⟨HGD.out, HOKP.out, hx⟩, if_pos ⟨HGD.out, HOKP.out, hx⟩, if_pos ⟨HGD.out, HOKP.out, hx⟩⟩
  have m0 := HM.out.bl.cell 0 _ rfl
  have hth : Hid (w'.there g (k * 21) (newP x pr).cells.toArray.size) := fun j hj => by
    have hj' : j < 21 := hj
    have h0 : j < q.cells.length := by rw [pro21]; exact hj'
    exact ⟨by rw [own_cellB HM.out.tab.p HKQ.out hj' (List.getElem?_eq_getElem h0)]; rfl, own_freeB HM.out.tab.p _⟩
  go_upto_region 7 with (refine wpList_store_mid rfl 59 (.tmp 34) (.tmp 33) rfl g (k * 21) (newP x pr).cells.toArray rfl rfl hth.out sizeProc (pro_all _) ?_)
  (try simp only [List.toList_toArray])
  have HM2 := hide (HM.out.putRow HKL.out (newP x pr))
  have Y2 := hide (below_cells HGB.out (newP x pr).cells (k * 21) w' (Below.refl WY.heap.size w'))
  clear m0 hth
  generalize w'.setCells g (k * 21) (newP x pr).cells = W2 at *
  go_wp2_with fail
  refine Calls.mono (join_any W2 WY.heap.size mb _ _ _ a2 n2 c2 a3 n3 c3 _ r t HM2.out (k : Int) HR8.out) ?_
  rintro e w3 ⟨rfl, ⟨a5, n5, c5, hm3⟩, y3⟩
  have HM3 := hide hm3
  have Y3 := hide (Y2.out.trans y3)
  clear hm3 y3
  have BG3 : Hid (Bl w3 (w.heap.size + 1) [.slice none 0 0, .slice none 0 0, .slice none 0 0]) :=
    ⟨fun j v hv => by rw [Y3.out.cell (p := ⟨w.heap.size + 1, j, none⟩) hb1.out]; exact BG1.out.cell j v hv, fun j => by rw [Y3.out.frozen (p := ⟨w.heap.size + 1, j, none⟩) hb1.out]; exact BG1.out.free j⟩
  have B3 := hide (B1.out.trans (Y3.out.mono hb2.out))
  have B4 := hide (below3 (g := w.heap.size + 1) (.slice (some ⟨g, 0, none⟩) l.length c1) (.slice a5 n5 c5) (.slice a3 n3 c3) B3.out (by omega))
  have G1 := hide (bl_three BG3.out (.slice (some ⟨g, 0, none⟩) l.length c1) (.slice a5 n5 c5) (.slice a3 n3 c3))
  have T1 := hide ((HM3.out.tab.three (g := w.heap.size + 1) hb1.out (.slice (some ⟨g, 0, none⟩) l.length c1) (.slice a5 n5 c5) (.slice a3 n3 c3)).weaken hb2.out)
  have g0 := BG3.out.cell 0 _ rfl
  have g1 := BG3.out.cell 1 _ rfl
  have g2 := BG3.out.cell 2 _ rfl
  have f0 := BG3.out.free 0
  have f1 := BG3.out.free 1
  have f2 := BG3.out.free 2
  have m0 := HM3.out.bl.cell 0 _ rfl
  have m1 := HM3.out.bl.cell 1 _ rfl
  have m2 := HM3.out.bl.cell 2 _ rfl
  go_wp2
  generalize (((w3.setCell ⟨w.heap.size + 1, 0, none⟩ (.slice (some ⟨g, 0, none⟩) l.length c1)).setCell ⟨w.heap.size + 1, 1, none⟩ (.slice a5 n5 c5)).setCell ⟨w.heap.size + 1, 2, none⟩ (.slice a3 n3 c3)) = W9 at *
  have e0 := G1.out.cell 0 _ rfl
  have e1 := G1.out.cell 1 _ rfl
  have e2 := G1.out.cell 2 _ rfl
  (try simp only [Exit.inBlock, Exit.then])
  refine bodyPost_ret (v := .tuple #[.agg #[.slice (some ⟨g, 0, none⟩) l.length c1, .slice a5 n5 c5, .slice a3 n3 c3], .nilIface]) (by simp [results, Tryz.results17, go_sem, e0, e1, e2]) rfl ?_
  exact ⟨_, _, _, _, _, _, _, _, _, _, rfl, by rw [HO.out.1]; exact bare_nil E, by rw [HO.out.2.1, HO.out.2.2.1, HO.out.2.2.2, setAt_of HKQ.out]; exact T1.out, B4.out⟩
end Go.Proofs.YtgbckpojoagbnaaGreatDoor
namespace Go.Proofs.YtgbckpojoagbnaaGreatDoor
open Classical
open Go.RowKit FerryCrc
set_option linter.unusedVariables false
set_option linter.unusedSimpArgs false

set_option maxRecDepth 100000 in
set_option maxHeartbeats 4000000 in
theorem wakeE_any {w : World} {E : Nat → Addr} (he : Er9 w E) (pa : Option Addr) (pn pc : Nat) (l : List Pro) (hp : Pros w pa pn pc l) (ra : Option Addr) (rn rc : Nat) (r : List Int) (hr : Is w ra rn rc r) (ta : Option Addr) (tn tc : Nat) (t : List Tm) (ht : Tms w ta tn tc t) (hmp : pn ≤ 9223372036854775807) (hmr : rn ≤ 9223372036854775807) (hmt : tn ≤ 9223372036854775807) (p x : Int) :
    Calls Tryz.prog 15 #[.agg #[.slice pa pn pc, .slice ra rn rc, .slice ta tn tc], .int .i64 p, .int .u32 x] w fun e w' => ∃ a1 n1 c1 a2 n2 c2 a3 n3 c3 v, e = .returned (.tuple #[.agg #[.slice a1 n1 c1, .slice a2 n2 c2, .slice a3 n3 c3], v]) ∧ Bare E v (ofE (Good l r t) (OkP l p [2])) ∧ Tab w' w.heap.size (.slice a1 n1 c1) (.slice a2 n2 c2) (.slice a3 n3 c3) (ownT (Good l r t ∧ OkP l p [2]) (setAt l p (fun q => wokenP q x))) (ownT (Good l r t ∧ OkP l p [2]) (r ++ [p])) (ownT (Good l r t ∧ OkP l p [2]) (others t p)) ∧ Below w.heap.size w w' := by
  have X1 := new_below w (.cells #[.slice pa pn pc, .slice ra rn rc, .slice ta tn tc] 37)
  have X2 := new_below (w.alloc (.cells #[.slice pa pn pc, .slice ra rn rc, .slice ta tn tc] 37)) (.cells #[.slice none 0 0, .slice none 0 0, .slice none 0 0] 37)
  have BX0 : Bl (w.alloc (.cells #[.slice pa pn pc, .slice ra rn rc, .slice ta tn tc] 37)) w.heap.size [.slice pa pn pc, .slice ra rn rc, .slice ta tn tc] := bl_alloc w #[.slice pa pn pc, .slice ra rn rc, .slice ta tn tc] 37
  have BX := hide (BX0.below (by simp) X2)
  have BG : Hid (Bl ((w.alloc (.cells #[.slice pa pn pc, .slice ra rn rc, .slice ta tn tc] 37)).alloc (.cells #[.slice none 0 0, .slice none 0 0, .slice none 0 0] 37)) (w.heap.size + 1) [.slice none 0 0, .slice none 0 0, .slice none 0 0]) := by
    have := bl_alloc (w.alloc (.cells #[.slice pa pn pc, .slice ra rn rc, .slice ta tn tc] 37)) #[.slice none 0 0, .slice none 0 0, .slice none 0 0] 37
    rw [show (w.alloc (.cells #[.slice pa pn pc, .slice ra rn rc, .slice ta tn tc] 37)).heap.size = w.heap.size + 1 by simp] at this
    exact this
  have HB0 := hide (chain X1 X2)
  have hz : ((w.alloc (.cells #[.slice pa pn pc, .slice ra rn rc, .slice ta tn tc] 37)).alloc (.cells #[.slice none 0 0, .slice none 0 0, .slice none 0 0] 37)).heap.size = w.heap.size + 2 := by simp
  have HS := hide (hp.below HB0.out)
  have HI := hide (hr.below HB0.out)
  have HT := hide (ht.below HB0.out)
  have HE := hide (he.below HB0.out)
  have HL : Hid (l.length = pn) := hp.size
  have HLR : Hid (r.length = rn) := hr.size
  have HGL : Hid (0 < w.heap.size) := block_lt_of_cell he.v12
  clear X1 X2 BX0 hp hr ht he
  go_enter Tryz.func15, Tryz.ntmps15
  go_upto_region 1 with fail
  generalize (w.alloc (.cells #[.slice pa pn pc, .slice ra rn rc, .slice ta tn tc] 37)).alloc (.cells #[.slice none 0 0, .slice none 0 0, .slice none 0 0] 37) = W0 at *
  have HZ := hide hz
  clear hz
  have hl2 : Hid (w.heap.size + 1 < W0.heap.size) := by unfold Hid; rw [HZ.out]; omega
  have b0 := BX.out.cell 0 _ rfl
  have b1 := BX.out.cell 1 _ rfl
  have b2 := BX.out.cell 2 _ rfl
  have Y1 := new_below W0 (.cells #[.int .i64 2] 3)
  have HST : Hid (Is (W0.alloc (.cells #[.int .i64 2] 3)) (some ⟨W0.heap.size, 0, none⟩) 1 1 [2]) := by
    refine ⟨rfl, ⟨rfl, by decide, fun e => by simp at e, fun j v hv => ⟨_, _, rfl, ?_⟩⟩⟩
    rw [World.cell?_alloc_at _ _ _ _ rfl]
    simpa [ci] using hv
  have HSY := hide (HS.out.below Y1)
  have HIY := hide (HI.out.below Y1)
  have HTY := hide (HT.out.below Y1)
  have HEY := hide (HE.out.below Y1)
  have BGY := hide (BG.out.below hl2.out Y1)
  have HBY := hide (HB0.out.trans (Y1.mono HB0.out.size))
  have hl3 : Hid (w.heap.size + 1 < (W0.alloc (.cells #[.int .i64 2] 3)).heap.size) := Nat.lt_of_lt_of_le hl2.out Y1.size
  clear Y1
  go_wp2_with fail
  generalize W0.alloc (.cells #[.int .i64 2] 3) = WY at *
  refine Calls.mono (ownOf_any HEY.out pa pn pc l HSY.out ra rn rc r HIY.out ta tn tc t HTY.out hmp hmr hmt p (some ⟨W0.heap.size, 0, none⟩) 1 1 [2] HST.out (by decide)) ?_
  rintro e w1 ⟨a1, n1, c1, a2, n2, c2, a3, n3, c3, v, rfl, hv, htab, x1⟩
  have X3 := new_below w1 (.cells #[.slice a1 n1 c1, .slice a2 n2 c2, .slice a3 n3 c3] 37)
  have x2 := chain x1 X3
  have HE1 := hide (HEY.out.below x2)
  have HM := hide (mine_new htab x1.size 37)
  have BG1 := hide (BGY.out.below hl3.out x2)
  have B1 := hide (HBY.out.trans (x2.mono HBY.out.size))
  have hb1 : Hid (w.heap.size + 1 < WY.heap.size) := hl3.out
  have hb2 : Hid (w.heap.size ≤ WY.heap.size) := HBY.out.size
  clear htab x1 x2 X3 b0 b1 b2
  by_cases hk : Good l r t ∧ OkP l p [2]
  case neg =>
    have hne : ofE (Good l r t) (OkP l p [2]) ≠ 0 := by
      unfold ofE
      by_cases hg : Good l r t
      · rw [if_pos hg, if_neg (fun h => hk ⟨hg, h⟩)]; decide
      · rw [if_neg hg]; decide
    have hkk : ¬ (Good l r t ∧ OkP l p [2]) := fun h => hk ⟨h.1, h.2⟩
    have HO : Hid (ownT (Good l r t ∧ OkP l p [2]) (setAt l p (fun q => wokenP q x)) = [] ∧ ownT (Good l r t ∧ OkP l p [2]) (r ++ [p]) = [] ∧ ownT (Good l r t ∧ OkP l p [2]) (others t p) = []) := ⟨if_neg hkk, if_neg hkk, if_neg hkk⟩
    obtain ⟨ee, hee⟩ : ∃ ee, ofE (Good l r t) (OkP l p [2]) = ee := ⟨_, rfl⟩
    rw [hee] at hv hne
    have HV := hide hv
    have HEE := hide hee
    obtain rfl := bare_ne hv hne
    clear hee
    have B2 := hide (below3 (g := w.heap.size + 1) (.slice none 0 0) (.slice none 0 0) (.slice none 0 0) B1.out (by omega))
    have G1 := hide (bl_three BG1.out (.slice none 0 0) (.slice none 0 0) (.slice none 0 0))
    clear hk hkk hne hv
    go_upto_region 2 with fail
    generalize w1.alloc (.cells #[.slice a1 n1 c1, .slice a2 n2 c2, .slice a3 n3 c3] 37) = W1 at *
    have g0 := BG1.out.cell 0 _ rfl
    have g1 := BG1.out.cell 1 _ rfl
    have g2 := BG1.out.cell 2 _ rfl
    have f0 := BG1.out.free 0
    have f1 := BG1.out.free 1
    have f2 := BG1.out.free 2
    unfold sent
    go_wp2
    generalize ((W1.setCell ⟨w.heap.size + 1, 0, none⟩ (.slice none 0 0)).setCell ⟨w.heap.size + 1, 1, none⟩ (.slice none 0 0)).setCell ⟨w.heap.size + 1, 2, none⟩ (.slice none 0 0) = W9 at *
    have e0 := G1.out.cell 0 _ rfl
    have e1 := G1.out.cell 1 _ rfl
    have e2 := G1.out.cell 2 _ rfl
    (try simp only [Exit.inBlock, Exit.then])
    refine bodyPost_ret (v := .tuple #[.agg #[.slice none 0 0, .slice none 0 0, .slice none 0 0], sent (E ee)]) (by simp [results, Tryz.results15, go_sem, e0, e1, e2, sent]) rfl ?_
    exact ⟨_, _, _, _, _, _, _, _, _, _, rfl, by rw [HEE.out]; exact HV.out, by rw [HO.out.1, HO.out.2.1, HO.out.2.2]; exact tab_nil _ _, B2.out⟩
  obtain ⟨hgood, hok⟩ := hk
  have hE : ofE (Good l r t) (OkP l p [2]) = 0 := ofE_ok hgood hok
  have hT1 : ownT (Good l r t ∧ OkP l p [2]) l = l := if_pos ⟨hgood, hok⟩
  have hT2 : ownT (Good l r t ∧ OkP l p [2]) r = r := if_pos ⟨hgood, hok⟩
  have hT3 : ownT (Good l r t ∧ OkP l p [2]) t = t := if_pos ⟨hgood, hok⟩
  rw [hE] at hv
  rw [hT1, hT2, hT3] at HM
  obtain rfl := bare0 hv
  have HOKP := hide hok
  obtain ⟨k, q, rfl, hkq, hst⟩ := okP_at hok
  have HR8 := hide (goodR_few hgood.2.2.1 hgood.1)
  have HF8 : Hid (Form t 8) := ⟨fun x hx => by have h1 := hgood.2.2.2.1.1 x hx; have h2 := hgood.1; unfold Tm.In at h1 ⊢; omega, hgood.2.2.2.1.2⟩
  have HT8 := hide hgood.tfew
  have HL8 := hide hgood.1
  have HGD := hide hgood
  have HKQ := hide hkq
  have HST := hide hst
  have HKL : Hid (k < l.length) := (List.getElem?_eq_some_iff.1 hkq).1
  obtain ⟨g, rfl⟩ : ∃ g, a1 = some ⟨g, 0, none⟩ := by
    rcases HM.out.tab.p.2 with ⟨e1, e2⟩ | ⟨g, cap, cur, e1, _⟩
    · have := HKL.out
      omega
    · simp only [Value.slice.injEq] at e1
      exact ⟨g, e1.1⟩
  obtain rfl : n1 = l.length := by
    obtain ⟨a, c, e, _⟩ := prown_pros HM.out.tab.p
    simp only [Value.slice.injEq] at e
    exact e.2.1
  have HGB : Hid (WY.heap.size ≤ g) := (HM.out.tab.p.lt g rfl).1
  clear hE hT1 hT2 hT3 hv hgood hok hkq hst
  go_upto_region 2 with fail
  generalize w1.alloc (.cells #[.slice (some ⟨g, 0, none⟩) l.length c1, .slice a2 n2 c2, .slice a3 n3 c3] 37) = W1 at *
  generalize w1.heap.size = mb at *
  have hbase : Hid (WY.heap.size ≤ W1.heap.size) := Nat.le_trans HM.out.hb (Nat.le_of_lt HM.out.lt)
  have hk1 : (k : Int) < (l.length : Int) := by have := HKL.out; omega
  have hk0 : (0 : Int) ≤ (k : Int) := by omega
  have HO : Hid (ofE (Good l r t) (OkP l (k : Int) [2]) = 0 ∧ ownT (Good l r t ∧ OkP l (k : Int) [2]) (setAt l (k : Int) (fun q => wokenP q x)) = (setAt l (k : Int) (fun q => wokenP q x)) ∧ ownT (Good l r t ∧ OkP l (k : Int) [2]) (r ++ [(k : Int)]) = (r ++ [(k : Int)]) ∧ ownT (Good l r t ∧ OkP l (k : Int) [2]) (others t (k : Int)) = (others t (k : Int))) := ⟨ofE_ok HGD.out HOKP.out, if_pos ⟨HGD.out, HOKP.out⟩, if_pos ⟨HGD.out, HOKP.out⟩, if_pos ⟨HGD.out, HOKP.out⟩⟩
  go_wp2_with fail
  refine Calls.mono (drop_any (HE1.out.er3) WY.heap.size mb _ _ _ a2 n2 c2 a3 n3 c3 l r t HM.out (k : Int) HT8.out) ?_
  rintro e w2 ⟨v2, rfl, hv2, ⟨a4, n4, c4, hm2⟩, y2, _⟩
  rw [show dropE t = 0 from if_pos HF8.out] at hv2
  obtain rfl := bare0 hv2
  rw [show dropL t (k : Int) = others t (k : Int) from if_pos HF8.out] at hm2
  have HM2 := hide hm2
  have Y2 := hide y2
  clear hm2 y2 hv2
  go_wp2_with fail
  refine Calls.mono (wake_any w2 WY.heap.size mb _ _ _ a2 n2 c2 a4 n4 c4 l r (others t (k : Int)) HM2.out k q HKQ.out x (by have := HR8.out; omega) (by have := HL8.out; omega)) ?_
  rintro e w3 ⟨rfl, ⟨a5, n5, c5, hm3, _⟩, y3⟩
  have HM3 := hide hm3
  have Y3 := hide (Y2.out.trans y3)
  clear hm3 y3
  have BG3 : Hid (Bl w3 (w.heap.size + 1) [.slice none 0 0, .slice none 0 0, .slice none 0 0]) :=
    ⟨fun j v hv => by rw [Y3.out.cell (p := ⟨w.heap.size + 1, j, none⟩) hb1.out]; exact BG1.out.cell j v hv, fun j => by rw [Y3.out.frozen (p := ⟨w.heap.size + 1, j, none⟩) hb1.out]; exact BG1.out.free j⟩
  have B3 := hide (B1.out.trans (Y3.out.mono hb2.out))
  have B4 := hide (below3 (g := w.heap.size + 1) (.slice (some ⟨g, 0, none⟩) l.length c1) (.slice a5 n5 c5) (.slice a4 n4 c4) B3.out (by omega))
  have G1 := hide (bl_three BG3.out (.slice (some ⟨g, 0, none⟩) l.length c1) (.slice a5 n5 c5) (.slice a4 n4 c4))
  have T1 := hide ((HM3.out.tab.three (g := w.heap.size + 1) hb1.out (.slice (some ⟨g, 0, none⟩) l.length c1) (.slice a5 n5 c5) (.slice a4 n4 c4)).weaken hb2.out)
  have g0 := BG3.out.cell 0 _ rfl
  have g1 := BG3.out.cell 1 _ rfl
  have g2 := BG3.out.cell 2 _ rfl
  have f0 := BG3.out.free 0
  have f1 := BG3.out.free 1
  have f2 := BG3.out.free 2
  have m0 := HM3.out.bl.cell 0 _ rfl
  have m1 := HM3.out.bl.cell 1 _ rfl
  have m2 := HM3.out.bl.cell 2 _ rfl
  go_wp2
  generalize (((w3.setCell ⟨w.heap.size + 1, 0, none⟩ (.slice (some ⟨g, 0, none⟩) l.length c1)).setCell ⟨w.heap.size + 1, 1, none⟩ (.slice a5 n5 c5)).setCell ⟨w.heap.size + 1, 2, none⟩ (.slice a4 n4 c4)) = W9 at *
  have e0 := G1.out.cell 0 _ rfl
  have e1 := G1.out.cell 1 _ rfl
  have e2 := G1.out.cell 2 _ rfl
  (try simp only [Exit.inBlock, Exit.then])
  refine bodyPost_ret (v := .tuple #[.agg #[.slice (some ⟨g, 0, none⟩) l.length c1, .slice a5 n5 c5, .slice a4 n4 c4], .nilIface]) (by simp [results, Tryz.results15, go_sem, e0, e1, e2]) rfl ?_
  exact ⟨_, _, _, _, _, _, _, _, _, _, rfl, by rw [HO.out.1]; exact bare_nil E, by rw [HO.out.2.1, HO.out.2.2.1, HO.out.2.2.2, setAt_of HKQ.out]; exact T1.out, B4.out⟩
end Go.Proofs.YtgbckpojoagbnaaGreatDoor
namespace Go.Proofs.YtgbckpojoagbnaaGreatDoor
open Classical
open Go.RowKit FerryCrc
set_option linter.unusedVariables false
set_option linter.unusedSimpArgs false

set_option maxRecDepth 100000 in
set_option maxHeartbeats 4000000 in
theorem blockE_any {w : World} {E : Nat → Addr} (he : Er9 w E) (pa : Option Addr) (pn pc : Nat) (l : List Pro) (hp : Pros w pa pn pc l) (ra : Option Addr) (rn rc : Nat) (r : List Int) (hr : Is w ra rn rc r) (ta : Option Addr) (tn tc : Nat) (t : List Tm) (ht : Tms w ta tn tc t) (hmp : pn ≤ 9223372036854775807) (hmr : rn ≤ 9223372036854775807) (hmt : tn ≤ 9223372036854775807) (p wt ob d : Int)
    (hset : ∀ (w : World), Er3 w E → ∀ (a : Option Addr) (len cap : Nat) (l : List Tm), Tms w a len cap l → ∀ p d : Int, len ≤ 9223372036854775807 → Calls Tryz.prog 35 #[.slice a len cap, .int .i64 p, .int .i64 d] w fun e w' => ∃ x v, e = .returned (.tuple #[x, v]) ∧ Bare E v (Rb.setE l p d) ∧ TOwn w' w.heap.size x (Rb.setL l p d) ∧ Below w.heap.size w w') :
    Calls Tryz.prog 14 #[.agg #[.slice pa pn pc, .slice ra rn rc, .slice ta tn tc], .int .i64 p, .int .i64 wt, .int .i64 ob, .int .i64 d] w fun e w' => ∃ a1 n1 c1 a2 n2 c2 a3 n3 c3 v, e = .returned (.tuple #[.agg #[.slice a1 n1 c1, .slice a2 n2 c2, .slice a3 n3 c3], v]) ∧ Bare E v (ofE (Good l r t) (OkP l p [1] ∧ (Rb.WaitOk wt ob d ∧ (d = -1 ∨ (0 ≤ d ∧ d ≤ 1010000))))) ∧ Tab w' w.heap.size (.slice a1 n1 c1) (.slice a2 n2 c2) (.slice a3 n3 c3) (ownT (Good l r t ∧ (OkP l p [1] ∧ (Rb.WaitOk wt ob d ∧ (d = -1 ∨ (0 ≤ d ∧ d ≤ 1010000))))) (setAt l p (fun q => Rb.blockP q wt ob))) (ownT (Good l r t ∧ (OkP l p [1] ∧ (Rb.WaitOk wt ob d ∧ (d = -1 ∨ (0 ≤ d ∧ d ≤ 1010000))))) (outOf r p)) (ownT (Good l r t ∧ (OkP l p [1] ∧ (Rb.WaitOk wt ob d ∧ (d = -1 ∨ (0 ≤ d ∧ d ≤ 1010000))))) (Rb.blkT t p d)) ∧ Below w.heap.size w w' := by
  have X1 := new_below w (.cells #[.slice pa pn pc, .slice ra rn rc, .slice ta tn tc] 37)
  have X2 := new_below (w.alloc (.cells #[.slice pa pn pc, .slice ra rn rc, .slice ta tn tc] 37)) (.cells #[.slice none 0 0, .slice none 0 0, .slice none 0 0] 37)
  have BX0 : Bl (w.alloc (.cells #[.slice pa pn pc, .slice ra rn rc, .slice ta tn tc] 37)) w.heap.size [.slice pa pn pc, .slice ra rn rc, .slice ta tn tc] := bl_alloc w #[.slice pa pn pc, .slice ra rn rc, .slice ta tn tc] 37
  have BX := hide (BX0.below (by simp) X2)
  have BG : Hid (Bl ((w.alloc (.cells #[.slice pa pn pc, .slice ra rn rc, .slice ta tn tc] 37)).alloc (.cells #[.slice none 0 0, .slice none 0 0, .slice none 0 0] 37)) (w.heap.size + 1) [.slice none 0 0, .slice none 0 0, .slice none 0 0]) := by
    have := bl_alloc (w.alloc (.cells #[.slice pa pn pc, .slice ra rn rc, .slice ta tn tc] 37)) #[.slice none 0 0, .slice none 0 0, .slice none 0 0] 37
    rw [show (w.alloc (.cells #[.slice pa pn pc, .slice ra rn rc, .slice ta tn tc] 37)).heap.size = w.heap.size + 1 by simp] at this
    exact this
  have HB0 := hide (chain X1 X2)
  have hz : ((w.alloc (.cells #[.slice pa pn pc, .slice ra rn rc, .slice ta tn tc] 37)).alloc (.cells #[.slice none 0 0, .slice none 0 0, .slice none 0 0] 37)).heap.size = w.heap.size + 2 := by simp
  have HS := hide (hp.below HB0.out)
  have HI := hide (hr.below HB0.out)
  have HT := hide (ht.below HB0.out)
  have HE := hide (he.below HB0.out)
  have HL : Hid (l.length = pn) := hp.size
  have HLR : Hid (r.length = rn) := hr.size
  have HGL : Hid (0 < w.heap.size) := block_lt_of_cell he.v12
  clear X1 X2 BX0 hp hr ht he
  go_enter Tryz.func14, Tryz.ntmps14
  go_upto_region 1 with fail
  generalize (w.alloc (.cells #[.slice pa pn pc, .slice ra rn rc, .slice ta tn tc] 37)).alloc (.cells #[.slice none 0 0, .slice none 0 0, .slice none 0 0] 37) = W0 at *
  have HZ := hide hz
  clear hz
  have hl2 : Hid (w.heap.size + 1 < W0.heap.size) := by unfold Hid; rw [HZ.out]; omega
  have b0 := BX.out.cell 0 _ rfl
  have b1 := BX.out.cell 1 _ rfl
  have b2 := BX.out.cell 2 _ rfl
  have Y1 := new_below W0 (.cells #[.int .i64 1] 3)
  have HST : Hid (Is (W0.alloc (.cells #[.int .i64 1] 3)) (some ⟨W0.heap.size, 0, none⟩) 1 1 [1]) := by
    refine ⟨rfl, ⟨rfl, by decide, fun e => by simp at e, fun j v hv => ⟨_, _, rfl, ?_⟩⟩⟩
    rw [World.cell?_alloc_at _ _ _ _ rfl]
    simpa [ci] using hv
  have HSY := hide (HS.out.below Y1)
  have HIY := hide (HI.out.below Y1)
  have HTY := hide (HT.out.below Y1)
  have HEY := hide (HE.out.below Y1)
  have BGY := hide (BG.out.below hl2.out Y1)
  have HBY := hide (HB0.out.trans (Y1.mono HB0.out.size))
  have hl3 : Hid (w.heap.size + 1 < (W0.alloc (.cells #[.int .i64 1] 3)).heap.size) := Nat.lt_of_lt_of_le hl2.out Y1.size
  clear Y1
  go_wp2_with fail
  generalize W0.alloc (.cells #[.int .i64 1] 3) = WY at *
  refine Calls.mono (ownOf_any HEY.out pa pn pc l HSY.out ra rn rc r HIY.out ta tn tc t HTY.out hmp hmr hmt p (some ⟨W0.heap.size, 0, none⟩) 1 1 [1] HST.out (by decide)) ?_
  rintro e w1 ⟨a1, n1, c1, a2, n2, c2, a3, n3, c3, v, rfl, hv, htab, x1⟩
  have X3 := new_below w1 (.cells #[.slice a1 n1 c1, .slice a2 n2 c2, .slice a3 n3 c3] 37)
  have x2 := chain x1 X3
  have HE1 := hide (HEY.out.below x2)
  have HM := hide (mine_new htab x1.size 37)
  have BG1 := hide (BGY.out.below hl3.out x2)
  have B1 := hide (HBY.out.trans (x2.mono HBY.out.size))
  have hb1 : Hid (w.heap.size + 1 < WY.heap.size) := hl3.out
  have hb2 : Hid (w.heap.size ≤ WY.heap.size) := HBY.out.size
  clear htab x1 x2 X3 b0 b1 b2
  by_cases hk : Good l r t ∧ OkP l p [1]
  case neg =>
    have hne : ofE (Good l r t) (OkP l p [1]) ≠ 0 := by
      unfold ofE
      by_cases hg : Good l r t
      · rw [if_pos hg, if_neg (fun h => hk ⟨hg, h⟩)]; decide
      · rw [if_neg hg]; decide
    obtain ⟨ee, hee⟩ : ∃ ee, ofE (Good l r t) (OkP l p [1]) = ee := ⟨_, rfl⟩
    rw [hee] at hv hne
    have HV := hide hv
    have HEE := hide hee
    have hkk : ¬ (Good l r t ∧ (OkP l p [1] ∧ (Rb.WaitOk wt ob d ∧ (d = -1 ∨ (0 ≤ d ∧ d ≤ 1010000))))) := fun h => hk ⟨h.1, h.2.1⟩
    have HO : Hid (ofE (Good l r t) (OkP l p [1] ∧ (Rb.WaitOk wt ob d ∧ (d = -1 ∨ (0 ≤ d ∧ d ≤ 1010000)))) = ofE (Good l r t) (OkP l p [1]) ∧ ownT (Good l r t ∧ (OkP l p [1] ∧ (Rb.WaitOk wt ob d ∧ (d = -1 ∨ (0 ≤ d ∧ d ≤ 1010000))))) (setAt l p (fun q => Rb.blockP q wt ob)) = [] ∧ ownT (Good l r t ∧ (OkP l p [1] ∧ (Rb.WaitOk wt ob d ∧ (d = -1 ∨ (0 ≤ d ∧ d ≤ 1010000))))) (outOf r p) = [] ∧ ownT (Good l r t ∧ (OkP l p [1] ∧ (Rb.WaitOk wt ob d ∧ (d = -1 ∨ (0 ≤ d ∧ d ≤ 1010000))))) (Rb.blkT t p d) = []) := ⟨ofE_no hk, if_neg hkk, if_neg hkk, if_neg hkk⟩
    obtain rfl := bare_ne hv hne
    clear hee hkk
    have B2 := hide (below3 (g := w.heap.size + 1) (.slice none 0 0) (.slice none 0 0) (.slice none 0 0) B1.out (by omega))
    have G1 := hide (bl_three BG1.out (.slice none 0 0) (.slice none 0 0) (.slice none 0 0))
    clear hk hne hv
    go_upto_region 2 with fail
    generalize w1.alloc (.cells #[.slice a1 n1 c1, .slice a2 n2 c2, .slice a3 n3 c3] 37) = W1 at *
    have g0 := BG1.out.cell 0 _ rfl
    have g1 := BG1.out.cell 1 _ rfl
    have g2 := BG1.out.cell 2 _ rfl
    have f0 := BG1.out.free 0
    have f1 := BG1.out.free 1
    have f2 := BG1.out.free 2
    unfold sent
    go_wp2
    generalize ((W1.setCell ⟨w.heap.size + 1, 0, none⟩ (.slice none 0 0)).setCell ⟨w.heap.size + 1, 1, none⟩ (.slice none 0 0)).setCell ⟨w.heap.size + 1, 2, none⟩ (.slice none 0 0) = W9 at *
    have e0 := G1.out.cell 0 _ rfl
    have e1 := G1.out.cell 1 _ rfl
    have e2 := G1.out.cell 2 _ rfl
    (try simp only [Exit.inBlock, Exit.then])
    refine bodyPost_ret (v := .tuple #[.agg #[.slice none 0 0, .slice none 0 0, .slice none 0 0], sent (E ee)]) (by simp [results, Tryz.results14, go_sem, e0, e1, e2, sent]) rfl ?_
    exact ⟨_, _, _, _, _, _, _, _, _, _, rfl, by rw [HO.out.1, HEE.out]; exact HV.out, by rw [HO.out.2.1, HO.out.2.2.1, HO.out.2.2.2]; exact tab_nil _ _, B2.out⟩
  obtain ⟨hgood, hok⟩ := hk
  obtain ⟨hp0, hp1, hps⟩ := hok
  obtain ⟨k, rfl⟩ := Int.eq_ofNat_of_zero_le hp0
  have hkl : k < l.length := by omega
  obtain ⟨q, hkq⟩ : ∃ q, l[k]? = some q := ⟨_, List.getElem?_eq_getElem hkl⟩
  have hst : q.state = 1 := by
    unfold stateAt at hps
    simpa [hkq] using hps
  have hE : ofE (Good l r t) (OkP l (k : Int) [1]) = 0 := by unfold ofE; rw [if_pos hgood, if_pos ⟨hp0, hp1, hps⟩]
  have hT1 : ownT (Good l r t ∧ OkP l (k : Int) [1]) l = l := if_pos ⟨hgood, hp0, hp1, hps⟩
  have hT2 : ownT (Good l r t ∧ OkP l (k : Int) [1]) r = r := if_pos ⟨hgood, hp0, hp1, hps⟩
  have hT3 : ownT (Good l r t ∧ OkP l (k : Int) [1]) t = t := if_pos ⟨hgood, hp0, hp1, hps⟩
  have hr8 := goodR_few hgood.2.2.1 hgood.1
  have hf8 : Form t 8 := ⟨fun x hx => by have h1 := hgood.2.2.2.1.1 x hx; have h2 := hgood.1; unfold Tm.In at h1 ⊢; omega, hgood.2.2.2.1.2⟩
  have ht8 : t.length ≤ 8 := hf8.2.1.few hf8.1
  rw [hE] at hv
  rw [hT1, hT2, hT3] at HM
  obtain rfl := bare0 hv
  have HR8 := hide hr8
  have HF8 := hide hf8
  have HT8 := hide ht8
  have HGD := hide hgood
  have HKQ := hide hkq
  have HST := hide hst
  have HKL := hide hkl
  have HOKP : Hid (OkP l (k : Int) [1]) := ⟨hp0, hp1, hps⟩
  clear hE hT1 hT2 hT3 hv hr8 hf8 ht8 hgood hp0 hp1 hps hkq hst
  go_upto_region 2 with fail
  generalize w1.alloc (.cells #[.slice a1 n1 c1, .slice a2 n2 c2, .slice a3 n3 c3] 37) = W1 at *
  generalize w1.heap.size = mb at *
  go_wp2_with fail
  refine Calls.mono (isWait_any wt ob d W1) ?_
  rintro e w' ⟨rfl, rfl⟩
  by_cases hw : Rb.WaitOk wt ob d
  case neg =>
    rw [decide_eq_false hw]
    have HO : Hid (ofE (Good l r t) (OkP l (k : Int) [1] ∧ (Rb.WaitOk wt ob d ∧ (d = -1 ∨ (0 ≤ d ∧ d ≤ 1010000)))) = 12 ∧ ownT (Good l r t ∧ (OkP l (k : Int) [1] ∧ (Rb.WaitOk wt ob d ∧ (d = -1 ∨ (0 ≤ d ∧ d ≤ 1010000))))) (setAt l (k : Int) (fun q => Rb.blockP q wt ob)) = [] ∧ ownT (Good l r t ∧ (OkP l (k : Int) [1] ∧ (Rb.WaitOk wt ob d ∧ (d = -1 ∨ (0 ≤ d ∧ d ≤ 1010000))))) (outOf r (k : Int)) = [] ∧ ownT (Good l r t ∧ (OkP l (k : Int) [1] ∧ (Rb.WaitOk wt ob d ∧ (d = -1 ∨ (0 ≤ d ∧ d ≤ 1010000))))) (Rb.blkT t (k : Int) d) = []) := ⟨ofE_arg HGD.out (fun h => hw h.1), if_neg (fun h => hw h.2.2.1), if_neg (fun h => hw h.2.2.1), if_neg (fun h => hw h.2.2.1)⟩
    have v12 := HE1.out.v12
    have hne : 0 ≠ w.heap.size + 1 := by have h9 := HGL.out; omega
    have v12s := glob3 v12 hne (.slice none 0 0) (.slice none 0 0) (.slice none 0 0)
    have B2 := hide (below3 (g := w.heap.size + 1) (.slice none 0 0) (.slice none 0 0) (.slice none 0 0) B1.out (by omega))
    have G1 := hide (bl_three BG1.out (.slice none 0 0) (.slice none 0 0) (.slice none 0 0))
    have g0 := BG1.out.cell 0 _ rfl
    have g1 := BG1.out.cell 1 _ rfl
    have g2 := BG1.out.cell 2 _ rfl
    have f0 := BG1.out.free 0
    have f1 := BG1.out.free 1
    have f2 := BG1.out.free 2
    clear hw
    go_wp2
    go_region_held3 (fun wz => wz.cell? ⟨0, 0, none⟩ = some (sent (E 12))) (first | exact v12 | exact v12s) (fail)
    generalize ((w'.setCell ⟨w.heap.size + 1, 0, none⟩ (.slice none 0 0)).setCell ⟨w.heap.size + 1, 1, none⟩ (.slice none 0 0)).setCell ⟨w.heap.size + 1, 2, none⟩ (.slice none 0 0) = W9 at *
    go_wp2
    have e0 : W9.drew.cell? ⟨w.heap.size + 1, 0, none⟩ = _ := G1.out.cell 0 _ rfl
    have e1 : W9.drew.cell? ⟨w.heap.size + 1, 1, none⟩ = _ := G1.out.cell 1 _ rfl
    have e2 : W9.drew.cell? ⟨w.heap.size + 1, 2, none⟩ = _ := G1.out.cell 2 _ rfl
    (try simp only [Exit.inBlock, Exit.then])
    refine bodyPost_ret (v := .tuple #[.agg #[.slice none 0 0, .slice none 0 0, .slice none 0 0], sent (E 12)]) (by simp [results, Tryz.results14, go_sem, e0, e1, e2]) rfl ?_
    exact ⟨_, _, _, _, _, _, _, _, _, _, rfl, by rw [HO.out.1]; exact bare_sent E 12 (by decide) (by decide), by rw [HO.out.2.1, HO.out.2.2.1, HO.out.2.2.2]; exact tab_nil _ _, B2.out.drew⟩
  rw [decide_eq_true hw]
  have HW := hide hw
  clear hw
  by_cases hd : d = -1
  · have HBL : Hid (Rb.blkT t (k : Int) d = t) := if_pos hd
    have BW : Hid (Below WY.heap.size w' w') := Below.refl _ _
    have HDD := hide hd
    have nd : (d != -1) = false := by simpa using hd
    have nd' : (d == -1) = true := by simpa using hd
    clear hd
    obtain ⟨w9, hw9⟩ : ∃ w9, w9 = w' := ⟨_, rfl⟩
    subst hw9
    have hmn := HM.out
    obtain ⟨a, c, e, hpp⟩ := prown_pros hmn.tab.p
    simp only [Value.slice.injEq] at e
    obtain ⟨rfl, rfl, rfl⟩ := e
    obtain ⟨g, rfl⟩ : ∃ g, a1 = some ⟨g, 0, none⟩ := by
      rcases hmn.tab.p.2 with ⟨e1, e2⟩ | ⟨g, cap, cur, e1, _⟩
      · have := HKL.out
        omega
      · simp only [Value.slice.injEq] at e1
        exact ⟨g, e1.1⟩
    have b0 := hmn.bl.cell 0 _ rfl
    have hk1 : (k : Int) < (l.length : Int) := by have := HKL.out; omega
    have cf : ∀ j, j < 21 → w9.cell? ⟨g, k * 21 + j, none⟩ = (q.cells)[j]? := fun j hj => by
      obtain ⟨b, off, e, hr⟩ := hpp.at pro21 (by decide) HKQ.out
      simp only [Option.some.injEq, Addr.mk.injEq, and_true] at e
      obtain ⟨rfl, rfl⟩ := e
      rw [List.getElem?_eq_getElem (by rw [pro21]; exact hj)]
      have := hr j _ (List.getElem?_eq_getElem (by rw [pro21]; exact hj))
      simpa using this
    have ff : ∀ j, w9.frozen? ⟨g, j, none⟩ = false := fun j => World.ownsRow.frozenAt hmn.tab.p j
    have q17 := cf 17 (by decide)
    have q19 := cf 19 (by decide)
    have q20 := cf 20 (by decide)
    simp only [Pro.cells, List.getElem?_cons_succ, List.getElem?_cons_zero] at q17 q19 q20
    have f17 := ff (k * 21 + 17)
    have f19 := ff (k * 21 + 19)
    have f20 := ff (k * 21 + 20)
    have e1 : (l.set k { q with state := 2 })[k]? = some { q with state := 2 } := by rw [List.getElem?_set_self HKL.out]
    have e2 : (l.set k { q with state := 2, wait := wt })[k]? = some { q with state := 2, wait := wt } := by rw [List.getElem?_set_self HKL.out]
    have m1 := hmn.put (j := 17) (q' := { q with state := 2 }) (u := .int .i64 2) HKQ.out (by decide) rfl
    have m2 := m1.put (j := 19) (q' := { q with state := 2, wait := wt }) (u := .int .i64 wt) e1 (by decide) rfl
    rw [List.set_set] at m2
    have m3 := m2.put (j := 20) (q' := Rb.blockP q wt ob) (u := .int .i64 ob) e2 (by decide) rfl
    rw [List.set_set] at m3
    have hgb : WY.heap.size ≤ g := (hmn.tab.p.lt g rfl).1
    have M4 := hide m3
    have B4 := hide (((BW.out.setCell (p := ⟨g, k * 21 + 17, none⟩) hgb (.int .i64 2)).setCell (p := ⟨g, k * 21 + 19, none⟩) hgb (.int .i64 wt)).setCell (p := ⟨g, k * 21 + 20, none⟩) hgb (.int .i64 ob))
    clear hmn hpp cf ff e1 e2 m1 m2 m3
    go_upto_region 12 with fail
    clear q17 q19 q20 f17 f19 f20 b0
    generalize ((w9.setCell ⟨g, k * 21 + 17, none⟩ (.int .i64 2)).setCell ⟨g, k * 21 + 19, none⟩ (.int .i64 wt)).setCell ⟨g, k * 21 + 20, none⟩ (.int .i64 ob) = WB at *
    go_wp2_with fail
    refine Calls.mono (leave_any WB WY.heap.size mb _ _ _ _ _ _ _ _ _ _ _ _ M4.out (k : Int) HR8.out) ?_
    rintro e wl ⟨rfl, ⟨a4, n4, c4, hm2⟩, y2⟩
    have HM3 := hide hm2
    have Y3 := hide (B4.out.trans y2)
    have BG3 : Hid (Bl wl (w.heap.size + 1) [.slice none 0 0, .slice none 0 0, .slice none 0 0]) :=
      ⟨fun j v hv => by rw [Y3.out.cell (p := ⟨w.heap.size + 1, j, none⟩) hb1.out]; exact BG1.out.cell j v hv, fun j => by rw [Y3.out.frozen (p := ⟨w.heap.size + 1, j, none⟩) hb1.out]; exact BG1.out.free j⟩
    have B3 := hide (B1.out.trans (Y3.out.mono hb2.out))
    have B5 := hide (below3 (g := w.heap.size + 1) (.slice (some ⟨g, 0, none⟩) l.length c1) (.slice a4 n4 c4) (.slice a3 n3 c3) B3.out (by omega))
    have G1 := hide (bl_three BG3.out (.slice (some ⟨g, 0, none⟩) l.length c1) (.slice a4 n4 c4) (.slice a3 n3 c3))
    have T1 := hide ((HM3.out.tab.three (g := w.heap.size + 1) hb1.out (.slice (some ⟨g, 0, none⟩) l.length c1) (.slice a4 n4 c4) (.slice a3 n3 c3)).weaken hb2.out)
    clear hm2 y2
    have g0 := BG3.out.cell 0 _ rfl
    have g1 := BG3.out.cell 1 _ rfl
    have g2 := BG3.out.cell 2 _ rfl
    have f0 := BG3.out.free 0
    have f1 := BG3.out.free 1
    have f2 := BG3.out.free 2
    have m0 := HM3.out.bl.cell 0 _ rfl
    have m1 := HM3.out.bl.cell 1 _ rfl
    have m2 := HM3.out.bl.cell 2 _ rfl
    go_wp2
    generalize ((wl.setCell ⟨w.heap.size + 1, 0, none⟩ (.slice (some ⟨g, 0, none⟩) l.length c1)).setCell ⟨w.heap.size + 1, 1, none⟩ (.slice a4 n4 c4)).setCell ⟨w.heap.size + 1, 2, none⟩ (.slice a3 n3 c3) = W9 at *
    have e0 := G1.out.cell 0 _ rfl
    have e1 := G1.out.cell 1 _ rfl
    have e2 := G1.out.cell 2 _ rfl
    (try simp only [Exit.inBlock, Exit.then])
    refine bodyPost_ret (v := .tuple #[.agg #[.slice (some ⟨g, 0, none⟩) l.length c1, .slice a4 n4 c4, .slice a3 n3 c3], .nilIface]) (by simp [results, Tryz.results14, go_sem, e0, e1, e2]) rfl ?_
    exact by
      have hx : (OkP l (k : Int) [1] ∧ (Rb.WaitOk wt ob d ∧ (d = -1 ∨ (0 ≤ d ∧ d ≤ 1010000)))) := ⟨HOKP.out, HW.out, .inl HDD.out⟩
      refine ⟨_, _, _, _, _, _, _, _, _, _, rfl, by rw [ofE_ok HGD.out hx]; exact bare_nil E, ?_, B5.out⟩
      rw [show ownT (Good l r t ∧ (OkP l (k : Int) [1] ∧ (Rb.WaitOk wt ob d ∧ (d = -1 ∨ (0 ≤ d ∧ d ≤ 1010000))))) (setAt l (k : Int) (fun q => Rb.blockP q wt ob)) = (setAt l (k : Int) (fun q => Rb.blockP q wt ob)) from if_pos ⟨HGD.out, hx⟩, show ownT (Good l r t ∧ (OkP l (k : Int) [1] ∧ (Rb.WaitOk wt ob d ∧ (d = -1 ∨ (0 ≤ d ∧ d ≤ 1010000))))) (outOf r (k : Int)) = (outOf r (k : Int)) from if_pos ⟨HGD.out, hx⟩, show ownT (Good l r t ∧ (OkP l (k : Int) [1] ∧ (Rb.WaitOk wt ob d ∧ (d = -1 ∨ (0 ≤ d ∧ d ≤ 1010000))))) (Rb.blkT t (k : Int) d) = (Rb.blkT t (k : Int) d) from if_pos ⟨HGD.out, hx⟩, setAt_of HKQ.out]
      rw [HBL.out]
      exact T1.out
  · have nd : (d != -1) = true := by simpa using hd
    have nd' : (d == -1) = false := by simpa using hd
    have b2 := HM.out.bl.cell 2 _ rfl
    obtain ⟨a, c, e, htm⟩ := town_tms HM.out.tab.t
    simp only [Value.slice.injEq] at e
    obtain ⟨rfl, rfl, rfl⟩ := e
    have HTM := hide htm
    have ND := hide hd
    clear htm hd
    go_wp2_with fail
    refine Calls.mono (hset w' HE1.out.er3 _ _ _ t HTM.out (k : Int) d (by have := HT8.out; omega)) ?_
    rintro e w2 ⟨x, v, rfl, hv, hx, hb⟩
    obtain ⟨a', c', rfl, -⟩ := town_tms hx
    clear b2
    have M2 := HM.out.below hb
    have g2 := M2.bl.cell 2 _ rfl
    have f2 := M2.bl.free 2
    by_cases hok : 0 ≤ (k : Int) ∧ (k : Int) < 8 ∧ 0 ≤ d ∧ d ≤ 1010000
    · have he0 : Rb.setE t (k : Int) d = 0 := by unfold Rb.setE; rw [if_neg (fun h => h HF8.out), if_neg (fun h => h hok)]
      have hl0 : Rb.setL t (k : Int) d = Rb.blkT t (k : Int) d := by unfold Rb.setL Rb.blkT; rw [if_pos ⟨HF8.out, hok⟩, if_neg ND.out]
      rw [he0] at hv
      obtain rfl := bare0 hv
      rw [hl0] at hx
      have HR := hide (HM.out.timers hb hx)
      have HDU : Hid (0 ≤ d ∧ d ≤ 1010000) := hok.2.2
      clear hv hx hb M2 he0 hok
      rw [hl0]
      clear hl0
      go_upto_region 10 with fail
      clear g2 f2 nd nd'
      have HM9 := hide HR.out.1
      have BW := hide HR.out.2
      generalize w2.setCell ⟨mb, 2, none⟩ (.slice a' (Rb.blkT t (k : Int) d).length c') = w9 at *
      have hmn := HM9.out
      obtain ⟨a, c, e, hpp⟩ := prown_pros hmn.tab.p
      simp only [Value.slice.injEq] at e
      obtain ⟨rfl, rfl, rfl⟩ := e
      obtain ⟨g, rfl⟩ : ∃ g, a1 = some ⟨g, 0, none⟩ := by
        rcases hmn.tab.p.2 with ⟨e1, e2⟩ | ⟨g, cap, cur, e1, _⟩
        · have := HKL.out
          omega
        · simp only [Value.slice.injEq] at e1
          exact ⟨g, e1.1⟩
      have b0 := hmn.bl.cell 0 _ rfl
      have hk1 : (k : Int) < (l.length : Int) := by have := HKL.out; omega
      have cf : ∀ j, j < 21 → w9.cell? ⟨g, k * 21 + j, none⟩ = (q.cells)[j]? := fun j hj => by
        obtain ⟨b, off, e, hr⟩ := hpp.at pro21 (by decide) HKQ.out
        simp only [Option.some.injEq, Addr.mk.injEq, and_true] at e
        obtain ⟨rfl, rfl⟩ := e
        rw [List.getElem?_eq_getElem (by rw [pro21]; exact hj)]
        have := hr j _ (List.getElem?_eq_getElem (by rw [pro21]; exact hj))
        simpa using this
      have ff : ∀ j, w9.frozen? ⟨g, j, none⟩ = false := fun j => World.ownsRow.frozenAt hmn.tab.p j
      have q17 := cf 17 (by decide)
      have q19 := cf 19 (by decide)
      have q20 := cf 20 (by decide)
      simp only [Pro.cells, List.getElem?_cons_succ, List.getElem?_cons_zero] at q17 q19 q20
      have f17 := ff (k * 21 + 17)
      have f19 := ff (k * 21 + 19)
      have f20 := ff (k * 21 + 20)
      have e1 : (l.set k { q with state := 2 })[k]? = some { q with state := 2 } := by rw [List.getElem?_set_self HKL.out]
      have e2 : (l.set k { q with state := 2, wait := wt })[k]? = some { q with state := 2, wait := wt } := by rw [List.getElem?_set_self HKL.out]
      have m1 := hmn.put (j := 17) (q' := { q with state := 2 }) (u := .int .i64 2) HKQ.out (by decide) rfl
      have m2 := m1.put (j := 19) (q' := { q with state := 2, wait := wt }) (u := .int .i64 wt) e1 (by decide) rfl
      rw [List.set_set] at m2
      have m3 := m2.put (j := 20) (q' := Rb.blockP q wt ob) (u := .int .i64 ob) e2 (by decide) rfl
      rw [List.set_set] at m3
      have hgb : WY.heap.size ≤ g := (hmn.tab.p.lt g rfl).1
      have M4 := hide m3
      have B4 := hide (((BW.out.setCell (p := ⟨g, k * 21 + 17, none⟩) hgb (.int .i64 2)).setCell (p := ⟨g, k * 21 + 19, none⟩) hgb (.int .i64 wt)).setCell (p := ⟨g, k * 21 + 20, none⟩) hgb (.int .i64 ob))
      clear hmn hpp cf ff e1 e2 m1 m2 m3
      go_upto_region 12 with fail
      clear q17 q19 q20 f17 f19 f20 b0
      generalize ((w9.setCell ⟨g, k * 21 + 17, none⟩ (.int .i64 2)).setCell ⟨g, k * 21 + 19, none⟩ (.int .i64 wt)).setCell ⟨g, k * 21 + 20, none⟩ (.int .i64 ob) = WB at *
      go_wp2_with fail
      refine Calls.mono (leave_any WB WY.heap.size mb _ _ _ _ _ _ _ _ _ _ _ _ M4.out (k : Int) HR8.out) ?_
      rintro e wl ⟨rfl, ⟨a4, n4, c4, hm2⟩, y2⟩
      have HM3 := hide hm2
      have Y3 := hide (B4.out.trans y2)
      have BG3 : Hid (Bl wl (w.heap.size + 1) [.slice none 0 0, .slice none 0 0, .slice none 0 0]) :=
        ⟨fun j v hv => by rw [Y3.out.cell (p := ⟨w.heap.size + 1, j, none⟩) hb1.out]; exact BG1.out.cell j v hv, fun j => by rw [Y3.out.frozen (p := ⟨w.heap.size + 1, j, none⟩) hb1.out]; exact BG1.out.free j⟩
      have B3 := hide (B1.out.trans (Y3.out.mono hb2.out))
      have B5 := hide (below3 (g := w.heap.size + 1) (.slice (some ⟨g, 0, none⟩) l.length c1) (.slice a4 n4 c4) (.slice a' (Rb.blkT t (k : Int) d).length c') B3.out (by omega))
      have G1 := hide (bl_three BG3.out (.slice (some ⟨g, 0, none⟩) l.length c1) (.slice a4 n4 c4) (.slice a' (Rb.blkT t (k : Int) d).length c'))
      have T1 := hide ((HM3.out.tab.three (g := w.heap.size + 1) hb1.out (.slice (some ⟨g, 0, none⟩) l.length c1) (.slice a4 n4 c4) (.slice a' (Rb.blkT t (k : Int) d).length c')).weaken hb2.out)
      clear hm2 y2
      have g0 := BG3.out.cell 0 _ rfl
      have g1 := BG3.out.cell 1 _ rfl
      have g2 := BG3.out.cell 2 _ rfl
      have f0 := BG3.out.free 0
      have f1 := BG3.out.free 1
      have f2 := BG3.out.free 2
      have m0 := HM3.out.bl.cell 0 _ rfl
      have m1 := HM3.out.bl.cell 1 _ rfl
      have m2 := HM3.out.bl.cell 2 _ rfl
      go_wp2
      generalize ((wl.setCell ⟨w.heap.size + 1, 0, none⟩ (.slice (some ⟨g, 0, none⟩) l.length c1)).setCell ⟨w.heap.size + 1, 1, none⟩ (.slice a4 n4 c4)).setCell ⟨w.heap.size + 1, 2, none⟩ (.slice a' (Rb.blkT t (k : Int) d).length c') = W9 at *
      have e0 := G1.out.cell 0 _ rfl
      have e1 := G1.out.cell 1 _ rfl
      have e2 := G1.out.cell 2 _ rfl
      (try simp only [Exit.inBlock, Exit.then])
      refine bodyPost_ret (v := .tuple #[.agg #[.slice (some ⟨g, 0, none⟩) l.length c1, .slice a4 n4 c4, .slice a' (Rb.blkT t (k : Int) d).length c'], .nilIface]) (by simp [results, Tryz.results14, go_sem, e0, e1, e2]) rfl ?_
      exact by
        have hx : (OkP l (k : Int) [1] ∧ (Rb.WaitOk wt ob d ∧ (d = -1 ∨ (0 ≤ d ∧ d ≤ 1010000)))) := ⟨HOKP.out, HW.out, .inr HDU.out⟩
        refine ⟨_, _, _, _, _, _, _, _, _, _, rfl, by rw [ofE_ok HGD.out hx]; exact bare_nil E, ?_, B5.out⟩
        rw [show ownT (Good l r t ∧ (OkP l (k : Int) [1] ∧ (Rb.WaitOk wt ob d ∧ (d = -1 ∨ (0 ≤ d ∧ d ≤ 1010000))))) (setAt l (k : Int) (fun q => Rb.blockP q wt ob)) = (setAt l (k : Int) (fun q => Rb.blockP q wt ob)) from if_pos ⟨HGD.out, hx⟩, show ownT (Good l r t ∧ (OkP l (k : Int) [1] ∧ (Rb.WaitOk wt ob d ∧ (d = -1 ∨ (0 ≤ d ∧ d ≤ 1010000))))) (outOf r (k : Int)) = (outOf r (k : Int)) from if_pos ⟨HGD.out, hx⟩, show ownT (Good l r t ∧ (OkP l (k : Int) [1] ∧ (Rb.WaitOk wt ob d ∧ (d = -1 ∨ (0 ≤ d ∧ d ≤ 1010000))))) (Rb.blkT t (k : Int) d) = (Rb.blkT t (k : Int) d) from if_pos ⟨HGD.out, hx⟩, setAt_of HKQ.out]
        exact T1.out
    · have he12 : Rb.setE t (k : Int) d = 12 := by unfold Rb.setE; rw [if_neg (fun h => h HF8.out), if_pos hok]
      rw [he12] at hv
      obtain rfl := bare_ne hv (by decide)
      have HR := hide (HM.out.timers hb hx)
      have hno : ¬ (d = -1 ∨ (0 ≤ d ∧ d ≤ 1010000)) := fun h => by
        rcases h with h | h
        · exact ND.out h
        · exact hok ⟨by omega, by have := HKL.out; have := HGD.out.1; omega, h⟩
      have HO : Hid (ofE (Good l r t) (OkP l (k : Int) [1] ∧ (Rb.WaitOk wt ob d ∧ (d = -1 ∨ (0 ≤ d ∧ d ≤ 1010000)))) = 12 ∧ ownT (Good l r t ∧ (OkP l (k : Int) [1] ∧ (Rb.WaitOk wt ob d ∧ (d = -1 ∨ (0 ≤ d ∧ d ≤ 1010000))))) (setAt l (k : Int) (fun q => Rb.blockP q wt ob)) = [] ∧ ownT (Good l r t ∧ (OkP l (k : Int) [1] ∧ (Rb.WaitOk wt ob d ∧ (d = -1 ∨ (0 ≤ d ∧ d ≤ 1010000))))) (outOf r (k : Int)) = [] ∧ ownT (Good l r t ∧ (OkP l (k : Int) [1] ∧ (Rb.WaitOk wt ob d ∧ (d = -1 ∨ (0 ≤ d ∧ d ≤ 1010000))))) (Rb.blkT t (k : Int) d) = []) := ⟨ofE_arg HGD.out (fun h => hno h.2), if_neg (fun h => hno h.2.2.2), if_neg (fun h => hno h.2.2.2), if_neg (fun h => hno h.2.2.2)⟩
      clear hv hx hb M2 he12 hok hno
      have B2a : Hid (Below WY.heap.size w' (w2.setCell ⟨mb, 2, none⟩ (.slice a' (Rb.setL t (k : Int) d).length c'))) := HR.out.2
      have BG2 : Hid (Bl (w2.setCell ⟨mb, 2, none⟩ (.slice a' (Rb.setL t (k : Int) d).length c')) (w.heap.size + 1) [.slice none 0 0, .slice none 0 0, .slice none 0 0]) :=
        ⟨fun j v hv => by rw [B2a.out.cell (p := ⟨w.heap.size + 1, j, none⟩) hb1.out]; exact BG1.out.cell j v hv, fun j => by rw [B2a.out.frozen (p := ⟨w.heap.size + 1, j, none⟩) hb1.out]; exact BG1.out.free j⟩
      have B2 := hide (below3 (g := w.heap.size + 1) (.slice none 0 0) (.slice none 0 0) (.slice none 0 0) (B1.out.trans (B2a.out.mono hb2.out)) (by omega))
      have G1 := hide (bl_three BG2.out (.slice none 0 0) (.slice none 0 0) (.slice none 0 0))
      unfold sent
      go_upto_region 9 with fail
      clear g2 f2 nd nd'
      generalize w2.setCell ⟨mb, 2, none⟩ (.slice a' (Rb.setL t (k : Int) d).length c') = w9 at *
      have g0 := BG2.out.cell 0 _ rfl
      have g1 := BG2.out.cell 1 _ rfl
      have g2 := BG2.out.cell 2 _ rfl
      have f0 := BG2.out.free 0
      have f1 := BG2.out.free 1
      have f2 := BG2.out.free 2
      go_wp2
      generalize ((w9.setCell ⟨w.heap.size + 1, 0, none⟩ (.slice none 0 0)).setCell ⟨w.heap.size + 1, 1, none⟩ (.slice none 0 0)).setCell ⟨w.heap.size + 1, 2, none⟩ (.slice none 0 0) = W9 at *
      have e0 := G1.out.cell 0 _ rfl
      have e1 := G1.out.cell 1 _ rfl
      have e2 := G1.out.cell 2 _ rfl
      (try simp only [Exit.inBlock, Exit.then])
      refine bodyPost_ret (v := .tuple #[.agg #[.slice none 0 0, .slice none 0 0, .slice none 0 0], sent (E 12)]) (by simp [results, Tryz.results14, go_sem, e0, e1, e2, sent]) rfl ?_
      exact ⟨_, _, _, _, _, _, _, _, _, _, rfl, by rw [HO.out.1]; exact bare_sent E 12 (by decide) (by decide), by rw [HO.out.2.1, HO.out.2.2.1, HO.out.2.2.2]; exact tab_nil _ _, B2.out⟩
end Go.Proofs.YtgbckpojoagbnaaGreatDoor
