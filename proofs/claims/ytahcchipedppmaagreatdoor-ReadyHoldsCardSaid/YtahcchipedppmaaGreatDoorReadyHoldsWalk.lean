/-
  ready's Rank, with its errors.
  ready's Start, with its errors.
  Of the law: from; a table that shows its lists.
  The law's call: refused, or a good table that leaves alone who is not named.
  The law's bystander: those that are not named are left alone.
  The law ReadyHolds, walked.
-/
import Derived.Test.YtahcchipedppmaaGreatDoorMvBase
import Derived.Test.YtahcchipedppmaaGreatDoorRyLaw
import Derived.Test.YtahcchipedppmaaGreatDoorRyKeep
import Derived.Test.YtahcchipedppmaaGreatDoorRyEq
import Derived.Test.YtahcchipedppmaaGreatDoorHdMath
import Derived.Test.YtahcchipedppmaaGreatDoorMvHalt
import Derived.Test.YtahcchipedppmaaGreatDoorMvWake
import Derived.Test.YtahcchipedppmaaGreatDoorMvBlock
import Derived.Test.YtahcchipedppmaaGreatDoorTmSet
import Derived.Test.YtahcchipedppmaaGreatDoorRyDel
import Derived.Test.YtahcchipedppmaaGreatDoorRyPk
namespace Go.Proofs.YtahcchipedppmaaGreatDoor
open Classical
open Go.RowKit FerryCrc
set_option linter.unusedVariables false
set_option linter.unusedSimpArgs false

set_option maxRecDepth 100000 in
set_option maxHeartbeats 4000000 in
theorem rank_any {w : World} {E : Nat → Addr} (he : Er9 w E) (pa : Option Addr) (pn pc : Nat) (l : List Pro) (hp : Pros w pa pn pc l) (ra : Option Addr) (rn rc : Nat) (r : List Int) (hr : Is w ra rn rc r) (ta : Option Addr) (tn tc : Nat) (t : List Tm) (ht : Tms w ta tn tc t) (hmp : pn ≤ 9223372036854775807) (hmr : rn ≤ 9223372036854775807) (hmt : tn ≤ 9223372036854775807) (p pr : Int) :
    Calls Tryz.prog 25 #[.agg #[.slice pa pn pc, .slice ra rn rc, .slice ta tn tc], .int .i64 p, .int .i64 pr] w fun e w' => ∃ a1 n1 c1 a2 n2 c2 a3 n3 c3 v, e = .returned (.tuple #[.agg #[.slice a1 n1 c1, .slice a2 n2 c2, .slice a3 n3 c3], v]) ∧ Bare E v (ofE (Good l r t) (OkP l p [0, 1, 2, 3] ∧ (0 ≤ pr ∧ pr ≤ 255))) ∧ Tab w' w.heap.size (.slice a1 n1 c1) (.slice a2 n2 c2) (.slice a3 n3 c3) (ownT (Good l r t ∧ (OkP l p [0, 1, 2, 3] ∧ (0 ≤ pr ∧ pr ≤ 255))) (setAt l p (fun q => { q with prio := pr }))) (ownT (Good l r t ∧ (OkP l p [0, 1, 2, 3] ∧ (0 ≤ pr ∧ pr ≤ 255))) r) (ownT (Good l r t ∧ (OkP l p [0, 1, 2, 3] ∧ (0 ≤ pr ∧ pr ≤ 255))) t) ∧ Below w.heap.size w w' := by
  have X1 := new_below w (.cells #[.slice pa pn pc, .slice ra rn rc, .slice ta tn tc] 34)
  have X2 := new_below (w.alloc (.cells #[.slice pa pn pc, .slice ra rn rc, .slice ta tn tc] 34)) (.cells #[.slice none 0 0, .slice none 0 0, .slice none 0 0] 34)
  have BX0 : Bl (w.alloc (.cells #[.slice pa pn pc, .slice ra rn rc, .slice ta tn tc] 34)) w.heap.size [.slice pa pn pc, .slice ra rn rc, .slice ta tn tc] := bl_alloc w #[.slice pa pn pc, .slice ra rn rc, .slice ta tn tc] 34
  have BX := hide (BX0.below (by simp) X2)
  have BG : Hid (Bl ((w.alloc (.cells #[.slice pa pn pc, .slice ra rn rc, .slice ta tn tc] 34)).alloc (.cells #[.slice none 0 0, .slice none 0 0, .slice none 0 0] 34)) (w.heap.size + 1) [.slice none 0 0, .slice none 0 0, .slice none 0 0]) := by
    have := bl_alloc (w.alloc (.cells #[.slice pa pn pc, .slice ra rn rc, .slice ta tn tc] 34)) #[.slice none 0 0, .slice none 0 0, .slice none 0 0] 34
    rw [show (w.alloc (.cells #[.slice pa pn pc, .slice ra rn rc, .slice ta tn tc] 34)).heap.size = w.heap.size + 1 by simp] at this
    exact this
  have HB0 := hide (chain X1 X2)
  have hz : ((w.alloc (.cells #[.slice pa pn pc, .slice ra rn rc, .slice ta tn tc] 34)).alloc (.cells #[.slice none 0 0, .slice none 0 0, .slice none 0 0] 34)).heap.size = w.heap.size + 2 := by simp
  have HS := hide (hp.below HB0.out)
  have HI := hide (hr.below HB0.out)
  have HT := hide (ht.below HB0.out)
  have HE := hide (he.below HB0.out)
  have HL : Hid (l.length = pn) := hp.size
  have HLR : Hid (r.length = rn) := hr.size
  have HGL : Hid (11 < w.heap.size) := block_lt_of_cell he.v12
  clear X1 X2 BX0 hp hr ht he
  go_enter Tryz.func25, Tryz.ntmps25
  go_upto_region 1 with fail
  generalize (w.alloc (.cells #[.slice pa pn pc, .slice ra rn rc, .slice ta tn tc] 34)).alloc (.cells #[.slice none 0 0, .slice none 0 0, .slice none 0 0] 34) = W0 at *
  have HZ := hide hz
  clear hz
  have hl2 : Hid (w.heap.size + 1 < W0.heap.size) := by unfold Hid; rw [HZ.out]; omega
  have b0 := BX.out.cell 0 _ rfl
  have b1 := BX.out.cell 1 _ rfl
  have b2 := BX.out.cell 2 _ rfl
  have Y1 := new_below W0 (.cells #[.int .i64 0, .int .i64 1, .int .i64 2, .int .i64 3] 3)
  have HST : Hid (Is (W0.alloc (.cells #[.int .i64 0, .int .i64 1, .int .i64 2, .int .i64 3] 3)) (some ⟨W0.heap.size, 0, none⟩) 4 4 [0, 1, 2, 3]) := by
    refine ⟨rfl, ⟨rfl, by decide, fun e => by simp at e, fun j v hv => ⟨_, _, rfl, ?_⟩⟩⟩
    rw [World.cell?_alloc_at _ _ _ _ rfl]
    simpa [ci] using hv
  have HSY := hide (HS.out.below Y1)
  have HIY := hide (HI.out.below Y1)
  have HTY := hide (HT.out.below Y1)
  have HEY := hide (HE.out.below Y1)
  have BGY := hide (BG.out.below hl2.out Y1)
  have HBY := hide (HB0.out.trans (Y1.mono HB0.out.size))
  have hl3 : Hid (w.heap.size + 1 < (W0.alloc (.cells #[.int .i64 0, .int .i64 1, .int .i64 2, .int .i64 3] 3)).heap.size) := Nat.lt_of_lt_of_le hl2.out Y1.size
  clear Y1
  go_wp2_with fail
  generalize W0.alloc (.cells #[.int .i64 0, .int .i64 1, .int .i64 2, .int .i64 3] 3) = WY at *
  refine Calls.mono (ownOf_any HEY.out pa pn pc l HSY.out ra rn rc r HIY.out ta tn tc t HTY.out hmp hmr hmt p (some ⟨W0.heap.size, 0, none⟩) 4 4 [0, 1, 2, 3] HST.out (by decide)) ?_
  rintro e w1 ⟨a1, n1, c1, a2, n2, c2, a3, n3, c3, v, rfl, hv, htab, x1⟩
  have X3 := new_below w1 (.cells #[.slice a1 n1 c1, .slice a2 n2 c2, .slice a3 n3 c3] 34)
  have x2 := chain x1 X3
  have HE1 := hide (HEY.out.below x2)
  have HM := hide (mine_new htab x1.size 34)
  have BG1 := hide (BGY.out.below hl3.out x2)
  have B1 := hide (HBY.out.trans (x2.mono HBY.out.size))
  have hb1 : Hid (w.heap.size + 1 < WY.heap.size) := hl3.out
  have hb2 : Hid (w.heap.size ≤ WY.heap.size) := HBY.out.size
  clear htab x1 x2 X3 b0 b1 b2
  by_cases hk : Good l r t ∧ OkP l p [0, 1, 2, 3]
  case neg =>
    have hne : ofE (Good l r t) (OkP l p [0, 1, 2, 3]) ≠ 0 := by
      unfold ofE
      by_cases hg : Good l r t
      · rw [if_pos hg, if_neg (fun h => hk ⟨hg, h⟩)]; decide
      · rw [if_neg hg]; decide
    have hkk : ¬ (Good l r t ∧ (OkP l p [0, 1, 2, 3] ∧ (0 ≤ pr ∧ pr ≤ 255))) := fun h => hk ⟨h.1, h.2.1⟩
    have HO : Hid (ownT (Good l r t ∧ (OkP l p [0, 1, 2, 3] ∧ (0 ≤ pr ∧ pr ≤ 255))) (setAt l p (fun q => { q with prio := pr })) = [] ∧ ownT (Good l r t ∧ (OkP l p [0, 1, 2, 3] ∧ (0 ≤ pr ∧ pr ≤ 255))) r = [] ∧ ownT (Good l r t ∧ (OkP l p [0, 1, 2, 3] ∧ (0 ≤ pr ∧ pr ≤ 255))) t = []) := ⟨if_neg hkk, if_neg hkk, if_neg hkk⟩
    have HOE : Hid (ofE (Good l r t) (OkP l p [0, 1, 2, 3] ∧ (0 ≤ pr ∧ pr ≤ 255)) = ofE (Good l r t) (OkP l p [0, 1, 2, 3])) := ofE_no hk
    obtain ⟨ee, hee⟩ : ∃ ee, ofE (Good l r t) (OkP l p [0, 1, 2, 3]) = ee := ⟨_, rfl⟩
    rw [hee] at hv hne
    have HV := hide hv
    have HEE := hide hee
    obtain rfl := bare_ne hv hne
    clear hee
    have B2 := hide (below3 (g := w.heap.size + 1) (.slice none 0 0) (.slice none 0 0) (.slice none 0 0) B1.out (by omega))
    have G1 := hide (bl_three BG1.out (.slice none 0 0) (.slice none 0 0) (.slice none 0 0))
    clear hk hkk hne hv
    go_upto_region 2 with fail
    generalize w1.alloc (.cells #[.slice a1 n1 c1, .slice a2 n2 c2, .slice a3 n3 c3] 34) = W1 at *
    have g0 := BG1.out.cell 0 _ rfl
    have g1 := BG1.out.cell 1 _ rfl
    have g2 := BG1.out.cell 2 _ rfl
    have f0 := BG1.out.free 0
    have f1 := BG1.out.free 1
    have f2 := BG1.out.free 2
    unfold sent
    go_wp2
    generalize ((W1.setCell ⟨w.heap.size + 1, 0, none⟩ (.slice none 0 0)).setCell ⟨w.heap.size + 1, 1, none⟩ (.slice none 0 0)).setCell ⟨w.heap.size + 1, 2, none⟩ (.slice none 0 0) = W9 at *
    have e0 := G1.out.cell 0 _ rfl
    have e1 := G1.out.cell 1 _ rfl
    have e2 := G1.out.cell 2 _ rfl
    (try simp only [Exit.inBlock, Exit.then])
    refine bodyPost_ret (v := .tuple #[.agg #[.slice none 0 0, .slice none 0 0, .slice none 0 0], sent (E ee)]) (by simp [results, Tryz.results25, go_sem, e0, e1, e2, sent]) rfl ?_
    exact ⟨_, _, _, _, _, _, _, _, _, _, rfl, by rw [HOE.out, HEE.out]; exact HV.out, by rw [HO.out.1, HO.out.2.1, HO.out.2.2]; exact tab_nil _ _, B2.out⟩
  obtain ⟨hgood, hok⟩ := hk
  have hE : ofE (Good l r t) (OkP l p [0, 1, 2, 3]) = 0 := ofE_ok hgood hok
  have hT1 : ownT (Good l r t ∧ OkP l p [0, 1, 2, 3]) l = l := if_pos ⟨hgood, hok⟩
  have hT2 : ownT (Good l r t ∧ OkP l p [0, 1, 2, 3]) r = r := if_pos ⟨hgood, hok⟩
  have hT3 : ownT (Good l r t ∧ OkP l p [0, 1, 2, 3]) t = t := if_pos ⟨hgood, hok⟩
  rw [hE] at hv
  rw [hT1, hT2, hT3] at HM
  obtain rfl := bare0 hv
  have HOKP := hide hok
  obtain ⟨k, q, rfl, hkq, hst⟩ := okP_at hok
  have HR8 := hide (goodR_few hgood.2.2.1 hgood.1)
  have HF8 : Hid (Form t 8) := ⟨fun x hx => by have h1 := hgood.2.2.2.1.1 x hx; have h2 := hgood.1; unfold Tm.In at h1 ⊢; omega, hgood.2.2.2.1.2⟩
  have HT8 := hide hgood.tfew
  have HL8 := hide hgood.1
  have HGD := hide hgood
  have HKQ := hide hkq
  have HST := hide hst
  have HKL : Hid (k < l.length) := (List.getElem?_eq_some_iff.1 hkq).1
  obtain ⟨g, rfl⟩ : ∃ g, a1 = some ⟨g, 0, none⟩ := by
    rcases HM.out.tab.p.2 with ⟨e1, e2⟩ | ⟨g, cap, cur, e1, _⟩
    · have := HKL.out
      omega
    · simp only [Value.slice.injEq] at e1
      exact ⟨g, e1.1⟩
  obtain rfl : n1 = l.length := by
    obtain ⟨a, c, e, _⟩ := prown_pros HM.out.tab.p
    simp only [Value.slice.injEq] at e
    exact e.2.1
  have HGB : Hid (WY.heap.size ≤ g) := (HM.out.tab.p.lt g rfl).1
  clear hE hT1 hT2 hT3 hv hgood hok hkq hst
  go_upto_region 2 with fail
  generalize w1.alloc (.cells #[.slice (some ⟨g, 0, none⟩) l.length c1, .slice a2 n2 c2, .slice a3 n3 c3] 34) = W1 at *
  generalize w1.heap.size = mb at *
  have hbase : Hid (WY.heap.size ≤ W1.heap.size) := Nat.le_trans HM.out.hb (Nat.le_of_lt HM.out.lt)
  have hk1 : (k : Int) < (l.length : Int) := by have := HKL.out; omega
  have hk0 : (0 : Int) ≤ (k : Int) := by omega
  go_wp2_with fail
  refine Calls.mono (isPrio_any pr W1) ?_
  rintro e w' ⟨rfl, rfl⟩
  by_cases hx : (0 ≤ pr ∧ pr ≤ 255)
  case neg =>
    rw [decide_eq_false hx]
    have HO : Hid (ofE (Good l r t) (OkP l (k : Int) [0, 1, 2, 3] ∧ (0 ≤ pr ∧ pr ≤ 255)) = 12 ∧ ownT (Good l r t ∧ (OkP l (k : Int) [0, 1, 2, 3] ∧ (0 ≤ pr ∧ pr ≤ 255))) (setAt l (k : Int) (fun q => { q with prio := pr })) = [] ∧ ownT (Good l r t ∧ (OkP l (k : Int) [0, 1, 2, 3] ∧ (0 ≤ pr ∧ pr ≤ 255))) r = [] ∧ ownT (Good l r t ∧ (OkP l (k : Int) [0, 1, 2, 3] ∧ (0 ≤ pr ∧ pr ≤ 255))) t = []) := ⟨ofE_arg HGD.out hx, if_neg (fun h => hx h.2.2), if_neg (fun h => hx h.2.2), if_neg (fun h => hx h.2.2)⟩
    have v12 := HE1.out.v12
    have hne : 11 ≠ w.heap.size + 1 := by have h9 := HGL.out; omega
    have v12s := glob3 v12 hne (.slice none 0 0) (.slice none 0 0) (.slice none 0 0)
    have B2 := hide (below3 (g := w.heap.size + 1) (.slice none 0 0) (.slice none 0 0) (.slice none 0 0) B1.out (by omega))
    have G1 := hide (bl_three BG1.out (.slice none 0 0) (.slice none 0 0) (.slice none 0 0))
    have g0 := BG1.out.cell 0 _ rfl
    have g1 := BG1.out.cell 1 _ rfl
    have g2 := BG1.out.cell 2 _ rfl
    have f0 := BG1.out.free 0
    have f1 := BG1.out.free 1
    have f2 := BG1.out.free 2
    clear hx
    go_wp2
    go_region_held3 (fun wz => wz.cell? ⟨11, 0, none⟩ = some (sent (E 12))) (first | exact v12 | exact v12s) (fail)
    generalize (((w'.setCell ⟨w.heap.size + 1, 0, none⟩ (.slice none 0 0)).setCell ⟨w.heap.size + 1, 1, none⟩ (.slice none 0 0)).setCell ⟨w.heap.size + 1, 2, none⟩ (.slice none 0 0)) = W9 at *
    go_wp2
    have e0 : W9.drew.cell? ⟨w.heap.size + 1, 0, none⟩ = _ := G1.out.cell 0 _ rfl
    have e1 : W9.drew.cell? ⟨w.heap.size + 1, 1, none⟩ = _ := G1.out.cell 1 _ rfl
    have e2 : W9.drew.cell? ⟨w.heap.size + 1, 2, none⟩ = _ := G1.out.cell 2 _ rfl
    (try simp only [Exit.inBlock, Exit.then])
    refine bodyPost_ret (v := .tuple #[.agg #[.slice none 0 0, .slice none 0 0, .slice none 0 0], sent (E 12)]) (by simp [results, Tryz.results25, go_sem, e0, e1, e2]) rfl ?_
    exact ⟨_, _, _, _, _, _, _, _, _, _, rfl, by rw [HO.out.1]; exact bare_sent E 12 (by decide) (by decide), by rw [HO.out.2.1, HO.out.2.2.1, HO.out.2.2.2]; exact tab_nil _ _, B2.out.drew⟩
  rw [decide_eq_true hx]
  have HO : Hid (ofE (Good l r t) (OkP l (k : Int) [0, 1, 2, 3] ∧ (0 ≤ pr ∧ pr ≤ 255)) = 0 ∧ ownT (Good l r t ∧ (OkP l (k : Int) [0, 1, 2, 3] ∧ (0 ≤ pr ∧ pr ≤ 255))) (setAt l (k : Int) (fun q => { q with prio := pr })) = (setAt l (k : Int) (fun q => { q with prio := pr })) ∧ ownT (Good l r t ∧ (OkP l (k : Int) [0, 1, 2, 3] ∧ (0 ≤ pr ∧ pr ≤ 255))) r = r ∧ ownT (Good l r t ∧ (OkP l (k : Int) [0, 1, 2, 3] ∧ (0 ≤ pr ∧ pr ≤ 255))) t = t) := ⟨ofE_ok HGD.out ⟨HOKP.out, hx⟩, if_pos ⟨HGD.out, HOKP.out, hx⟩, if_pos ⟨HGD.out, HOKP.out, hx⟩, if_pos ⟨HGD.out, HOKP.out, hx⟩⟩
  have m0 := HM.out.bl.cell 0 _ rfl
  have qc : w'.cell? ⟨g, k * 21 + 18, none⟩ = some (.int .i64 q.prio) := own_cellB HM.out.tab.p HKQ.out (by decide) rfl
  have fc : w'.frozen? ⟨g, k * 21 + 18, none⟩ = false := own_freeB HM.out.tab.p _
  go_upto_region 7 with fail
  have HM3 := hide (HM.out.put (j := 18) (q' := { q with prio := pr }) (u := .int .i64 pr) HKQ.out (by decide) rfl)
  have Y2 := hide ((Below.refl WY.heap.size w').setCell (p := ⟨g, k * 21 + 18, none⟩) HGB.out (.int .i64 pr))
  clear qc fc m0
  generalize w'.setCell ⟨g, k * 21 + 18, none⟩ (.int .i64 pr) = W2 at *
  have Y3 := hide Y2.out
  have BG3 : Hid (Bl W2 (w.heap.size + 1) [.slice none 0 0, .slice none 0 0, .slice none 0 0]) :=
    ⟨fun j v hv => by rw [Y3.out.cell (p := ⟨w.heap.size + 1, j, none⟩) hb1.out]; exact BG1.out.cell j v hv, fun j => by rw [Y3.out.frozen (p := ⟨w.heap.size + 1, j, none⟩) hb1.out]; exact BG1.out.free j⟩
  have B3 := hide (B1.out.trans (Y3.out.mono hb2.out))
  have B4 := hide (below3 (g := w.heap.size + 1) (.slice (some ⟨g, 0, none⟩) l.length c1) (.slice a2 n2 c2) (.slice a3 n3 c3) B3.out (by omega))
  have G1 := hide (bl_three BG3.out (.slice (some ⟨g, 0, none⟩) l.length c1) (.slice a2 n2 c2) (.slice a3 n3 c3))
  have T1 := hide ((HM3.out.tab.three (g := w.heap.size + 1) hb1.out (.slice (some ⟨g, 0, none⟩) l.length c1) (.slice a2 n2 c2) (.slice a3 n3 c3)).weaken hb2.out)
  have g0 := BG3.out.cell 0 _ rfl
  have g1 := BG3.out.cell 1 _ rfl
  have g2 := BG3.out.cell 2 _ rfl
  have f0 := BG3.out.free 0
  have f1 := BG3.out.free 1
  have f2 := BG3.out.free 2
  have m0 := HM3.out.bl.cell 0 _ rfl
  have m1 := HM3.out.bl.cell 1 _ rfl
  have m2 := HM3.out.bl.cell 2 _ rfl
  go_wp2
  generalize (((W2.setCell ⟨w.heap.size + 1, 0, none⟩ (.slice (some ⟨g, 0, none⟩) l.length c1)).setCell ⟨w.heap.size + 1, 1, none⟩ (.slice a2 n2 c2)).setCell ⟨w.heap.size + 1, 2, none⟩ (.slice a3 n3 c3)) = W9 at *
  have e0 := G1.out.cell 0 _ rfl
  have e1 := G1.out.cell 1 _ rfl
  have e2 := G1.out.cell 2 _ rfl
  (try simp only [Exit.inBlock, Exit.then])
  refine bodyPost_ret (v := .tuple #[.agg #[.slice (some ⟨g, 0, none⟩) l.length c1, .slice a2 n2 c2, .slice a3 n3 c3], .nilIface]) (by simp [results, Tryz.results25, go_sem, e0, e1, e2]) rfl ?_
  exact ⟨_, _, _, _, _, _, _, _, _, _, rfl, by rw [HO.out.1]; exact bare_nil E, by rw [HO.out.2.1, HO.out.2.2.1, HO.out.2.2.2, setAt_of HKQ.out]; exact T1.out, B4.out⟩
end Go.Proofs.YtahcchipedppmaaGreatDoor
namespace Go.Proofs.YtahcchipedppmaaGreatDoor
open Classical
open Go.RowKit FerryCrc
set_option linter.unusedVariables false
set_option linter.unusedSimpArgs false

set_option maxRecDepth 100000 in
set_option maxHeartbeats 4000000 in
theorem start_any {w : World} {E : Nat → Addr} (he : Er9 w E) (pa : Option Addr) (pn pc : Nat) (l : List Pro) (hp : Pros w pa pn pc l) (ra : Option Addr) (rn rc : Nat) (r : List Int) (hr : Is w ra rn rc r) (ta : Option Addr) (tn tc : Nat) (t : List Tm) (ht : Tms w ta tn tc t) (hmp : pn ≤ 9223372036854775807) (hmr : rn ≤ 9223372036854775807) (hmt : tn ≤ 9223372036854775807) (p x pr : Int) :
    Calls Tryz.prog 24 #[.agg #[.slice pa pn pc, .slice ra rn rc, .slice ta tn tc], .int .i64 p, .int .u32 x, .int .i64 pr] w fun e w' => ∃ a1 n1 c1 a2 n2 c2 a3 n3 c3 v, e = .returned (.tuple #[.agg #[.slice a1 n1 c1, .slice a2 n2 c2, .slice a3 n3 c3], v]) ∧ Bare E v (ofE (Good l r t) (OkP l p [0, 3] ∧ (0 ≤ pr ∧ pr ≤ 255))) ∧ Tab w' w.heap.size (.slice a1 n1 c1) (.slice a2 n2 c2) (.slice a3 n3 c3) (ownT (Good l r t ∧ (OkP l p [0, 3] ∧ (0 ≤ pr ∧ pr ≤ 255))) (setAt l p (fun _ => newP x pr))) (ownT (Good l r t ∧ (OkP l p [0, 3] ∧ (0 ≤ pr ∧ pr ≤ 255))) (r ++ [p])) (ownT (Good l r t ∧ (OkP l p [0, 3] ∧ (0 ≤ pr ∧ pr ≤ 255))) t) ∧ Below w.heap.size w w' := by
  have X1 := new_below w (.cells #[.slice pa pn pc, .slice ra rn rc, .slice ta tn tc] 34)
  have X2 := new_below (w.alloc (.cells #[.slice pa pn pc, .slice ra rn rc, .slice ta tn tc] 34)) (.cells #[.slice none 0 0, .slice none 0 0, .slice none 0 0] 34)
  have BX0 : Bl (w.alloc (.cells #[.slice pa pn pc, .slice ra rn rc, .slice ta tn tc] 34)) w.heap.size [.slice pa pn pc, .slice ra rn rc, .slice ta tn tc] := bl_alloc w #[.slice pa pn pc, .slice ra rn rc, .slice ta tn tc] 34
  have BX := hide (BX0.below (by simp) X2)
  have BG : Hid (Bl ((w.alloc (.cells #[.slice pa pn pc, .slice ra rn rc, .slice ta tn tc] 34)).alloc (.cells #[.slice none 0 0, .slice none 0 0, .slice none 0 0] 34)) (w.heap.size + 1) [.slice none 0 0, .slice none 0 0, .slice none 0 0]) := by
    have := bl_alloc (w.alloc (.cells #[.slice pa pn pc, .slice ra rn rc, .slice ta tn tc] 34)) #[.slice none 0 0, .slice none 0 0, .slice none 0 0] 34
    rw [show (w.alloc (.cells #[.slice pa pn pc, .slice ra rn rc, .slice ta tn tc] 34)).heap.size = w.heap.size + 1 by simp] at this
    exact this
  have HB0 := hide (chain X1 X2)
  have hz : ((w.alloc (.cells #[.slice pa pn pc, .slice ra rn rc, .slice ta tn tc] 34)).alloc (.cells #[.slice none 0 0, .slice none 0 0, .slice none 0 0] 34)).heap.size = w.heap.size + 2 := by simp
  have HS := hide (hp.below HB0.out)
  have HI := hide (hr.below HB0.out)
  have HT := hide (ht.below HB0.out)
  have HE := hide (he.below HB0.out)
  have HL : Hid (l.length = pn) := hp.size
  have HLR : Hid (r.length = rn) := hr.size
  have HGL : Hid (11 < w.heap.size) := block_lt_of_cell he.v12
  clear X1 X2 BX0 hp hr ht he
  go_enter Tryz.func24, Tryz.ntmps24
  go_upto_region 1 with fail
  generalize (w.alloc (.cells #[.slice pa pn pc, .slice ra rn rc, .slice ta tn tc] 34)).alloc (.cells #[.slice none 0 0, .slice none 0 0, .slice none 0 0] 34) = W0 at *
  have HZ := hide hz
  clear hz
  have hl2 : Hid (w.heap.size + 1 < W0.heap.size) := by unfold Hid; rw [HZ.out]; omega
  have b0 := BX.out.cell 0 _ rfl
  have b1 := BX.out.cell 1 _ rfl
  have b2 := BX.out.cell 2 _ rfl
  have Y1 := new_below W0 (.cells #[.int .i64 0, .int .i64 3] 3)
  have HST : Hid (Is (W0.alloc (.cells #[.int .i64 0, .int .i64 3] 3)) (some ⟨W0.heap.size, 0, none⟩) 2 2 [0, 3]) := by
    refine ⟨rfl, ⟨rfl, by decide, fun e => by simp at e, fun j v hv => ⟨_, _, rfl, ?_⟩⟩⟩
    rw [World.cell?_alloc_at _ _ _ _ rfl]
    simpa [ci] using hv
  have HSY := hide (HS.out.below Y1)
  have HIY := hide (HI.out.below Y1)
  have HTY := hide (HT.out.below Y1)
  have HEY := hide (HE.out.below Y1)
  have BGY := hide (BG.out.below hl2.out Y1)
  have HBY := hide (HB0.out.trans (Y1.mono HB0.out.size))
  have hl3 : Hid (w.heap.size + 1 < (W0.alloc (.cells #[.int .i64 0, .int .i64 3] 3)).heap.size) := Nat.lt_of_lt_of_le hl2.out Y1.size
  clear Y1
  go_wp2_with fail
  generalize W0.alloc (.cells #[.int .i64 0, .int .i64 3] 3) = WY at *
  refine Calls.mono (ownOf_any HEY.out pa pn pc l HSY.out ra rn rc r HIY.out ta tn tc t HTY.out hmp hmr hmt p (some ⟨W0.heap.size, 0, none⟩) 2 2 [0, 3] HST.out (by decide)) ?_
  rintro e w1 ⟨a1, n1, c1, a2, n2, c2, a3, n3, c3, v, rfl, hv, htab, x1⟩
  have X3 := new_below w1 (.cells #[.slice a1 n1 c1, .slice a2 n2 c2, .slice a3 n3 c3] 34)
  have x2 := chain x1 X3
  have HE1 := hide (HEY.out.below x2)
  have HM := hide (mine_new htab x1.size 34)
  have BG1 := hide (BGY.out.below hl3.out x2)
  have B1 := hide (HBY.out.trans (x2.mono HBY.out.size))
  have hb1 : Hid (w.heap.size + 1 < WY.heap.size) := hl3.out
  have hb2 : Hid (w.heap.size ≤ WY.heap.size) := HBY.out.size
  clear htab x1 x2 X3 b0 b1 b2
  by_cases hk : Good l r t ∧ OkP l p [0, 3]
  case neg =>
    have hne : ofE (Good l r t) (OkP l p [0, 3]) ≠ 0 := by
      unfold ofE
      by_cases hg : Good l r t
      · rw [if_pos hg, if_neg (fun h => hk ⟨hg, h⟩)]; decide
      · rw [if_neg hg]; decide
    have hkk : ¬ (Good l r t ∧ (OkP l p [0, 3] ∧ (0 ≤ pr ∧ pr ≤ 255))) := fun h => hk ⟨h.1, h.2.1⟩
    have HO : Hid (ownT (Good l r t ∧ (OkP l p [0, 3] ∧ (0 ≤ pr ∧ pr ≤ 255))) (setAt l p (fun _ => newP x pr)) = [] ∧ ownT (Good l r t ∧ (OkP l p [0, 3] ∧ (0 ≤ pr ∧ pr ≤ 255))) (r ++ [p]) = [] ∧ ownT (Good l r t ∧ (OkP l p [0, 3] ∧ (0 ≤ pr ∧ pr ≤ 255))) t = []) := ⟨if_neg hkk, if_neg hkk, if_neg hkk⟩
    have HOE : Hid (ofE (Good l r t) (OkP l p [0, 3] ∧ (0 ≤ pr ∧ pr ≤ 255)) = ofE (Good l r t) (OkP l p [0, 3])) := ofE_no hk
    obtain ⟨ee, hee⟩ : ∃ ee, ofE (Good l r t) (OkP l p [0, 3]) = ee := ⟨_, rfl⟩
    rw [hee] at hv hne
    have HV := hide hv
    have HEE := hide hee
    obtain rfl := bare_ne hv hne
    clear hee
    have B2 := hide (below3 (g := w.heap.size + 1) (.slice none 0 0) (.slice none 0 0) (.slice none 0 0) B1.out (by omega))
    have G1 := hide (bl_three BG1.out (.slice none 0 0) (.slice none 0 0) (.slice none 0 0))
    clear hk hkk hne hv
    go_upto_region 2 with fail
    generalize w1.alloc (.cells #[.slice a1 n1 c1, .slice a2 n2 c2, .slice a3 n3 c3] 34) = W1 at *
    have g0 := BG1.out.cell 0 _ rfl
    have g1 := BG1.out.cell 1 _ rfl
    have g2 := BG1.out.cell 2 _ rfl
    have f0 := BG1.out.free 0
    have f1 := BG1.out.free 1
    have f2 := BG1.out.free 2
    unfold sent
    go_wp2
    generalize ((W1.setCell ⟨w.heap.size + 1, 0, none⟩ (.slice none 0 0)).setCell ⟨w.heap.size + 1, 1, none⟩ (.slice none 0 0)).setCell ⟨w.heap.size + 1, 2, none⟩ (.slice none 0 0) = W9 at *
    have e0 := G1.out.cell 0 _ rfl
    have e1 := G1.out.cell 1 _ rfl
    have e2 := G1.out.cell 2 _ rfl
    (try simp only [Exit.inBlock, Exit.then])
    refine bodyPost_ret (v := .tuple #[.agg #[.slice none 0 0, .slice none 0 0, .slice none 0 0], sent (E ee)]) (by simp [results, Tryz.results24, go_sem, e0, e1, e2, sent]) rfl ?_
    exact ⟨_, _, _, _, _, _, _, _, _, _, rfl, by rw [HOE.out, HEE.out]; exact HV.out, by rw [HO.out.1, HO.out.2.1, HO.out.2.2]; exact tab_nil _ _, B2.out⟩
  obtain ⟨hgood, hok⟩ := hk
  have hE : ofE (Good l r t) (OkP l p [0, 3]) = 0 := ofE_ok hgood hok
  have hT1 : ownT (Good l r t ∧ OkP l p [0, 3]) l = l := if_pos ⟨hgood, hok⟩
  have hT2 : ownT (Good l r t ∧ OkP l p [0, 3]) r = r := if_pos ⟨hgood, hok⟩
  have hT3 : ownT (Good l r t ∧ OkP l p [0, 3]) t = t := if_pos ⟨hgood, hok⟩
  rw [hE] at hv
  rw [hT1, hT2, hT3] at HM
  obtain rfl := bare0 hv
  have HOKP := hide hok
  obtain ⟨k, q, rfl, hkq, hst⟩ := okP_at hok
  have HR8 := hide (goodR_few hgood.2.2.1 hgood.1)
  have HF8 : Hid (Form t 8) := ⟨fun x hx => by have h1 := hgood.2.2.2.1.1 x hx; have h2 := hgood.1; unfold Tm.In at h1 ⊢; omega, hgood.2.2.2.1.2⟩
  have HT8 := hide hgood.tfew
  have HL8 := hide hgood.1
  have HGD := hide hgood
  have HKQ := hide hkq
  have HST := hide hst
  have HKL : Hid (k < l.length) := (List.getElem?_eq_some_iff.1 hkq).1
  obtain ⟨g, rfl⟩ : ∃ g, a1 = some ⟨g, 0, none⟩ := by
    rcases HM.out.tab.p.2 with ⟨e1, e2⟩ | ⟨g, cap, cur, e1, _⟩
    · have := HKL.out
      omega
    · simp only [Value.slice.injEq] at e1
      exact ⟨g, e1.1⟩
  obtain rfl : n1 = l.length := by
    obtain ⟨a, c, e, _⟩ := prown_pros HM.out.tab.p
    simp only [Value.slice.injEq] at e
    exact e.2.1
  have HGB : Hid (WY.heap.size ≤ g) := (HM.out.tab.p.lt g rfl).1
  clear hE hT1 hT2 hT3 hv hgood hok hkq hst
  go_upto_region 2 with fail
  generalize w1.alloc (.cells #[.slice (some ⟨g, 0, none⟩) l.length c1, .slice a2 n2 c2, .slice a3 n3 c3] 34) = W1 at *
  generalize w1.heap.size = mb at *
  have hbase : Hid (WY.heap.size ≤ W1.heap.size) := Nat.le_trans HM.out.hb (Nat.le_of_lt HM.out.lt)
  have hk1 : (k : Int) < (l.length : Int) := by have := HKL.out; omega
  have hk0 : (0 : Int) ≤ (k : Int) := by omega
  go_wp2_with fail
  refine Calls.mono (isPrio_any pr W1) ?_
  rintro e w' ⟨rfl, rfl⟩
  by_cases hx : (0 ≤ pr ∧ pr ≤ 255)
  case neg =>
    rw [decide_eq_false hx]
    have HO : Hid (ofE (Good l r t) (OkP l (k : Int) [0, 3] ∧ (0 ≤ pr ∧ pr ≤ 255)) = 12 ∧ ownT (Good l r t ∧ (OkP l (k : Int) [0, 3] ∧ (0 ≤ pr ∧ pr ≤ 255))) (setAt l (k : Int) (fun _ => newP x pr)) = [] ∧ ownT (Good l r t ∧ (OkP l (k : Int) [0, 3] ∧ (0 ≤ pr ∧ pr ≤ 255))) (r ++ [(k : Int)]) = [] ∧ ownT (Good l r t ∧ (OkP l (k : Int) [0, 3] ∧ (0 ≤ pr ∧ pr ≤ 255))) t = []) := ⟨ofE_arg HGD.out hx, if_neg (fun h => hx h.2.2), if_neg (fun h => hx h.2.2), if_neg (fun h => hx h.2.2)⟩
    have v12 := HE1.out.v12
    have hne : 11 ≠ w.heap.size + 1 := by have h9 := HGL.out; omega
    have v12s := glob3 v12 hne (.slice none 0 0) (.slice none 0 0) (.slice none 0 0)
    have B2 := hide (below3 (g := w.heap.size + 1) (.slice none 0 0) (.slice none 0 0) (.slice none 0 0) B1.out (by omega))
    have G1 := hide (bl_three BG1.out (.slice none 0 0) (.slice none 0 0) (.slice none 0 0))
    have g0 := BG1.out.cell 0 _ rfl
    have g1 := BG1.out.cell 1 _ rfl
    have g2 := BG1.out.cell 2 _ rfl
    have f0 := BG1.out.free 0
    have f1 := BG1.out.free 1
    have f2 := BG1.out.free 2
    clear hx
    go_wp2
    go_region_held3 (fun wz => wz.cell? ⟨11, 0, none⟩ = some (sent (E 12))) (first | exact v12 | exact v12s) (fail)
    generalize (((w'.setCell ⟨w.heap.size + 1, 0, none⟩ (.slice none 0 0)).setCell ⟨w.heap.size + 1, 1, none⟩ (.slice none 0 0)).setCell ⟨w.heap.size + 1, 2, none⟩ (.slice none 0 0)) = W9 at *
    go_wp2
    have e0 : W9.drew.cell? ⟨w.heap.size + 1, 0, none⟩ = _ := G1.out.cell 0 _ rfl
    have e1 : W9.drew.cell? ⟨w.heap.size + 1, 1, none⟩ = _ := G1.out.cell 1 _ rfl
    have e2 : W9.drew.cell? ⟨w.heap.size + 1, 2, none⟩ = _ := G1.out.cell 2 _ rfl
    (try simp only [Exit.inBlock, Exit.then])
    refine bodyPost_ret (v := .tuple #[.agg #[.slice none 0 0, .slice none 0 0, .slice none 0 0], sent (E 12)]) (by simp [results, Tryz.results24, go_sem, e0, e1, e2]) rfl ?_
    exact ⟨_, _, _, _, _, _, _, _, _, _, rfl, by rw [HO.out.1]; exact bare_sent E 12 (by decide) (by decide), by rw [HO.out.2.1, HO.out.2.2.1, HO.out.2.2.2]; exact tab_nil _ _, B2.out.drew⟩
  rw [decide_eq_true hx]
  have HO : Hid (ofE (Good l r t) (OkP l (k : Int) [0, 3] ∧ (0 ≤ pr ∧ pr ≤ 255)) = 0 ∧ ownT (Good l r t ∧ (OkP l (k : Int) [0, 3] ∧ (0 ≤ pr ∧ pr ≤ 255))) (setAt l (k : Int) (fun _ => newP x pr)) = (setAt l (k : Int) (fun _ => newP x pr)) ∧ ownT (Good l r t ∧ (OkP l (k : Int) [0, 3] ∧ (0 ≤ pr ∧ pr ≤ 255))) (r ++ [(k : Int)]) = (r ++ [(k : Int)]) ∧ ownT (Good l r t ∧ (OkP l (k : Int) [0, 3] ∧ (0 ≤ pr ∧ pr ≤ 255))) t = t) := ⟨ofE_ok HGD.out ⟨HOKP.out, hx⟩, if_pos ⟨HGD.out, HOKP.out, hx⟩, if_pos ⟨HGD.out, HOKP.out, hx⟩, if_pos ⟨HGD.out, HOKP.out, hx⟩⟩
  have m0 := HM.out.bl.cell 0 _ rfl
  have hth : Hid (w'.there g (k * 21) (newP x pr).cells.toArray.size) := fun j hj => by
    have hj' : j < 21 := hj
    have h0 : j < q.cells.length := by rw [pro21]; exact hj'
    exact ⟨by rw [own_cellB HM.out.tab.p HKQ.out hj' (List.getElem?_eq_getElem h0)]; rfl, own_freeB HM.out.tab.p _⟩
  go_upto_region 7 with (refine wpList_store_mid rfl 64 (.tmp 34) (.tmp 33) rfl g (k * 21) (newP x pr).cells.toArray rfl rfl hth.out sizeProc (pro_all _) ?_)
  (try simp only [List.toList_toArray])
  have HM2 := hide (HM.out.putRow HKL.out (newP x pr))
  have Y2 := hide (below_cells HGB.out (newP x pr).cells (k * 21) w' (Below.refl WY.heap.size w'))
  clear m0 hth
  generalize w'.setCells g (k * 21) (newP x pr).cells = W2 at *
  go_wp2_with fail
  refine Calls.mono (join_any W2 WY.heap.size mb _ _ _ a2 n2 c2 a3 n3 c3 _ r t HM2.out (k : Int) HR8.out) ?_
  rintro e w3 ⟨rfl, ⟨a5, n5, c5, hm3⟩, y3⟩
  have HM3 := hide hm3
  have Y3 := hide (Y2.out.trans y3)
  clear hm3 y3
  have BG3 : Hid (Bl w3 (w.heap.size + 1) [.slice none 0 0, .slice none 0 0, .slice none 0 0]) :=
    ⟨fun j v hv => by rw [Y3.out.cell (p := ⟨w.heap.size + 1, j, none⟩) hb1.out]; exact BG1.out.cell j v hv, fun j => by rw [Y3.out.frozen (p := ⟨w.heap.size + 1, j, none⟩) hb1.out]; exact BG1.out.free j⟩
  have B3 := hide (B1.out.trans (Y3.out.mono hb2.out))
  have B4 := hide (below3 (g := w.heap.size + 1) (.slice (some ⟨g, 0, none⟩) l.length c1) (.slice a5 n5 c5) (.slice a3 n3 c3) B3.out (by omega))
  have G1 := hide (bl_three BG3.out (.slice (some ⟨g, 0, none⟩) l.length c1) (.slice a5 n5 c5) (.slice a3 n3 c3))
  have T1 := hide ((HM3.out.tab.three (g := w.heap.size + 1) hb1.out (.slice (some ⟨g, 0, none⟩) l.length c1) (.slice a5 n5 c5) (.slice a3 n3 c3)).weaken hb2.out)
  have g0 := BG3.out.cell 0 _ rfl
  have g1 := BG3.out.cell 1 _ rfl
  have g2 := BG3.out.cell 2 _ rfl
  have f0 := BG3.out.free 0
  have f1 := BG3.out.free 1
  have f2 := BG3.out.free 2
  have m0 := HM3.out.bl.cell 0 _ rfl
  have m1 := HM3.out.bl.cell 1 _ rfl
  have m2 := HM3.out.bl.cell 2 _ rfl
  go_wp2
  generalize (((w3.setCell ⟨w.heap.size + 1, 0, none⟩ (.slice (some ⟨g, 0, none⟩) l.length c1)).setCell ⟨w.heap.size + 1, 1, none⟩ (.slice a5 n5 c5)).setCell ⟨w.heap.size + 1, 2, none⟩ (.slice a3 n3 c3)) = W9 at *
  have e0 := G1.out.cell 0 _ rfl
  have e1 := G1.out.cell 1 _ rfl
  have e2 := G1.out.cell 2 _ rfl
  (try simp only [Exit.inBlock, Exit.then])
  refine bodyPost_ret (v := .tuple #[.agg #[.slice (some ⟨g, 0, none⟩) l.length c1, .slice a5 n5 c5, .slice a3 n3 c3], .nilIface]) (by simp [results, Tryz.results24, go_sem, e0, e1, e2]) rfl ?_
  exact ⟨_, _, _, _, _, _, _, _, _, _, rfl, by rw [HO.out.1]; exact bare_nil E, by rw [HO.out.2.1, HO.out.2.2.1, HO.out.2.2.2, setAt_of HKQ.out]; exact T1.out, B4.out⟩
end Go.Proofs.YtahcchipedppmaaGreatDoor
namespace Go.Proofs.YtahcchipedppmaaGreatDoor
open Classical
open Go.RowKit
set_option linter.unusedVariables false
set_option linter.unusedSimpArgs false

theorem from_any (w : World) (v1 v2 v3 : Value) (h1 : ∃ a n c, v1 = .slice a n c) (h2 : ∃ a n c, v2 = .slice a n c) (h3 : ∃ a n c, v3 = .slice a n c) :
    Calls Tryz.prog 11 #[.agg #[v1, v2, v3]] w fun e w' => e = .returned (.agg #[v1, v2, v3]) ∧ Below w.heap.size w w' := by
  obtain ⟨a1, n1, c1, rfl⟩ := h1
  obtain ⟨a2, n2, c2, rfl⟩ := h2
  obtain ⟨a3, n3, c3, rfl⟩ := h3
  go_enter Tryz.func11, Tryz.ntmps11
  go_wp2
  refine bodyPost_ret (v := .agg #[.slice a1 n1 c1, .slice a2 n2 c2, .slice a3 n3 c3]) (by simp [results, Tryz.results11, go_sem]) rfl ?_
  exact ⟨rfl, chain (new_below _ _) (new_below _ _)⟩
/-- append to a row of the call's own, as one step of a statement whose order Go leaves open, behind a guard. -/
theorem step_own_w {w : World} {ops : Array Oper} {o : Oper} {act : Act} {K : Act → World → Prop} {Q : Exit → Act → World → Prop} {EE : Prop} (hw : Region.wanted o (yielded ops act.tmps) = true) (s x : Operand) (t e : TypeId)
    (ho : o.op = .call { callee := .builtin .append, args := #[s, x], argTypes := #[t, t] }) (ht : Tryz.prog.underlying t = some (.slice e))
    {size bytes : Nat} (hi : ∃ i z, Tryz.prog.info? e = some i ∧ i.zero = some z ∧ i.size = size ∧ i.bytes = bytes ∧ z.cells.size = size) (h0 : 0 < size)
    (base : Nat) (v : Value) (n : Nat) (xs : List Value) (hs : act.eval s = v) (hv : w.ownsRow base e size v n xs)
    (a : Option Addr) (m c : Nat) (cs : List Value) (hx : act.eval x = .slice a m c) (hr : Row w a m c size cs) (one : ∀ u ∈ cs, u.oneCell' = true)
    (b1 : n + m ≤ maxLen) (b2 : (n + m) * bytes ≤ 140737488355328) (hbase : base ≤ w.heap.size)
    (h : ∀ v' w', w'.ownsRow base e size v' (n + m) (xs ++ cs) → Below base w w' → K (act.put o.dst v') w') :
    if Region.wanted o (yielded ops act.tmps) = true then Oper.wp Tryz.prog o act w K Q else EE := by
  rw [if_pos hw]
  obtain ⟨i, z, h2, h3, h4, h5, h6⟩ := hi
  obtain ⟨v', w', hrun, k1, k2⟩ : ∃ v' w', (Builtin.append_ #[t, t] o.type #[v, .slice a m c]).run Tryz.prog w = .ok v' w' ∧ w'.ownsRow base e size v' (n + m) (xs ++ cs) ∧ Below base w w' := by
    by_cases hm : m = 0
    · subst hm
      obtain rfl : cs = [] := List.length_eq_zero_iff.1 (by simpa using hr.size)
      obtain ⟨b, cap, rfl, hb⟩ := RLk.row (.inl hv)
      exact ⟨_, w, run_append_empty (P := Tryz.prog) w t o.type e i ht h2 b a n cap c hb.fit, by simpa using hv, Below.refl _ _⟩
    · match a, hx, hr with
      | none, hx, hr => exact absurd (hr.null rfl).1 hm
      | some ad, hx, hr =>
        have hcell : ∀ j u, cs[j]? = some u → w.cell? (ad.add j) = some u := fun j u hu => by
          obtain ⟨b, off, ha, hc⟩ := hr.cell j u hu
          simp only [Option.some.injEq] at ha
          subst ha
          rw [add_lit']
          exact hc
        obtain ⟨v', w', hrun, k1, k2, _⟩ := run_append_own (P := Tryz.prog) w base t o.type e i z size bytes ht h2 h3 h4 h5 h6 h0 v n xs hv ad m c cs hr.size hcell one b1 b2 hbase
        exact ⟨v', w', hrun, k1, (Below.refl _ _).grown k2 hbase (fun j e => (World.ownsRow.lt hv j e).1)⟩
  unfold Oper.wp execOp
  simp only [ho, resolve, invoke, builtin, Sem.run_bind, Sem.run_pure, Result.andThen_ok, List.map_toArray, List.map_cons, List.map_nil, hs, hx, hrun]
  exact h v' w' k1 k2
/-- Two tables of answers, in memory, that show the same. -/
theorem tab_lists {w : World} {base : Nat} {a1 : Option Addr} {n1 c1 : Nat} {a2 : Option Addr} {n2 c2 : Nat} {a3 : Option Addr} {n3 c3 : Nat} {l : List Pro} {r : List Int} {t : List Tm} (h : Tab w base (.slice a1 n1 c1) (.slice a2 n2 c2) (.slice a3 n3 c3) l r t) : Pros w a1 n1 c1 l ∧ Is w a2 n2 c2 r ∧ Tms w a3 n3 c3 t := by
  obtain ⟨a, c, e, h1⟩ := prown_pros h.p
  obtain ⟨a', c', e', h2⟩ := iown_is h.r
  obtain ⟨a'', c'', e'', h3⟩ := town_tms h.t
  simp only [Value.slice.injEq] at e e' e''
  obtain ⟨rfl, rfl, rfl⟩ := e
  obtain ⟨rfl, rfl, rfl⟩ := e'
  obtain ⟨rfl, rfl, rfl⟩ := e''
  exact ⟨h1, h2, h3⟩

theorem held6 {W wz : World} {b g : Nat} {x y z u v t : Value} (hb : Bl W b [x, y, z]) (hl : b < W.heap.size) (hg : Bl W g [u, v, t]) (hl' : g < W.heap.size) (h : Below W.heap.size W wz) : wz.cell? ⟨b, 0, none⟩ = some x ∧ wz.cell? ⟨b, 1, none⟩ = some y ∧ wz.cell? ⟨b, 2, none⟩ = some z ∧ wz.cell? ⟨g, 0, none⟩ = some u ∧ wz.cell? ⟨g, 1, none⟩ = some v ∧ wz.cell? ⟨g, 2, none⟩ = some t := by
  obtain ⟨h1, h2, h3⟩ := heldC hb hl h
  obtain ⟨h4, h5, h6⟩ := heldC hg hl' h
  exact ⟨h1, h2, h3, h4, h5, h6⟩

end Go.Proofs.YtahcchipedppmaaGreatDoor
namespace Go.Proofs.YtahcchipedppmaaGreatDoor
open Classical
open Go.RowKit
set_option linter.unusedVariables false
set_option linter.unusedSimpArgs false

/-- Refused as a wrong argument, with no table; or a good table of the call's own. -/
def Hd (E : Nat → Addr) (kd p : Int) (l : List Pro) (r : List Int) (w : World) (base : Nat) (b1 : Option Addr) (m1 d1 : Nat) (b2 : Option Addr) (m2 d2 : Nat) (b3 : Option Addr) (m3 d3 : Nat) (v : Value) : Prop :=
  (v = sent (E 12) ∧ m1 = 0 ∧ m2 = 0 ∧ m3 = 0) ∨ (v = .nilIface ∧ ∃ l' r' t', Good l' r' t' ∧ By kd p l r l' r' ∧ Tab w base (.slice b1 m1 d1) (.slice b2 m2 d2) (.slice b3 m3 d3) l' r' t')
theorem hd_of {E : Nat → Addr} {kd p : Int} {l : List Pro} {r : List Int} {w : World} {base : Nat} {b1 : Option Addr} {m1 d1 : Nat} {b2 : Option Addr} {m2 d2 : Nat} {b3 : Option Addr} {m3 d3 : Nat} {v : Value} {G K : Prop} [Decidable G] [Decidable K] [Decidable (G ∧ K)] {l' : List Pro} {r' : List Int} {t' : List Tm} (hG : G) (hb : Bare E v (ofE G K)) (ht : Tab w base (.slice b1 m1 d1) (.slice b2 m2 d2) (.slice b3 m3 d3) (ownT (G ∧ K) l') (ownT (G ∧ K) r') (ownT (G ∧ K) t')) (hg : G → K → Good l' r' t' ∧ By kd p l r l' r') : Hd E kd p l r w base b1 m1 d1 b2 m2 d2 b3 m3 d3 v := by
  by_cases h : K
  · rw [ofE_ok hG h] at hb
    have e1 : ownT (G ∧ K) l' = l' := if_pos ⟨hG, h⟩
    have e2 : ownT (G ∧ K) r' = r' := if_pos ⟨hG, h⟩
    have e3 : ownT (G ∧ K) t' = t' := if_pos ⟨hG, h⟩
    rw [e1, e2, e3] at ht
    exact .inr ⟨bare0 hb, l', r', t', (hg hG h).1, (hg hG h).2, ht⟩
  · have e0 : ofE G K = 12 := by unfold ofE; rw [if_pos hG, if_neg h]
    have e1 : ownT (G ∧ K) l' = [] := if_neg (fun q => h q.2)
    have e2 : ownT (G ∧ K) r' = [] := if_neg (fun q => h q.2)
    have e3 : ownT (G ∧ K) t' = [] := if_neg (fun q => h q.2)
    rw [e0] at hb
    rw [e1, e2, e3] at ht
    obtain ⟨a, c, q1, -⟩ := prown_pros ht.p
    obtain ⟨a', c', q2, -⟩ := iown_is ht.r
    obtain ⟨a'', c'', q3, -⟩ := town_tms ht.t
    simp only [Value.slice.injEq] at q1 q2 q3
    exact .inl ⟨bare_ne hb (by decide), q1.2.1, q2.2.1, q3.2.1⟩
theorem Hd.three {E : Nat → Addr} {kd p : Int} {l : List Pro} {r : List Int} {w : World} {base : Nat} {b1 : Option Addr} {m1 d1 : Nat} {b2 : Option Addr} {m2 d2 : Nat} {b3 : Option Addr} {m3 d3 : Nat} {v : Value} (h : Hd E kd p l r w base b1 m1 d1 b2 m2 d2 b3 m3 d3 v) {g : Nat} (hg : g < base) (x y z : Value) : Hd E kd p l r (((w.setCell ⟨g, 0, none⟩ x).setCell ⟨g, 1, none⟩ y).setCell ⟨g, 2, none⟩ z) base b1 m1 d1 b2 m2 d2 b3 m3 d3 v :=
  h.imp id fun ⟨e, l', r', t', h1, h2, h3⟩ => ⟨e, l', r', t', h1, h2, h3.three hg x y z⟩
theorem Hd.weaken {E : Nat → Addr} {kd p : Int} {l : List Pro} {r : List Int} {w : World} {base base' : Nat} {b1 : Option Addr} {m1 d1 : Nat} {b2 : Option Addr} {m2 d2 : Nat} {b3 : Option Addr} {m3 d3 : Nat} {v : Value} (h : Hd E kd p l r w base b1 m1 d1 b2 m2 d2 b3 m3 d3 v) (hb : base' ≤ base) : Hd E kd p l r w base' b1 m1 d1 b2 m2 d2 b3 m3 d3 v :=
  h.imp id fun ⟨e, l', r', t', h1, h2, h3⟩ => ⟨e, l', r', t', h1, h2, h3.weaken hb⟩
theorem good_yieldH {l : List Pro} {r : List Int} {t : List Tm} (h : Good l r t) {k : Nat} {q : Pro} (hk : l[k]? = some q) (hs : q.state = 1) : Good l (yldR r (k : Int)) t := by
  have hkl := (List.getElem?_eq_some_iff.1 hk).1
  have e : l.set k q = l := by
    obtain ⟨h1, h2⟩ := List.getElem?_eq_some_iff.1 hk
    rw [← h2]
    exact List.set_getElem_self h1
  have hq := h.2.1 q (List.mem_of_getElem? hk)
  have := good_put (q' := q) (r' := yldR r (k : Int)) h hk hq (fun i hi => ?_) ?_ (fun j hj => ?_) (good_at h hk).2.1 (good_at h hk).2.2
  · rw [e] at this
    exact this
  · rcases List.mem_append.1 hi with hi | hi
    · exact h.2.2.1.1 i (List.mem_filter.1 hi).1
    · simp at hi; omega
  · unfold yldR
    rw [List.count_append, count_out_self, if_pos hs]
    simp
  · unfold yldR
    rw [List.count_append, count_out (by omega)]
    have : ([(k : Int)].count (j : Int)) = 0 := by rw [List.count_eq_zero]; simp; omega
    omega

set_option maxRecDepth 100000 in
set_option maxHeartbeats 8000000 in
theorem call_any {w : World} {E : Nat → Addr} (he : Er9 w E) (pa : Option Addr) (pn pc : Nat) (l : List Pro) (hp : Pros w pa pn pc l) (ra : Option Addr) (rn rc : Nat) (r : List Int) (hr : Is w ra rn rc r) (ta : Option Addr) (tn tc : Nat) (t : List Tm) (ht : Tms w ta tn tc t) (hg : Good l r t) (kd p oa ob oc x : Int) :
    Calls Tryz.prog 9 #[.agg #[.slice pa pn pc, .slice ra rn rc, .slice ta tn tc], .agg #[.int .i64 kd, .int .i64 p, .int .i64 oa, .int .i64 ob, .int .i64 oc, .int .u32 x]] w fun e w' => ∃ b1 m1 d1 b2 m2 d2 b3 m3 d3 v, e = .returned (.tuple #[.agg #[.slice b1 m1 d1, .slice b2 m2 d2, .slice b3 m3 d3], v]) ∧ (Hd E kd p l r w' w.heap.size b1 m1 d1 b2 m2 d2 b3 m3 d3 v ∨ (v = .nilIface ∧ #[Value.slice b1 m1 d1, Value.slice b2 m2 d2, Value.slice b3 m3 d3] = #[Value.slice pa pn pc, Value.slice ra rn rc, Value.slice ta tn tc])) ∧ Below w.heap.size w w' := by
  have X1 := new_below w (.cells #[.slice pa pn pc, .slice ra rn rc, .slice ta tn tc] 34)
  have X2 := new_below (w.alloc (.cells #[.slice pa pn pc, .slice ra rn rc, .slice ta tn tc] 34)) (.cells #[.int .i64 kd, .int .i64 p, .int .i64 oa, .int .i64 ob, .int .i64 oc, .int .u32 x] 39)
  have X3 := new_below ((w.alloc (.cells #[.slice pa pn pc, .slice ra rn rc, .slice ta tn tc] 34)).alloc (.cells #[.int .i64 kd, .int .i64 p, .int .i64 oa, .int .i64 ob, .int .i64 oc, .int .u32 x] 39)) (.cells #[.slice none 0 0, .slice none 0 0, .slice none 0 0] 34)
  have s1 : (w.alloc (.cells #[.slice pa pn pc, .slice ra rn rc, .slice ta tn tc] 34)).heap.size = w.heap.size + 1 := by simp
  have s2 : ((w.alloc (.cells #[.slice pa pn pc, .slice ra rn rc, .slice ta tn tc] 34)).alloc (.cells #[.int .i64 kd, .int .i64 p, .int .i64 oa, .int .i64 ob, .int .i64 oc, .int .u32 x] 39)).heap.size = w.heap.size + 2 := by simp
  have s3 : (((w.alloc (.cells #[.slice pa pn pc, .slice ra rn rc, .slice ta tn tc] 34)).alloc (.cells #[.int .i64 kd, .int .i64 p, .int .i64 oa, .int .i64 ob, .int .i64 oc, .int .u32 x] 39)).alloc (.cells #[.slice none 0 0, .slice none 0 0, .slice none 0 0] 34)).heap.size = w.heap.size + 3 := by simp
  have BX0 := bl_alloc w #[.slice pa pn pc, .slice ra rn rc, .slice ta tn tc] 34
  have BM0 := bl_alloc (w.alloc (.cells #[.slice pa pn pc, .slice ra rn rc, .slice ta tn tc] 34)) #[.int .i64 kd, .int .i64 p, .int .i64 oa, .int .i64 ob, .int .i64 oc, .int .u32 x] 39
  have BR0 := bl_alloc ((w.alloc (.cells #[.slice pa pn pc, .slice ra rn rc, .slice ta tn tc] 34)).alloc (.cells #[.int .i64 kd, .int .i64 p, .int .i64 oa, .int .i64 ob, .int .i64 oc, .int .u32 x] 39)) #[.slice none 0 0, .slice none 0 0, .slice none 0 0] 34
  rw [s1] at BM0
  rw [s2] at BR0
  have UB : Hid (Bl (((w.alloc (.cells #[.slice pa pn pc, .slice ra rn rc, .slice ta tn tc] 34)).alloc (.cells #[.int .i64 kd, .int .i64 p, .int .i64 oa, .int .i64 ob, .int .i64 oc, .int .u32 x] 39)).alloc (.cells #[.slice none 0 0, .slice none 0 0, .slice none 0 0] 34)) w.heap.size [.slice pa pn pc, .slice ra rn rc, .slice ta tn tc]) := (BX0.below (by omega) X2).below (by omega) X3
  have MB : Hid (Bl (((w.alloc (.cells #[.slice pa pn pc, .slice ra rn rc, .slice ta tn tc] 34)).alloc (.cells #[.int .i64 kd, .int .i64 p, .int .i64 oa, .int .i64 ob, .int .i64 oc, .int .u32 x] 39)).alloc (.cells #[.slice none 0 0, .slice none 0 0, .slice none 0 0] 34)) (w.heap.size + 1) [.int .i64 kd, .int .i64 p, .int .i64 oa, .int .i64 ob, .int .i64 oc, .int .u32 x]) := BM0.below (by omega) X3
  have RB : Hid (Bl (((w.alloc (.cells #[.slice pa pn pc, .slice ra rn rc, .slice ta tn tc] 34)).alloc (.cells #[.int .i64 kd, .int .i64 p, .int .i64 oa, .int .i64 ob, .int .i64 oc, .int .u32 x] 39)).alloc (.cells #[.slice none 0 0, .slice none 0 0, .slice none 0 0] 34)) (w.heap.size + 2) [.slice none 0 0, .slice none 0 0, .slice none 0 0]) := BR0
  have B1 := hide (chain (chain X1 X2) X3)
  have HZ := hide s3
  have HS := hide (hp.below B1.out)
  have HI := hide (hr.below B1.out)
  have HT := hide (ht.below B1.out)
  have HE := hide (he.below B1.out)
  have HGD := hide hg
  have HS8 : Hid (pn ≤ 8 ∧ rn ≤ 8 ∧ tn ≤ 8) := by
    have h1 := hg.1
    have h2 := goodR_few hg.2.2.1 hg.1
    have h3 := hg.tfew
    have := hp.size
    have := hr.size
    have := ht.size
    exact ⟨by omega, by omega, by omega⟩
  clear X1 X2 X3 s1 s2 s3 BX0 BM0 BR0 hp hr ht he hg
  go_enter Tryz.func9, Tryz.ntmps9
  go_upto_region 1 with fail
  generalize ((w.alloc (.cells #[.slice pa pn pc, .slice ra rn rc, .slice ta tn tc] 34)).alloc (.cells #[.int .i64 kd, .int .i64 p, .int .i64 oa, .int .i64 ob, .int .i64 oc, .int .u32 x] 39)).alloc (.cells #[.slice none 0 0, .slice none 0 0, .slice none 0 0] 34) = W0 at *
  have RZ : Hid (w.heap.size + 2 < W0.heap.size) := by unfold Hid; rw [HZ.out]; omega
  have k0 := MB.out.cell 0 _ rfl
  go_upto_region 2 with fail
  clear k0
  by_cases hk1 : kd = 1
  · have e1 : (kd == 1) = true := by simp [hk1]
    have u0 := UB.out.cell 0 _ rfl
    have u1 := UB.out.cell 1 _ rfl
    have u2 := UB.out.cell 2 _ rfl
    have k1 := MB.out.cell 1 _ rfl
    go_wp2_with fail
    refine Calls.mono (yield_any HE.out pa pn pc l HS.out ra rn rc r HI.out ta tn tc t HT.out (by have := HS8.out; omega) (by have := HS8.out; omega) (by have := HS8.out; omega) p) ?_
    rintro e w9 ⟨b1, m1, d1, b2, m2, d2, b3, m3, d3, v9, rfl, hb9, ht9, x9⟩
    have HMV : Hid (Hd E kd p l r w9 W0.heap.size b1 m1 d1 b2 m2 d2 b3 m3 d3 v9) := hd_of HGD.out hb9 ht9 (fun hg hk => by obtain ⟨k, q, rfl, hq, hs⟩ := okP_at hk; exact ⟨good_yieldH hg hq (by simpa using hs), ⟨rfl, .inr (.inr ⟨fun _ _ => rfl, by unfold yldR; rw [out_app, out_out]⟩)⟩⟩)
    clear hb9 ht9 u0 u1 u2 k1
    have BGF := hide (RB.out.below RZ.out x9)
    have G1 := hide (bl_three BGF.out (.slice b1 m1 d1) (.slice b2 m2 d2) (.slice b3 m3 d3))
    have BF := hide (below3 (g := w.heap.size + 2) (.slice b1 m1 d1) (.slice b2 m2 d2) (.slice b3 m3 d3) (chain B1.out x9) (by omega))
    have HF := hide ((HMV.out.three (g := w.heap.size + 2) RZ.out (.slice b1 m1 d1) (.slice b2 m2 d2) (.slice b3 m3 d3)).weaken B1.out.size)
    have g0 := BGF.out.cell 0 _ rfl
    have g1 := BGF.out.cell 1 _ rfl
    have g2 := BGF.out.cell 2 _ rfl
    have f0 := BGF.out.free 0
    have f1 := BGF.out.free 1
    have f2 := BGF.out.free 2
    clear x9
    go_wp2
    generalize (((w9.setCell ⟨w.heap.size + 2, 0, none⟩ (.slice b1 m1 d1)).setCell ⟨w.heap.size + 2, 1, none⟩ (.slice b2 m2 d2)).setCell ⟨w.heap.size + 2, 2, none⟩ (.slice b3 m3 d3)) = W9 at *
    have e0 := G1.out.cell 0 _ rfl
    have e1 := G1.out.cell 1 _ rfl
    have e2 := G1.out.cell 2 _ rfl
    (try simp only [Exit.inBlock, Exit.then])
    refine bodyPost_ret (v := .tuple #[.agg #[.slice b1 m1 d1, .slice b2 m2 d2, .slice b3 m3 d3], v9]) (by simp [results, Tryz.results9, go_sem, e0, e1, e2]) rfl ?_
    exact ⟨_, _, _, _, _, _, _, _, _, _, rfl, .inl HF.out, BF.out⟩
  have e1 : (kd == 1) = false := by simp [hk1]
  by_cases hk2 : kd = 2
  · have e2 : (kd == 2) = true := by simp [hk2]
    have u0 := UB.out.cell 0 _ rfl
    have u1 := UB.out.cell 1 _ rfl
    have u2 := UB.out.cell 2 _ rfl
    have k1 := MB.out.cell 1 _ rfl
    have k2 := MB.out.cell 2 _ rfl
    have k3 := MB.out.cell 3 _ rfl
    have k4 := MB.out.cell 4 _ rfl
    go_wp2_with fail
    refine Calls.mono (blockE_any HE.out pa pn pc l HS.out ra rn rc r HI.out ta tn tc t HT.out (by have := HS8.out; omega) (by have := HS8.out; omega) (by have := HS8.out; omega) p oa ob oc (fun W he a len cap l hs p d hm => tset_any he a len cap l hs p d hm)) ?_
    rintro e w9 ⟨b1, m1, d1, b2, m2, d2, b3, m3, d3, v9, rfl, hb9, ht9, x9⟩
    have HMV : Hid (Hd E kd p l r w9 W0.heap.size b1 m1 d1 b2 m2 d2 b3 m3 d3 v9) := hd_of HGD.out hb9 ht9 (fun hg hk => by obtain ⟨k, q, rfl, hq, hs⟩ := okP_at hk.1; exact ⟨by rw [setAt_of hq]; exact Rb.good_block hg hq (by simpa using hs) hk.2.1 hk.2.2, by_set kd (by omega) l _ (out_out _ _)⟩)
    clear hb9 ht9 u0 u1 u2 k1 k2 k3 k4
    have BGF := hide (RB.out.below RZ.out x9)
    have G1 := hide (bl_three BGF.out (.slice b1 m1 d1) (.slice b2 m2 d2) (.slice b3 m3 d3))
    have BF := hide (below3 (g := w.heap.size + 2) (.slice b1 m1 d1) (.slice b2 m2 d2) (.slice b3 m3 d3) (chain B1.out x9) (by omega))
    have HF := hide ((HMV.out.three (g := w.heap.size + 2) RZ.out (.slice b1 m1 d1) (.slice b2 m2 d2) (.slice b3 m3 d3)).weaken B1.out.size)
    have g0 := BGF.out.cell 0 _ rfl
    have g1 := BGF.out.cell 1 _ rfl
    have g2 := BGF.out.cell 2 _ rfl
    have f0 := BGF.out.free 0
    have f1 := BGF.out.free 1
    have f2 := BGF.out.free 2
    clear x9
    go_wp2
    generalize (((w9.setCell ⟨w.heap.size + 2, 0, none⟩ (.slice b1 m1 d1)).setCell ⟨w.heap.size + 2, 1, none⟩ (.slice b2 m2 d2)).setCell ⟨w.heap.size + 2, 2, none⟩ (.slice b3 m3 d3)) = W9 at *
    have e0 := G1.out.cell 0 _ rfl
    have e1 := G1.out.cell 1 _ rfl
    have e2 := G1.out.cell 2 _ rfl
    (try simp only [Exit.inBlock, Exit.then])
    refine bodyPost_ret (v := .tuple #[.agg #[.slice b1 m1 d1, .slice b2 m2 d2, .slice b3 m3 d3], v9]) (by simp [results, Tryz.results9, go_sem, e0, e1, e2]) rfl ?_
    exact ⟨_, _, _, _, _, _, _, _, _, _, rfl, .inl HF.out, BF.out⟩
  have e2 : (kd == 2) = false := by simp [hk2]
  by_cases hk3 : kd = 3
  · have e3 : (kd == 3) = true := by simp [hk3]
    have u0 := UB.out.cell 0 _ rfl
    have u1 := UB.out.cell 1 _ rfl
    have u2 := UB.out.cell 2 _ rfl
    have k1 := MB.out.cell 1 _ rfl
    have k5 := MB.out.cell 5 _ rfl
    go_wp2_with fail
    refine Calls.mono (wakeE_any HE.out pa pn pc l HS.out ra rn rc r HI.out ta tn tc t HT.out (by have := HS8.out; omega) (by have := HS8.out; omega) (by have := HS8.out; omega) p x) ?_
    rintro e w9 ⟨b1, m1, d1, b2, m2, d2, b3, m3, d3, v9, rfl, hb9, ht9, x9⟩
    have HMV : Hid (Hd E kd p l r w9 W0.heap.size b1 m1 d1 b2 m2 d2 b3 m3 d3 v9) := hd_of HGD.out hb9 ht9 (fun hg hk => by obtain ⟨k, q, rfl, hq, hs⟩ := okP_at hk; exact ⟨by rw [setAt_of hq]; exact good_wake hg hq (by simpa using hs) _, by_set kd (by omega) l _ (out_app _ _)⟩)
    clear hb9 ht9 u0 u1 u2 k1 k5
    have BGF := hide (RB.out.below RZ.out x9)
    have G1 := hide (bl_three BGF.out (.slice b1 m1 d1) (.slice b2 m2 d2) (.slice b3 m3 d3))
    have BF := hide (below3 (g := w.heap.size + 2) (.slice b1 m1 d1) (.slice b2 m2 d2) (.slice b3 m3 d3) (chain B1.out x9) (by omega))
    have HF := hide ((HMV.out.three (g := w.heap.size + 2) RZ.out (.slice b1 m1 d1) (.slice b2 m2 d2) (.slice b3 m3 d3)).weaken B1.out.size)
    have g0 := BGF.out.cell 0 _ rfl
    have g1 := BGF.out.cell 1 _ rfl
    have g2 := BGF.out.cell 2 _ rfl
    have f0 := BGF.out.free 0
    have f1 := BGF.out.free 1
    have f2 := BGF.out.free 2
    clear x9
    go_wp2
    generalize (((w9.setCell ⟨w.heap.size + 2, 0, none⟩ (.slice b1 m1 d1)).setCell ⟨w.heap.size + 2, 1, none⟩ (.slice b2 m2 d2)).setCell ⟨w.heap.size + 2, 2, none⟩ (.slice b3 m3 d3)) = W9 at *
    have e0 := G1.out.cell 0 _ rfl
    have e1 := G1.out.cell 1 _ rfl
    have e2 := G1.out.cell 2 _ rfl
    (try simp only [Exit.inBlock, Exit.then])
    refine bodyPost_ret (v := .tuple #[.agg #[.slice b1 m1 d1, .slice b2 m2 d2, .slice b3 m3 d3], v9]) (by simp [results, Tryz.results9, go_sem, e0, e1, e2]) rfl ?_
    exact ⟨_, _, _, _, _, _, _, _, _, _, rfl, .inl HF.out, BF.out⟩
  have e3 : (kd == 3) = false := by simp [hk3]
  by_cases hk4 : kd = 4
  · have e4 : (kd == 4) = true := by simp [hk4]
    have u0 := UB.out.cell 0 _ rfl
    have u1 := UB.out.cell 1 _ rfl
    have u2 := UB.out.cell 2 _ rfl
    have k1 := MB.out.cell 1 _ rfl
    have k2 := MB.out.cell 2 _ rfl
    go_wp2_with fail
    refine Calls.mono (halt_any HE.out pa pn pc l HS.out ra rn rc r HI.out ta tn tc t HT.out (by have := HS8.out; omega) (by have := HS8.out; omega) (by have := HS8.out; omega) p oa) ?_
    rintro e w9 ⟨b1, m1, d1, b2, m2, d2, b3, m3, d3, v9, rfl, hb9, ht9, x9⟩
    have HMV : Hid (Hd E kd p l r w9 W0.heap.size b1 m1 d1 b2 m2 d2 b3 m3 d3 v9) := hd_of HGD.out hb9 ht9 (fun hg hk => by obtain ⟨k, q, rfl, hq, hs⟩ := okP_at hk.1; exact ⟨by rw [setAt_of hq]; exact good_halt hg hq (by simpa using hs) hk.2, by_set kd (by omega) l _ (out_out _ _)⟩)
    clear hb9 ht9 u0 u1 u2 k1 k2
    have BGF := hide (RB.out.below RZ.out x9)
    have G1 := hide (bl_three BGF.out (.slice b1 m1 d1) (.slice b2 m2 d2) (.slice b3 m3 d3))
    have BF := hide (below3 (g := w.heap.size + 2) (.slice b1 m1 d1) (.slice b2 m2 d2) (.slice b3 m3 d3) (chain B1.out x9) (by omega))
    have HF := hide ((HMV.out.three (g := w.heap.size + 2) RZ.out (.slice b1 m1 d1) (.slice b2 m2 d2) (.slice b3 m3 d3)).weaken B1.out.size)
    have g0 := BGF.out.cell 0 _ rfl
    have g1 := BGF.out.cell 1 _ rfl
    have g2 := BGF.out.cell 2 _ rfl
    have f0 := BGF.out.free 0
    have f1 := BGF.out.free 1
    have f2 := BGF.out.free 2
    clear x9
    go_wp2
    generalize (((w9.setCell ⟨w.heap.size + 2, 0, none⟩ (.slice b1 m1 d1)).setCell ⟨w.heap.size + 2, 1, none⟩ (.slice b2 m2 d2)).setCell ⟨w.heap.size + 2, 2, none⟩ (.slice b3 m3 d3)) = W9 at *
    have e0 := G1.out.cell 0 _ rfl
    have e1 := G1.out.cell 1 _ rfl
    have e2 := G1.out.cell 2 _ rfl
    (try simp only [Exit.inBlock, Exit.then])
    refine bodyPost_ret (v := .tuple #[.agg #[.slice b1 m1 d1, .slice b2 m2 d2, .slice b3 m3 d3], v9]) (by simp [results, Tryz.results9, go_sem, e0, e1, e2]) rfl ?_
    exact ⟨_, _, _, _, _, _, _, _, _, _, rfl, .inl HF.out, BF.out⟩
  have e4 : (kd == 4) = false := by simp [hk4]
  by_cases hk5 : kd = 5
  · have e5 : (kd == 5) = true := by simp [hk5]
    have u0 := UB.out.cell 0 _ rfl
    have u1 := UB.out.cell 1 _ rfl
    have u2 := UB.out.cell 2 _ rfl
    have k1 := MB.out.cell 1 _ rfl
    have k2 := MB.out.cell 2 _ rfl
    have k5 := MB.out.cell 5 _ rfl
    go_wp2_with fail
    refine Calls.mono (start_any HE.out pa pn pc l HS.out ra rn rc r HI.out ta tn tc t HT.out (by have := HS8.out; omega) (by have := HS8.out; omega) (by have := HS8.out; omega) p x oa) ?_
    rintro e w9 ⟨b1, m1, d1, b2, m2, d2, b3, m3, d3, v9, rfl, hb9, ht9, x9⟩
    have HMV : Hid (Hd E kd p l r w9 W0.heap.size b1 m1 d1 b2 m2 d2 b3 m3 d3 v9) := hd_of HGD.out hb9 ht9 (fun hg hk => by obtain ⟨k, q, rfl, hq, hs⟩ := okP_at hk.1; exact ⟨by rw [setAt_of hq]; exact good_start hg hq (by simpa using hs) _ hk.2, by_set kd (by omega) l _ (out_app _ _)⟩)
    clear hb9 ht9 u0 u1 u2 k1 k2 k5
    have BGF := hide (RB.out.below RZ.out x9)
    have G1 := hide (bl_three BGF.out (.slice b1 m1 d1) (.slice b2 m2 d2) (.slice b3 m3 d3))
    have BF := hide (below3 (g := w.heap.size + 2) (.slice b1 m1 d1) (.slice b2 m2 d2) (.slice b3 m3 d3) (chain B1.out x9) (by omega))
    have HF := hide ((HMV.out.three (g := w.heap.size + 2) RZ.out (.slice b1 m1 d1) (.slice b2 m2 d2) (.slice b3 m3 d3)).weaken B1.out.size)
    have g0 := BGF.out.cell 0 _ rfl
    have g1 := BGF.out.cell 1 _ rfl
    have g2 := BGF.out.cell 2 _ rfl
    have f0 := BGF.out.free 0
    have f1 := BGF.out.free 1
    have f2 := BGF.out.free 2
    clear x9
    go_wp2
    generalize (((w9.setCell ⟨w.heap.size + 2, 0, none⟩ (.slice b1 m1 d1)).setCell ⟨w.heap.size + 2, 1, none⟩ (.slice b2 m2 d2)).setCell ⟨w.heap.size + 2, 2, none⟩ (.slice b3 m3 d3)) = W9 at *
    have e0 := G1.out.cell 0 _ rfl
    have e1 := G1.out.cell 1 _ rfl
    have e2 := G1.out.cell 2 _ rfl
    (try simp only [Exit.inBlock, Exit.then])
    refine bodyPost_ret (v := .tuple #[.agg #[.slice b1 m1 d1, .slice b2 m2 d2, .slice b3 m3 d3], v9]) (by simp [results, Tryz.results9, go_sem, e0, e1, e2]) rfl ?_
    exact ⟨_, _, _, _, _, _, _, _, _, _, rfl, .inl HF.out, BF.out⟩
  have e5 : (kd == 5) = false := by simp [hk5]
  by_cases hk6 : kd = 6
  · have e6 : (kd == 6) = true := by simp [hk6]
    have u0 := UB.out.cell 0 _ rfl
    have u1 := UB.out.cell 1 _ rfl
    have u2 := UB.out.cell 2 _ rfl
    have k1 := MB.out.cell 1 _ rfl
    have k2 := MB.out.cell 2 _ rfl
    go_wp2_with fail
    refine Calls.mono (rank_any HE.out pa pn pc l HS.out ra rn rc r HI.out ta tn tc t HT.out (by have := HS8.out; omega) (by have := HS8.out; omega) (by have := HS8.out; omega) p oa) ?_
    rintro e w9 ⟨b1, m1, d1, b2, m2, d2, b3, m3, d3, v9, rfl, hb9, ht9, x9⟩
    have HMV : Hid (Hd E kd p l r w9 W0.heap.size b1 m1 d1 b2 m2 d2 b3 m3 d3 v9) := hd_of HGD.out hb9 ht9 (fun hg hk => by obtain ⟨k, q, rfl, hq, hs⟩ := okP_at hk.1; exact ⟨by rw [setAt_of hq]; exact good_rank hg hq hk.2, by_set kd (by omega) l _ rfl⟩)
    clear hb9 ht9 u0 u1 u2 k1 k2
    have BGF := hide (RB.out.below RZ.out x9)
    have G1 := hide (bl_three BGF.out (.slice b1 m1 d1) (.slice b2 m2 d2) (.slice b3 m3 d3))
    have BF := hide (below3 (g := w.heap.size + 2) (.slice b1 m1 d1) (.slice b2 m2 d2) (.slice b3 m3 d3) (chain B1.out x9) (by omega))
    have HF := hide ((HMV.out.three (g := w.heap.size + 2) RZ.out (.slice b1 m1 d1) (.slice b2 m2 d2) (.slice b3 m3 d3)).weaken B1.out.size)
    have g0 := BGF.out.cell 0 _ rfl
    have g1 := BGF.out.cell 1 _ rfl
    have g2 := BGF.out.cell 2 _ rfl
    have f0 := BGF.out.free 0
    have f1 := BGF.out.free 1
    have f2 := BGF.out.free 2
    clear x9
    go_wp2
    generalize (((w9.setCell ⟨w.heap.size + 2, 0, none⟩ (.slice b1 m1 d1)).setCell ⟨w.heap.size + 2, 1, none⟩ (.slice b2 m2 d2)).setCell ⟨w.heap.size + 2, 2, none⟩ (.slice b3 m3 d3)) = W9 at *
    have e0 := G1.out.cell 0 _ rfl
    have e1 := G1.out.cell 1 _ rfl
    have e2 := G1.out.cell 2 _ rfl
    (try simp only [Exit.inBlock, Exit.then])
    refine bodyPost_ret (v := .tuple #[.agg #[.slice b1 m1 d1, .slice b2 m2 d2, .slice b3 m3 d3], v9]) (by simp [results, Tryz.results9, go_sem, e0, e1, e2]) rfl ?_
    exact ⟨_, _, _, _, _, _, _, _, _, _, rfl, .inl HF.out, BF.out⟩
  have e6 : (kd == 6) = false := by simp [hk6]
  by_cases hk7 : kd = 7
  · have e7 : (kd == 7) = true := by simp [hk7]
    have u0 := UB.out.cell 0 _ rfl
    have u1 := UB.out.cell 1 _ rfl
    have u2 := UB.out.cell 2 _ rfl
    have k2 := MB.out.cell 2 _ rfl
    have k3 := MB.out.cell 3 _ rfl
    have k5 := MB.out.cell 5 _ rfl
    go_wp2_with fail
    refine Calls.mono (wakeAll_any HE.out pa pn pc l HS.out ra rn rc r HI.out ta tn tc t HT.out (by have := HS8.out; omega) (by have := HS8.out; omega) (by have := HS8.out; omega) oa ob x) ?_
    rintro e w9 ⟨b1, m1, d1, b2, m2, d2, b3, m3, d3, v9, rfl, hb9, ht9, x9⟩
    have HMV : Hid (Hd E kd p l r w9 W0.heap.size b1 m1 d1 b2 m2 d2 b3 m3 d3 v9) := by
      rw [show ownE (Good l r t) = 0 from if_pos HGD.out] at hb9
      rw [show ownT (Good l r t) (wakeAll l r t (waitsOf l oa ob) x).1 = (wakeAll l r t (waitsOf l oa ob) x).1 from if_pos HGD.out, show ownT (Good l r t) (wakeAll l r t (waitsOf l oa ob) x).2.1 = (wakeAll l r t (waitsOf l oa ob) x).2.1 from if_pos HGD.out, show ownT (Good l r t) (wakeAll l r t (waitsOf l oa ob) x).2.2 = (wakeAll l r t (waitsOf l oa ob) x).2.2 from if_pos HGD.out] at ht9
      exact .inr ⟨bare0 hb9, _, _, _, good_wakeAll (waits_nodup l oa ob) (waits_state l oa ob) HGD.out, ⟨wakeAll_len l r t x _, .inl hk7⟩, ht9⟩
    clear hb9 ht9 u0 u1 u2 k2 k3 k5
    have BGF := hide (RB.out.below RZ.out x9)
    have G1 := hide (bl_three BGF.out (.slice b1 m1 d1) (.slice b2 m2 d2) (.slice b3 m3 d3))
    have BF := hide (below3 (g := w.heap.size + 2) (.slice b1 m1 d1) (.slice b2 m2 d2) (.slice b3 m3 d3) (chain B1.out x9) (by omega))
    have HF := hide ((HMV.out.three (g := w.heap.size + 2) RZ.out (.slice b1 m1 d1) (.slice b2 m2 d2) (.slice b3 m3 d3)).weaken B1.out.size)
    have g0 := BGF.out.cell 0 _ rfl
    have g1 := BGF.out.cell 1 _ rfl
    have g2 := BGF.out.cell 2 _ rfl
    have f0 := BGF.out.free 0
    have f1 := BGF.out.free 1
    have f2 := BGF.out.free 2
    clear x9
    go_wp2
    generalize (((w9.setCell ⟨w.heap.size + 2, 0, none⟩ (.slice b1 m1 d1)).setCell ⟨w.heap.size + 2, 1, none⟩ (.slice b2 m2 d2)).setCell ⟨w.heap.size + 2, 2, none⟩ (.slice b3 m3 d3)) = W9 at *
    have e0 := G1.out.cell 0 _ rfl
    have e1 := G1.out.cell 1 _ rfl
    have e2 := G1.out.cell 2 _ rfl
    (try simp only [Exit.inBlock, Exit.then])
    refine bodyPost_ret (v := .tuple #[.agg #[.slice b1 m1 d1, .slice b2 m2 d2, .slice b3 m3 d3], v9]) (by simp [results, Tryz.results9, go_sem, e0, e1, e2]) rfl ?_
    exact ⟨_, _, _, _, _, _, _, _, _, _, rfl, .inl HF.out, BF.out⟩
  have e7 : (kd == 7) = false := by simp [hk7]
  by_cases hk8 : kd = 8
  · have e8 : (kd == 8) = true := by simp [hk8]
    have u0 := UB.out.cell 0 _ rfl
    have u1 := UB.out.cell 1 _ rfl
    have u2 := UB.out.cell 2 _ rfl
    have k2 := MB.out.cell 2 _ rfl
    go_wp2_with fail
    refine Calls.mono (fire_any HE.out pa pn pc l HS.out ra rn rc r HI.out ta tn tc t HT.out (by have := HS8.out; omega) (by have := HS8.out; omega) (by have := HS8.out; omega) oa) ?_
    rintro e w8 ⟨b1, m1, d1, b2, m2, d2, b3, m3, d3, xv, v9, rfl, hb9, ht9, hx9, x8⟩
    have X9 := new_below w8 (.cells #[.slice b1 m1 d1, .slice b2 m2 d2, .slice b3 m3 d3] 34)
    have x9 := chain x8 X9
    have HMV : Hid (Hd E kd p l r (w8.alloc (.cells #[.slice b1 m1 d1, .slice b2 m2 d2, .slice b3 m3 d3] 34)) W0.heap.size b1 m1 d1 b2 m2 d2 b3 m3 d3 v9) := by
      rw [show ownE (Good l r t) = 0 from if_pos HGD.out] at hb9
      rw [show ownT (Good l r t) (fireAll l r (firedI t oa)).1 = (fireAll l r (firedI t oa)).1 from if_pos HGD.out, show ownT (Good l r t) (fireAll l r (firedI t oa)).2 = (fireAll l r (firedI t oa)).2 from if_pos HGD.out, show ownT (Good l r t) (left t oa) = left t oa from if_pos HGD.out] at ht9
      exact .inr ⟨bare0 hb9, _, _, _, good_fire HGD.out, ⟨fireAll_len r _ l, .inr (.inl hk8)⟩, ht9.below X9⟩
    have NB := hide (bl_alloc w8 #[.slice b1 m1 d1, .slice b2 m2 d2, .slice b3 m3 d3] 34)
    clear hb9 ht9 hx9 x8 X9 u0 u1 u2 k2
    go_upto_region 18 with fail
    generalize w8.alloc (.cells #[.slice b1 m1 d1, .slice b2 m2 d2, .slice b3 m3 d3] 34) = w9 at *
    have n0 := NB.out.cell 0 _ rfl
    have n1' := NB.out.cell 1 _ rfl
    have n2' := NB.out.cell 2 _ rfl
    have BGF := hide (RB.out.below RZ.out x9)
    have G1 := hide (bl_three BGF.out (.slice b1 m1 d1) (.slice b2 m2 d2) (.slice b3 m3 d3))
    have BF := hide (below3 (g := w.heap.size + 2) (.slice b1 m1 d1) (.slice b2 m2 d2) (.slice b3 m3 d3) (chain B1.out x9) (by omega))
    have HF := hide ((HMV.out.three (g := w.heap.size + 2) RZ.out (.slice b1 m1 d1) (.slice b2 m2 d2) (.slice b3 m3 d3)).weaken B1.out.size)
    have g0 := BGF.out.cell 0 _ rfl
    have g1 := BGF.out.cell 1 _ rfl
    have g2 := BGF.out.cell 2 _ rfl
    have f0 := BGF.out.free 0
    have f1 := BGF.out.free 1
    have f2 := BGF.out.free 2
    clear x9
    go_wp2
    generalize (((w9.setCell ⟨w.heap.size + 2, 0, none⟩ (.slice b1 m1 d1)).setCell ⟨w.heap.size + 2, 1, none⟩ (.slice b2 m2 d2)).setCell ⟨w.heap.size + 2, 2, none⟩ (.slice b3 m3 d3)) = W9 at *
    have e0 := G1.out.cell 0 _ rfl
    have e1 := G1.out.cell 1 _ rfl
    have e2 := G1.out.cell 2 _ rfl
    (try simp only [Exit.inBlock, Exit.then])
    refine bodyPost_ret (v := .tuple #[.agg #[.slice b1 m1 d1, .slice b2 m2 d2, .slice b3 m3 d3], v9]) (by simp [results, Tryz.results9, go_sem, e0, e1, e2]) rfl ?_
    exact ⟨_, _, _, _, _, _, _, _, _, _, rfl, .inl HF.out, BF.out⟩
  have e8 : (kd == 8) = false := by simp [hk8]
  have u0 := UB.out.cell 0 _ rfl
  have u1 := UB.out.cell 1 _ rfl
  have u2 := UB.out.cell 2 _ rfl
  have x9 := Below.refl W0.heap.size W0
  have BGF := hide (RB.out.below RZ.out x9)
  have G1 := hide (bl_three BGF.out (.slice pa pn pc) (.slice ra rn rc) (.slice ta tn tc))
  have BF := hide (below3 (g := w.heap.size + 2) (.slice pa pn pc) (.slice ra rn rc) (.slice ta tn tc) (chain B1.out x9) (by omega))
  have g0 := BGF.out.cell 0 _ rfl
  have g1 := BGF.out.cell 1 _ rfl
  have g2 := BGF.out.cell 2 _ rfl
  have f0 := BGF.out.free 0
  have f1 := BGF.out.free 1
  have f2 := BGF.out.free 2
  clear x9
  go_wp2
  generalize (((W0.setCell ⟨w.heap.size + 2, 0, none⟩ (.slice pa pn pc)).setCell ⟨w.heap.size + 2, 1, none⟩ (.slice ra rn rc)).setCell ⟨w.heap.size + 2, 2, none⟩ (.slice ta tn tc)) = W9 at *
  have e0 := G1.out.cell 0 _ rfl
  have e1 := G1.out.cell 1 _ rfl
  have e2 := G1.out.cell 2 _ rfl
  (try simp only [Exit.inBlock, Exit.then])
  refine bodyPost_ret (v := .tuple #[.agg #[.slice pa pn pc, .slice ra rn rc, .slice ta tn tc], .nilIface]) (by simp [results, Tryz.results9, go_sem, e0, e1, e2]) rfl ?_
  exact ⟨_, _, _, _, _, _, _, _, _, _, rfl, .inr ⟨rfl, rfl⟩, BF.out⟩
end Go.Proofs.YtahcchipedppmaaGreatDoor
namespace Go.Proofs.YtahcchipedppmaaGreatDoor
open Classical
open Go.RowKit
set_option linter.unusedVariables false
set_option linter.unusedSimpArgs false

set_option maxRecDepth 100000 in
set_option maxHeartbeats 8000000 in
theorem bystander_any (w : World) (pa : Option Addr) (pn pc : Nat) (l : List Pro) (hp : Pros w pa pn pc l) (ra : Option Addr) (rn rc : Nat) (r : List Int) (hr : Is w ra rn rc r) (ta : Option Addr) (tn tc : Nat)
    (pa' : Option Addr) (pn' pc' : Nat) (l' : List Pro) (hp' : Pros w pa' pn' pc' l') (ra' : Option Addr) (rn' rc' : Nat) (r' : List Int) (hr' : Is w ra' rn' rc' r') (ta' : Option Addr) (tn' tc' : Nat) (kd p oa ob oc x : Int) (hby : By kd p l r l' r') (hmp : pn ≤ 8) (hmr : rn ≤ 8) (hmr' : rn' ≤ 8) :
    Calls Tryz.prog 12 #[.agg #[.slice pa pn pc, .slice ra rn rc, .slice ta tn tc], .agg #[.slice pa' pn' pc', .slice ra' rn' rc', .slice ta' tn' tc'], .agg #[.int .i64 kd, .int .i64 p, .int .i64 oa, .int .i64 ob, .int .i64 oc, .int .u32 x]] w fun e w' => e = .returned (.bool true) ∧ Below w.heap.size w w' := by
  have hnn : pn = pn' := by rw [← hp'.size, ← hp.size, hby.len]
  subst hnn
  have X1 := new_below w (.cells #[.slice pa pn pc, .slice ra rn rc, .slice ta tn tc] 34)
  have X2 := new_below (w.alloc (.cells #[.slice pa pn pc, .slice ra rn rc, .slice ta tn tc] 34)) (.cells #[.slice pa' pn pc', .slice ra' rn' rc', .slice ta' tn' tc'] 34)
  have X3 := new_below ((w.alloc (.cells #[.slice pa pn pc, .slice ra rn rc, .slice ta tn tc] 34)).alloc (.cells #[.slice pa' pn pc', .slice ra' rn' rc', .slice ta' tn' tc'] 34)) (.cells #[.int .i64 kd, .int .i64 p, .int .i64 oa, .int .i64 ob, .int .i64 oc, .int .u32 x] 39)
  have s1 : (w.alloc (.cells #[.slice pa pn pc, .slice ra rn rc, .slice ta tn tc] 34)).heap.size = w.heap.size + 1 := by simp
  have s2 : ((w.alloc (.cells #[.slice pa pn pc, .slice ra rn rc, .slice ta tn tc] 34)).alloc (.cells #[.slice pa' pn pc', .slice ra' rn' rc', .slice ta' tn' tc'] 34)).heap.size = w.heap.size + 2 := by simp
  have s3 : (((w.alloc (.cells #[.slice pa pn pc, .slice ra rn rc, .slice ta tn tc] 34)).alloc (.cells #[.slice pa' pn pc', .slice ra' rn' rc', .slice ta' tn' tc'] 34)).alloc (.cells #[.int .i64 kd, .int .i64 p, .int .i64 oa, .int .i64 ob, .int .i64 oc, .int .u32 x] 39)).heap.size = w.heap.size + 3 := by simp
  have BX0 := bl_alloc w #[.slice pa pn pc, .slice ra rn rc, .slice ta tn tc] 34
  have BV0 := bl_alloc (w.alloc (.cells #[.slice pa pn pc, .slice ra rn rc, .slice ta tn tc] 34)) #[.slice pa' pn pc', .slice ra' rn' rc', .slice ta' tn' tc'] 34
  have BM0 := bl_alloc ((w.alloc (.cells #[.slice pa pn pc, .slice ra rn rc, .slice ta tn tc] 34)).alloc (.cells #[.slice pa' pn pc', .slice ra' rn' rc', .slice ta' tn' tc'] 34)) #[.int .i64 kd, .int .i64 p, .int .i64 oa, .int .i64 ob, .int .i64 oc, .int .u32 x] 39
  rw [s1] at BV0
  rw [s2] at BM0
  have UB : Hid (Bl (((w.alloc (.cells #[.slice pa pn pc, .slice ra rn rc, .slice ta tn tc] 34)).alloc (.cells #[.slice pa' pn pc', .slice ra' rn' rc', .slice ta' tn' tc'] 34)).alloc (.cells #[.int .i64 kd, .int .i64 p, .int .i64 oa, .int .i64 ob, .int .i64 oc, .int .u32 x] 39)) w.heap.size [.slice pa pn pc, .slice ra rn rc, .slice ta tn tc]) := (BX0.below (by omega) X2).below (by omega) X3
  have VB : Hid (Bl (((w.alloc (.cells #[.slice pa pn pc, .slice ra rn rc, .slice ta tn tc] 34)).alloc (.cells #[.slice pa' pn pc', .slice ra' rn' rc', .slice ta' tn' tc'] 34)).alloc (.cells #[.int .i64 kd, .int .i64 p, .int .i64 oa, .int .i64 ob, .int .i64 oc, .int .u32 x] 39)) (w.heap.size + 1) [.slice pa' pn pc', .slice ra' rn' rc', .slice ta' tn' tc']) := BV0.below (by omega) X3
  have MB : Hid (Bl (((w.alloc (.cells #[.slice pa pn pc, .slice ra rn rc, .slice ta tn tc] 34)).alloc (.cells #[.slice pa' pn pc', .slice ra' rn' rc', .slice ta' tn' tc'] 34)).alloc (.cells #[.int .i64 kd, .int .i64 p, .int .i64 oa, .int .i64 ob, .int .i64 oc, .int .u32 x] 39)) (w.heap.size + 2) [.int .i64 kd, .int .i64 p, .int .i64 oa, .int .i64 ob, .int .i64 oc, .int .u32 x]) := BM0
  have B1 := hide (chain (chain X1 X2) X3)
  have hz : Hid (w.heap.size + 2 < (((w.alloc (.cells #[.slice pa pn pc, .slice ra rn rc, .slice ta tn tc] 34)).alloc (.cells #[.slice pa' pn pc', .slice ra' rn' rc', .slice ta' tn' tc'] 34)).alloc (.cells #[.int .i64 kd, .int .i64 p, .int .i64 oa, .int .i64 ob, .int .i64 oc, .int .u32 x] 39)).heap.size) := by unfold Hid; rw [s3]; omega
  have HS := hide (hp.below B1.out)
  have HI := hide (hr.below B1.out)
  have HS' := hide (hp'.below B1.out)
  have HI' := hide (hr'.below B1.out)
  have HL : Hid (l.length = pn) := hp.size
  have HJ := hide infoInt
  have HM := hide hmr
  have HM' := hide hmr'
  have HBY := hide hby
  clear X1 X2 X3 s1 s2 s3 BX0 BV0 BM0 hp hr hp' hr' hby
  go_enter Tryz.func12, Tryz.ntmps12
  go_upto_region 1 with fail
  generalize ((w.alloc (.cells #[.slice pa pn pc, .slice ra rn rc, .slice ta tn tc] 34)).alloc (.cells #[.slice pa' pn pc', .slice ra' rn' rc', .slice ta' tn' tc'] 34)).alloc (.cells #[.int .i64 kd, .int .i64 p, .int .i64 oa, .int .i64 ob, .int .i64 oc, .int .u32 x] 39) = W0 at *
  have x0 := UB.out.cell 0 _ rfl
  have v0 := VB.out.cell 0 _ rfl
  have k0 := MB.out.cell 0 _ rfl
  by_cases h7 : kd = 7
  · have e7 : (kd == 7) = true := by simp [h7]
    clear h7
    go_wp2
    go_ret
    exact ⟨rfl, B1.out⟩
  have e7 : (kd == 7) = false := by simp [h7]
  by_cases h8 : kd = 8
  · have e8 : (kd == 8) = true := by simp [h8]
    clear h7 h8
    go_wp2
    go_ret
    exact ⟨rfl, B1.out⟩
  have e8 : (kd == 8) = false := by simp [h8]
  have HA : Hid (∀ i : Nat, (i : Int) ≠ p → l'[i]? = l[i]?) := by
    rcases HBY.out.all with h | h | h
    · exact absurd h h7
    · exact absurd h h8
    · exact h.1
  have HO : Hid (outOf r' p = outOf r p) := by
    rcases HBY.out.all with h | h | h
    · exact absurd h h7
    · exact absurd h h8
    · exact h.2
  clear h7 h8
  go_wp2
  clear x0 v0 k0 e7 e8
  go_loopw [7] (fun i wq => ∃ k : Nat, k ≤ pn ∧ i = .int .i64 (k : Int) ∧ Hid (Below W0.heap.size W0 wq)) (fun i _ => pn - (intOf i).toNat)
  case atStart => exact ⟨0, by omega, rfl, Below.refl _ _⟩
  case round =>
    obtain ⟨k, hk, rfl, hb⟩ := hrel
    have x0 := (UB.out.below (by have := hz.out; omega) hb.out).cell 0 _ rfl
    have v0 := (VB.out.below (by have := hz.out; omega) hb.out).cell 0 _ rfl
    have k1 := (MB.out.below hz.out hb.out).cell 1 _ rfl
    by_cases hlt : k < pn
    · have hk1 : (k : Int) < (pn : Int) := by omega
      by_cases hkp : (k : Int) = p
      · have d1 : ((k : Int) != p) = false := by simp [hkp]
        clear hkp
        go_wp2
        go_quiet (fail)
        go_wp2
        go_roundw
        case rel => exact ⟨k + 1, by omega, by go_num, drewN_below hb.out nq⟩
        case measure => simp [intOf]; omega
      · have d1 : ((k : Int) != p) = true := by simp [hkp]
        obtain ⟨y, hy⟩ : ∃ y, l[k]? = some y := ⟨_, List.getElem?_eq_getElem (by rw [HL.out]; exact hlt)⟩
        have hy' := HA.out k hkp
        rw [hy] at hy'
        obtain ⟨b, off, rfl, hr1⟩ := (HS.out.below hb.out).at pro21 (by decide) hy
        obtain ⟨b', off', rfl, hr2⟩ := (HS'.out.below hb.out).at pro21 (by decide) hy'
        have hu41 := Tryz.underlying64
        have hi1 : (Tryz.prog.info? 64).map (·.size) = some y.cells.length := sizeProc
        have hne : ∀ w, (binOp .neq 64 (.agg y.cells.toArray) (.agg y.cells.toArray)).run Tryz.prog w = .ok (.bool false) w := fun w => neq_pro y w
        clear hy hy' hkp
        generalize y.cells = cs at *
        go_wp2
        refine wp_region_quiet_lit (by kernel_rfl) (by kernel_rfl) ?_
        repeat (first
          | (go_big_quiet_want; refine quiet_load_mid 64 (.tmp 44) rfl b (off + k * 21) rfl cs _ hr1 hu41 rfl hi1 ?_; simp only [Act.put, List.setIfInBounds_toArray, List.set_cons_succ, List.set_cons_zero]; go_big_quiet_on)
          | (go_big_quiet_want; refine quiet_load_mid 64 (.tmp 49) rfl b' (off' + k * 21) rfl cs _ hr2 hu41 rfl hi1 ?_; simp only [Act.put, List.setIfInBounds_toArray, List.set_cons_succ, List.set_cons_zero]; go_big_quiet_on)
          | (go_big_quiet_want; refine quiet_neq 64 64 (.tmp 45) (.tmp 50) rfl _ _ rfl rfl (by kernel_rfl) _ hne ?_; simp only [Act.put, List.setIfInBounds_toArray, List.set_cons_succ, List.set_cons_zero]; go_big_quiet_on)
          | go_big_quiet_step (fail))
        refine wpQuiet_nil ?_
        intro _ hw'
        obtain ⟨nq, rfl⟩ := hw'
        clear hne hr1 hr2 hu41 hi1
        go_wp2
        go_roundw
        case rel => exact ⟨k + 1, by omega, by go_num, drewN_below hb.out nq⟩
        case measure => simp [intOf]; omega
    · have hkn : k = pn := by omega
      have x1 := (UB.out.below (by have := hz.out; omega) hb.out).cell 1 _ rfl
      have VB2 := hide (VB.out.below (by have := hz.out; omega) hb.out)
      have MB2 := hide (MB.out.below hz.out hb.out)
      have B2 := hide (chain B1.out hb.out)
      have hz2 : Hid (w.heap.size + 2 < wr.heap.size) := Nat.lt_of_lt_of_le hz.out hb.out.size
      have HI2 := hide (HI.out.below hb.out)
      have HI2' := hide (HI'.out.below hb.out)
      clear HS HS' HA UB VB MB B1 HI HI' hz hb hlt v0 k1
      subst hkn
      go_wp2
      clear x0 x1
      generalize wr = W2 at *
      have VB := hide VB2.out
      have MB := hide MB2.out
      have B1 := hide B2.out
      have hz := hide hz2.out
      have HI := hide HI2.out
      have HI' := hide HI2'.out
      clear VB2 MB2 B2 hz2 HI2 HI2'
      go_loopw [8, 56] (fun o i wr => ∃ k : Nat, k ≤ rn ∧ i = .int .i64 (k : Int) ∧ Hid (IOwn wr W2.heap.size o (outOf (r.take k) p)) ∧ Hid (Below W2.heap.size W2 wr)) (fun _ i _ => rn - (intOf i).toNat)
      case atStart => exact ⟨0, by omega, rfl, iown_nil _ _, Below.refl _ _⟩
      case round =>
        obtain ⟨k, hk, rfl, hio, hb⟩ := hrel
        by_cases hlt : k < rn
        · obtain ⟨y, hy⟩ : ∃ y, r[k]? = some y := ⟨_, List.getElem?_eq_getElem (by rw [HI.out.size]; exact hlt)⟩
          obtain ⟨b, off, rfl, hr⟩ := (HI.out.below hb.out).at ci1 (by decide) hy
          have q0 := hr 0 _ rfl
          simp only [Nat.add_zero, Nat.mul_one] at q0
          have k1 := (MB.out.below hz.out hb.out).cell 1 _ rfl
          have LK : Hid ((outOf (r.take k) p).length ≤ k) := Nat.le_trans (List.length_filter_le _ _) (by rw [List.length_take]; omega)
          have HN : Hid (outOf (r.take (k + 1)) p = outOf (r.take k) p ++ (if y == p then [] else [y])) := by
            unfold Hid
            rw [take_snoc hy, out_snoc]
          have hk1 : (k : Int) < (rn : Int) := by omega
          clear hy hr
          by_cases e1 : (y == p) = true
          · rw [e1, if_pos rfl, List.append_nil] at HN
            rw [← HN.out] at hio
            have e2 : (y != p) = false := by simpa using e1
            clear e1
            go_wp2
            go_roundw
            case rel => exact ⟨k + 1, by omega, by go_num, hio.out, hb.out⟩
            case measure => simp [intOf]; omega
          · have e1 : (y == p) = false := Bool.eq_false_iff.2 e1
            have e2 : (y != p) = true := by simpa using e1
            rw [if_neg (by simp [e1])] at HN
            have X2 := new_below wr (.cells #[.int .i64 y] 3)
            have HB2 := hide (chain hb.out X2)
            have O2 := hide (ownsRow_below hio.out X2)
            clear X2 hio e1
            go_wp2_with (at_builtin; refine append_rec rfl (.tmp 64) (.tmp 66) 23 3 rfl Tryz.underlying23 HJ.out (by decide) W2.heap.size _ _ _ rfl O2.out wr.heap.size 1 (ci y) rfl rfl (fun i u hu => by rw [World.cell?_alloc_at _ _ _ _ (by simp)]; simpa [ci] using hu) (fun u hu => ci_one [y] u (by simpa using hu)) (by have := LK.out; unfold maxLen; omega) (by have := LK.out; omega) HB2.out.size ?_; intro g7 c7 w7 ho7 hg7 hat7 hlt7)
            have D7 := hide (HB2.out.grown hg7 HB2.out.size (fun k' hk' => (O2.out.lt k' hk').1))
            have O7 : Hid (IOwn w7 W2.heap.size (.slice (some ⟨g7, 0, none⟩) ((outOf (r.take k) p).length + 1) c7) (outOf (r.take (k + 1)) p)) := by
              unfold Hid
              rw [HN.out]
              simpa [IOwn] using ho7
            clear ho7 hg7 hat7 O2
            go_wp2
            go_roundw
            case rel => exact ⟨k + 1, by omega, by go_num, O7.out, D7.out⟩
            case measure => simp [intOf]; omega
        · have hkn : k = rn := by omega
          subst hkn
          have hio2 : Hid (IOwn wr W2.heap.size u8 (outOf r p)) := by
            unfold Hid
            have := hio.out
            rwa [List.take_of_length_le (by have := HI.out.size; omega)] at this
          clear hio
          obtain ⟨z1, cz1, rfl, hz1⟩ := iown_is hio2.out
          have HY := hide hz1
          have L1 : Hid ((outOf r p).length ≤ 8) := Nat.le_trans (List.length_filter_le _ _) (by have := HI.out.size; have := HM.out; omega)
          have MB1 := hide (MB.out.below hz.out hb.out)
          have HR2 := hide (HI'.out.below hb.out)
          have HW1 := hide (chain B1.out hb.out)
          have HS1 : Hid (w.heap.size + 2 < wr.heap.size) := Nat.lt_of_lt_of_le hz.out hb.out.size
          have v1 := (VB.out.below (Nat.lt_of_succ_lt hz.out) hb.out).cell 1 _ rfl
          clear hz1 hio2 hb hlt hk
          go_wp2
          clear v1
          generalize wr = W1 at *
          go_loopw [9, 72] (fun o i wr => ∃ k : Nat, k ≤ rn' ∧ i = .int .i64 (k : Int) ∧ Hid (IOwn wr W1.heap.size o (outOf (r'.take k) p)) ∧ Hid (Below W1.heap.size W1 wr)) (fun _ i _ => rn' - (intOf i).toNat)
          case atStart => exact ⟨0, by omega, rfl, iown_nil _ _, Below.refl _ _⟩
          case round =>
            obtain ⟨k, hk, rfl, hio, hb⟩ := hrel
            by_cases hlt : k < rn'
            · obtain ⟨y, hy⟩ : ∃ y, r'[k]? = some y := ⟨_, List.getElem?_eq_getElem (by rw [HR2.out.size]; exact hlt)⟩
              obtain ⟨b, off, rfl, hr⟩ := (HR2.out.below hb.out).at ci1 (by decide) hy
              have q0 := hr 0 _ rfl
              simp only [Nat.add_zero, Nat.mul_one] at q0
              have k1 := (MB1.out.below HS1.out hb.out).cell 1 _ rfl
              have LK : Hid ((outOf (r'.take k) p).length ≤ k) := Nat.le_trans (List.length_filter_le _ _) (by rw [List.length_take]; omega)
              have HN : Hid (outOf (r'.take (k + 1)) p = outOf (r'.take k) p ++ (if y == p then [] else [y])) := by
                unfold Hid
                rw [take_snoc hy, out_snoc]
              have hk1 : (k : Int) < (rn' : Int) := by omega
              clear hy hr
              by_cases e1 : (y == p) = true
              · rw [e1, if_pos rfl, List.append_nil] at HN
                rw [← HN.out] at hio
                have e2 : (y != p) = false := by simpa using e1
                clear e1
                go_wp2
                go_roundw
                case rel => exact ⟨k + 1, by omega, by go_num, hio.out, hb.out⟩
                case measure => simp [intOf]; omega
              · have e1 : (y == p) = false := Bool.eq_false_iff.2 e1
                have e2 : (y != p) = true := by simpa using e1
                rw [if_neg (by simp [e1])] at HN
                have X2 := new_below wr (.cells #[.int .i64 y] 3)
                have HB2 := hide (chain hb.out X2)
                have O2 := hide (ownsRow_below hio.out X2)
                clear X2 hio e1
                go_wp2_with (at_builtin; refine append_rec rfl (.tmp 80) (.tmp 82) 23 3 rfl Tryz.underlying23 HJ.out (by decide) W1.heap.size _ _ _ rfl O2.out wr.heap.size 1 (ci y) rfl rfl (fun i u hu => by rw [World.cell?_alloc_at _ _ _ _ (by simp)]; simpa [ci] using hu) (fun u hu => ci_one [y] u (by simpa using hu)) (by have := LK.out; unfold maxLen; omega) (by have := LK.out; omega) HB2.out.size ?_; intro g7 c7 w7 ho7 hg7 hat7 hlt7)
                have D7 := hide (HB2.out.grown hg7 HB2.out.size (fun k' hk' => (O2.out.lt k' hk').1))
                have O7 : Hid (IOwn w7 W1.heap.size (.slice (some ⟨g7, 0, none⟩) ((outOf (r'.take k) p).length + 1) c7) (outOf (r'.take (k + 1)) p)) := by
                  unfold Hid
                  rw [HN.out]
                  simpa [IOwn] using ho7
                clear ho7 hg7 hat7 O2
                go_wp2
                go_roundw
                case rel => exact ⟨k + 1, by omega, by go_num, O7.out, D7.out⟩
                case measure => simp [intOf]; omega
            · have hkn : k = rn' := by omega
              subst hkn
              have hio2 : Hid (IOwn wr W1.heap.size u9 (outOf r' p)) := by
                unfold Hid
                have := hio.out
                rwa [List.take_of_length_le (by have := HR2.out.size; omega)] at this
              clear hio
              obtain ⟨z2, cz2, rfl, hz2⟩ := iown_is hio2.out
              have HZ2 := hide hz2
              have HY2 := hide (HY.out.below hb.out)
              have L2 : Hid ((outOf r' p).length ≤ 8) := Nat.le_trans (List.length_filter_le _ _) (by have := HR2.out.size; have := HM'.out; omega)
              clear hz2 hio2
              go_wp2_with fail
              refine Calls.mono (equalInts_any _ z1 _ cz1 (outOf r p) HY2.out z2 _ cz2 (outOf r' p) HZ2.out (by have := L1.out; omega) (by have := L2.out; omega)) ?_
              rintro e w5 ⟨rfl, x5⟩
              rw [decide_eq_true HO.out.symm]
              have HW5 := hide (chain (chain HW1.out hb.out) x5)
              clear x5
              go_wp2
              go_ret
              exact ⟨rfl, HW5.out⟩
end Go.Proofs.YtahcchipedppmaaGreatDoor
namespace Go.Proofs.YtahcchipedppmaaGreatDoor.readyHolds
open Classical
open Go.RowKit
set_option linter.unusedVariables false
set_option linter.unusedSimpArgs false

/-- One call of the script. -/
structure Op9 where
  kd : Int
  p : Int
  a : Int
  b : Int
  c : Int
  x : Int
def Op9.cells (o : Op9) : List Value := [.int .i64 o.kd, .int .i64 o.p, .int .i64 o.a, .int .i64 o.b, .int .i64 o.c, .int .u32 o.x]
theorem op6 (o : Op9) : o.cells.length = 6 := rfl
abbrev Ops (w : World) (a : Option Addr) (len cap : Nat) (l : List Op9) : Prop := Rcs Op9.cells 6 w a len cap l
set_option maxRecDepth 100000 in
set_option maxHeartbeats 8000000 in
theorem law (pa : Option Addr) (pn pc : Nat) (l : List Pro) (ra : Option Addr) (rn rc : Nat) (r : List Int) (ta : Option Addr) (tn tc : Nat) (t : List Tm) (oa : Option Addr) (on oc : Nat) (os : List Op9) (w : World) {E : Nat → Addr} (he : Errs w E) (hp : Pros w pa pn pc l) (hr : Is w ra rn rc r) (ht : Tms w ta tn tc t) (hmp : pn ≤ 9223372036854775807) (hmr : rn ≤ 9223372036854775807) (hmt : tn ≤ 9223372036854775807) (ho : Ops w oa on oc os) (hmo : on ≤ 9223372036854775807) :
    Calls Tryz.prog 3 #[.agg #[.slice pa pn pc, .slice ra rn rc, .slice ta tn tc], .slice oa on oc] w fun e w' => e = .returned (.bool true) ∧ Below w.heap.size w w' := by
  have X := new_below w (.cells #[.slice pa pn pc, .slice ra rn rc, .slice ta tn tc] 26)
  have BX : Hid (Bl (w.alloc (.cells #[.slice pa pn pc, .slice ra rn rc, .slice ta tn tc] 26)) w.heap.size [.slice pa pn pc, .slice ra rn rc, .slice ta tn tc]) := bl_alloc w #[.slice pa pn pc, .slice ra rn rc, .slice ta tn tc] 26
  have hz : Hid (w.heap.size < (w.alloc (.cells #[.slice pa pn pc, .slice ra rn rc, .slice ta tn tc] 26)).heap.size) := by unfold Hid; simp
  have B0 := hide X
  have HE := hide he
  have HS := hide hp
  have HI := hide hr
  have HT := hide ht
  have HO := hide ho
  have HL : Hid (os.length = on) := ho.size
  clear X he hp hr ht ho
  go_enter Tryz.func3, Tryz.ntmps3
  go_upto_region 1 with fail
  generalize w.alloc (.cells #[.slice pa pn pc, .slice ra rn rc, .slice ta tn tc] 26) = W0 at *
  go_wp2_with fail
  refine Calls.mono (awake_any (HE.out.below B0.out).er9) ?_
  rintro e w1 ⟨rfl, x1⟩
  have B1 := hide (chain B0.out x1)
  have BX1 := hide (BX.out.below hz.out x1)
  have hz1 : Hid (w.heap.size < w1.heap.size) := Nat.lt_of_lt_of_le hz.out x1.size
  clear x1
  have c0 := BX1.out.cell 0 _ rfl
  have c1 := BX1.out.cell 1 _ rfl
  have c2 := BX1.out.cell 2 _ rfl
  go_wp2_with fail
  refine Calls.mono (rrgood_any w1 pa pn pc l (HS.out.below B1.out) ra rn rc r (HI.out.below B1.out) ta tn tc t (HT.out.below B1.out)) ?_
  rintro e w2 ⟨rfl, x2⟩
  have B2 := hide (chain B1.out x2)
  have BX2 := hide (BX1.out.below hz1.out x2)
  clear x2 c0 c1 c2
  have c0 := BX2.out.cell 0 _ rfl
  have c1 := BX2.out.cell 1 _ rfl
  have c2 := BX2.out.cell 2 _ rfl
  by_cases hg : Good l r t
  case neg =>
    have HPE : Hid (pickE l r t = 9) := by unfold Hid pickE; rw [if_pos hg]
    rw [decide_eq_false hg]
    go_wp2_with fail
    refine Calls.mono (to_any w2 _ _ _ ⟨_, _, _, rfl⟩ ⟨_, _, _, rfl⟩ ⟨_, _, _, rfl⟩) ?_
    rintro e w3 ⟨rfl, x3⟩
    have B3 := hide (chain B2.out x3)
    clear x3
    go_wp2_with fail
    refine Calls.mono (pick_any (HE.out.below B3.out).er9 pa pn pc l (HS.out.below B3.out) ra rn rc r (HI.out.below B3.out) ta tn tc t (HT.out.below B3.out) hmp hmr hmt) ?_
    rintro e w4 ⟨v, rfl, hv, x4⟩
    rw [HPE.out] at hv
    have B4 := hide (chain B3.out x4)
    have HPL := hide (plain_any (HE.out.below B4.out) v 9 hv ((9 : Nat) : Int))
    clear x4 hv
    generalize pickP l r t = PP at *
    go_wp2_with fail
    refine Calls.mono HPL.out ?_
    rintro e w5 ⟨rfl, x5⟩
    rw [beq_self_eq_true]
    have B5 := hide (chain B4.out x5)
    clear x5
    go_wp2
    go_ret
    exact ⟨rfl, B5.out⟩
  rw [decide_eq_true hg]
  have HG := hide hg
  clear hg
  go_wp2_with fail
  refine Calls.mono (to_any w2 _ _ _ ⟨_, _, _, rfl⟩ ⟨_, _, _, rfl⟩ ⟨_, _, _, rfl⟩) ?_
  rintro e w3 ⟨rfl, x3⟩
  have X4 := new_below w3 (.cells #[.slice pa pn pc, .slice ra rn rc, .slice ta tn tc] 34)
  have B3 := hide (chain (chain B2.out x3) X4)
  have N3 : Hid (Bl (w3.alloc (.cells #[.slice pa pn pc, .slice ra rn rc, .slice ta tn tc] 34)) w3.heap.size [.slice pa pn pc, .slice ra rn rc, .slice ta tn tc]) := bl_alloc w3 #[.slice pa pn pc, .slice ra rn rc, .slice ta tn tc] 34
  have Z3 : Hid (w3.heap.size < (w3.alloc (.cells #[.slice pa pn pc, .slice ra rn rc, .slice ta tn tc] 34)).heap.size) := by unfold Hid; simp
  have HNB : Hid (w.heap.size ≤ w3.heap.size) := Nat.le_trans B2.out.size x3.size
  have S3 := hide (sh_arg (nb := w3.heap.size) HS.out HI.out HT.out B3.out HNB.out)
  clear x3 X4 c0 c1 c2
  go_wp2
  generalize w3.alloc (.cells #[.slice pa pn pc, .slice ra rn rc, .slice ta tn tc] 34) = W3 at *
  generalize w3.heap.size = nb at *
  go_loopw [29] (fun i wr => ∃ (k : Nat) (a1 : Option Addr) (n1 c1 : Nat) (a2 : Option Addr) (n2 c2 : Nat) (a3 : Option Addr) (n3 c3 : Nat) (l : List Pro) (r : List Int) (t : List Tm), k ≤ on ∧ i = .int .i64 (k : Int) ∧ Hid (Bl wr nb [.slice a1 n1 c1, .slice a2 n2 c2, .slice a3 n3 c3]) ∧ Hid (nb < wr.heap.size) ∧ Hid (Sh wr nb a1 n1 c1 a2 n2 c2 a3 n3 c3 l r t) ∧ Hid (Good l r t) ∧ Hid (Below w.heap.size w wr)) (fun i _ => on - (intOf i).toNat)
  case atStart => exact ⟨0, _, _, _, _, _, _, _, _, _, _, _, _, by omega, rfl, N3.out, Z3.out, S3.out, HG.out, B3.out⟩
  case round =>
    clear N3 Z3 S3 B3 HG B2 B1 B0 BX BX1 BX2 hz hz1 HS HI HT
    obtain ⟨k, a1, n1, c1, a2, n2, c2, a3, n3, c3, l, r, t, hk, rfl, hN, hZ, hS, hG, hb⟩ := hrel
    by_cases hlt : k < on
    · skip
      obtain ⟨o, hok⟩ : ∃ o, os[k]? = some o := ⟨_, List.getElem?_eq_getElem (by rw [HL.out]; exact hlt)⟩
      obtain ⟨b, off, rfl, hr⟩ := (HO.out.below hb.out).at op6 (by decide) hok
      have r0 := hr 0 _ rfl
      have r1 := hr 1 _ rfl
      have r2 := hr 2 _ rfl
      have r3 := hr 3 _ rfl
      have r4 := hr 4 _ rfl
      have r5 := hr 5 _ rfl
      simp only [Nat.add_zero] at r0
      have hk1 : (k : Int) < (on : Int) := by omega
      have X1 := hide (new_below wr (.cells #[.int .i64 o.kd, .int .i64 o.p, .int .i64 o.a, .int .i64 o.b, .int .i64 o.c, .int .u32 o.x] 39))
      have O1 : Hid (Bl (wr.alloc (.cells #[.int .i64 o.kd, .int .i64 o.p, .int .i64 o.a, .int .i64 o.b, .int .i64 o.c, .int .u32 o.x] 39)) wr.heap.size [.int .i64 o.kd, .int .i64 o.p, .int .i64 o.a, .int .i64 o.b, .int .i64 o.c, .int .u32 o.x]) := bl_alloc wr #[.int .i64 o.kd, .int .i64 o.p, .int .i64 o.a, .int .i64 o.b, .int .i64 o.c, .int .u32 o.x] 39
      have N1 := hide (hN.out.below hZ.out X1.out)
      have S1 := hide (hS.out.below X1.out)
      have B1 := hide (chain hb.out X1.out)
      have Y1 : Hid (wr.heap.size < (wr.alloc (.cells #[.int .i64 o.kd, .int .i64 o.p, .int .i64 o.a, .int .i64 o.b, .int .i64 o.c, .int .u32 o.x] 39)).heap.size) := by unfold Hid; simp
      have Z1 : Hid (nb < (wr.alloc (.cells #[.int .i64 o.kd, .int .i64 o.p, .int .i64 o.a, .int .i64 o.b, .int .i64 o.c, .int .u32 o.x] 39)).heap.size) := Nat.lt_trans hZ.out Y1.out
      clear hr hok
      go_upto_region 10 with fail
      clear r0 r1 r2 r3 r4 r5 X1
      generalize wr.alloc (.cells #[.int .i64 o.kd, .int .i64 o.p, .int .i64 o.a, .int .i64 o.b, .int .i64 o.c, .int .u32 o.x] 39) = W1 at *
      generalize wr.heap.size = mb at *
      have Q1 := hide S1.out.now
      have g0 := N1.out.cell 0 _ rfl
      have g1 := N1.out.cell 1 _ rfl
      have g2 := N1.out.cell 2 _ rfl
      have s0 := O1.out.cell 0 _ rfl
      have s1 := O1.out.cell 1 _ rfl
      have s2 := O1.out.cell 2 _ rfl
      have s3 := O1.out.cell 3 _ rfl
      have s4 := O1.out.cell 4 _ rfl
      have s5 := O1.out.cell 5 _ rfl
      go_wp2_with fail
      refine Calls.mono (call_any (HE.out.below B1.out).er9 _ _ _ l Q1.out.1 _ _ _ r Q1.out.2.1 _ _ _ t Q1.out.2.2 hG.out o.kd o.p o.a o.b o.c o.x) ?_
      rintro e w3 ⟨b1, m1, d1, b2, m2, d2, b3, m3, d3, v, rfl, hcase, x3⟩
      have X4 := new_below w3 (.cells #[.slice b1 m1 d1, .slice b2 m2 d2, .slice b3 m3 d3] 34)
      have x4 := chain x3 X4
      have V4 : Hid (Bl (w3.alloc (.cells #[.slice b1 m1 d1, .slice b2 m2 d2, .slice b3 m3 d3] 34)) w3.heap.size [.slice b1 m1 d1, .slice b2 m2 d2, .slice b3 m3 d3]) := bl_alloc w3 #[.slice b1 m1 d1, .slice b2 m2 d2, .slice b3 m3 d3] 34
      have R4 : Hid (w3.heap.size < (w3.alloc (.cells #[.slice b1 m1 d1, .slice b2 m2 d2, .slice b3 m3 d3] 34)).heap.size) := by unfold Hid; simp
      have N4 := hide (N1.out.below Z1.out x4)
      have Z4 : Hid (nb < (w3.alloc (.cells #[.slice b1 m1 d1, .slice b2 m2 d2, .slice b3 m3 d3] 34)).heap.size) := Nat.lt_of_lt_of_le Z1.out x4.size
      have O4 := hide (O1.out.below Y1.out x4)
      have Y4 : Hid (mb < (w3.alloc (.cells #[.slice b1 m1 d1, .slice b2 m2 d2, .slice b3 m3 d3] 34)).heap.size) := Nat.lt_of_lt_of_le Y1.out x4.size
      have S4 := hide (S1.out.below x4)
      have B4 := hide (chain B1.out x4)
      have HD : Hid ((v = sent (E 12) ∧ m1 = 0 ∧ m2 = 0 ∧ m3 = 0) ∨ (v = .nilIface ∧ ∃ l' r' t', Good l' r' t' ∧ By o.kd o.p l r l' r' ∧ Sh (w3.alloc (.cells #[.slice b1 m1 d1, .slice b2 m2 d2, .slice b3 m3 d3] 34)) nb b1 m1 d1 b2 m2 d2 b3 m3 d3 l' r' t')) := by
        rcases hcase with (h | ⟨h, l', r', t', h1, h2, h3⟩) | ⟨h, h1⟩
        · exact .inl h
        · exact .inr ⟨h, l', r', t', h1, h2, sh_tab (h3.below X4) Z1.out⟩
        · have h2 := congrArg Array.toList h1
          simp only [List.cons.injEq, Value.slice.injEq, and_true] at h2
          obtain ⟨⟨rfl, rfl, rfl⟩, ⟨rfl, rfl, rfl⟩, rfl, rfl, rfl⟩ := h2
          exact .inr ⟨h, l, r, t, hG.out, by_same _ _ l r, S4.out⟩
      clear hcase x3 X4 x4 g0 g1 g2 s0 s1 s2 s3 s4 s5 Q1 N1 S1 B1 O1 Y1 Z1
      go_upto_region 11 with fail
      generalize w3.alloc (.cells #[.slice b1 m1 d1, .slice b2 m2 d2, .slice b3 m3 d3] 34) = w4 at *
      generalize w3.heap.size = ub at *
      rcases HD.out with hd | hd
      · obtain ⟨hv, hm1, hm2, hm3⟩ := hd
        subst hv
        subst hm1
        subst hm2
        subst hm3
        clear HD
        have HBE : Hid (Bare E (sent (E 12)) 12) := bare_sent E 12 (by decide) (by decide)
        unfold sent at HBE ⊢
        have HPL := hide (plain_any (HE.out.below B4.out) _ 12 HBE.out ((12 : Nat) : Int))
        have HV5 := hide V4.out
        go_upto_region 12 with fail
        go_wp2_with fail
        refine Calls.mono HPL.out ?_
        rintro e w5 ⟨rfl, x5⟩
        rw [beq_self_eq_true]
        have V5 := V4.out.below R4.out x5
        have q0 := V5.cell 0 _ rfl
        have q1 := V5.cell 1 _ rfl
        have q2 := V5.cell 2 _ rfl
        have N5 := hide (N4.out.below Z4.out x5)
        have Z5 : Hid (nb < w5.heap.size) := Nat.lt_of_lt_of_le Z4.out x5.size
        have S5 := hide (S4.out.below x5)
        have B5 := hide (chain B4.out x5)
        clear x5 V5
        go_wp2
        go_roundw
        case rel => exact ⟨k + 1, _, _, _, _, _, _, _, _, _, _, _, _, by omega, by go_num, N5.out, Z5.out, S5.out, hG.out, B5.out⟩
        case measure => simp [intOf]; omega
      · obtain ⟨hv, l', r', t', hg', hby, hsu⟩ := hd
        subst hv
        have HGX := hide hg'
        have HBY := hide hby
        have SU4 := hide hsu
        clear HD hg' hby hsu
        have Q4 := hide SU4.out.now
        have HS8 : Hid (m1 ≤ 8 ∧ m2 ≤ 8 ∧ m3 ≤ 8) := by
          have g1 := HGX.out.1
          have g2 := goodR_few HGX.out.2.2.1 HGX.out.1
          have g3 := HGX.out.tfew
          have s1 := Q4.out.1.size
          have s2 := Q4.out.2.1.size
          have s3 := Q4.out.2.2.size
          exact ⟨by omega, by omega, by omega⟩
        have P4 := hide S4.out.now
        have HN8 : Hid (n1 ≤ 8 ∧ n2 ≤ 8 ∧ n3 ≤ 8) := by
          have g1 := hG.out.1
          have g2 := goodR_few hG.out.2.2.1 hG.out.1
          have g3 := hG.out.tfew
          have s1 := P4.out.1.size
          have s2 := P4.out.2.1.size
          have s3 := P4.out.2.2.size
          exact ⟨by omega, by omega, by omega⟩
        have q0 := V4.out.cell 0 _ rfl
        have q1 := V4.out.cell 1 _ rfl
        have q2 := V4.out.cell 2 _ rfl
        go_wp2_with fail
        refine Calls.mono (rgood_any (HE.out.below B4.out).er9.er3 _ _ _ _ Q4.out.1 _ _ _ _ Q4.out.2.1 _ _ _ _ Q4.out.2.2 (by have := HS8.out; omega) (by have := HS8.out; omega) (by have := HS8.out; omega)) ?_
        rintro e w5 ⟨rfl, x5⟩
        rw [decide_eq_true HGX.out]
        have N5 := hide (N4.out.below Z4.out x5)
        have Z5 : Hid (nb < w5.heap.size) := Nat.lt_of_lt_of_le Z4.out x5.size
        have O5 := hide (O4.out.below Y4.out x5)
        have Y5 : Hid (mb < w5.heap.size) := Nat.lt_of_lt_of_le Y4.out x5.size
        have V5 := hide (V4.out.below R4.out x5)
        have R5 : Hid (ub < w5.heap.size) := Nat.lt_of_lt_of_le R4.out x5.size
        have S5 := hide (S4.out.below x5)
        have SU5 := hide (SU4.out.below x5)
        have B5 := hide (chain B4.out x5)
        clear x5 q0 q1 q2
        have q0 := V5.out.cell 0 _ rfl
        have q1 := V5.out.cell 1 _ rfl
        have q2 := V5.out.cell 2 _ rfl
        go_wp2_with fail
        refine Calls.mono (from_any w5 _ _ _ ⟨_, _, _, rfl⟩ ⟨_, _, _, rfl⟩ ⟨_, _, _, rfl⟩) ?_
        rintro e w6 ⟨rfl, x6⟩
        have N6 := hide (N5.out.below Z5.out x6)
        have Z6 : Hid (nb < w6.heap.size) := Nat.lt_of_lt_of_le Z5.out x6.size
        have O6 := hide (O5.out.below Y5.out x6)
        have Y6 : Hid (mb < w6.heap.size) := Nat.lt_of_lt_of_le Y5.out x6.size
        have V6 := hide (V5.out.below R5.out x6)
        have R6 : Hid (ub < w6.heap.size) := Nat.lt_of_lt_of_le R5.out x6.size
        have S6 := hide (S5.out.below x6)
        have SU6 := hide (SU5.out.below x6)
        have B6 := hide (chain B5.out x6)
        clear x6 q0 q1 q2
        have Q6 := hide SU6.out.now
        go_wp2_with fail
        refine Calls.mono (rrgood_any w6 _ _ _ _ Q6.out.1 _ _ _ _ Q6.out.2.1 _ _ _ _ Q6.out.2.2) ?_
        rintro e w7 ⟨rfl, x7⟩
        rw [decide_eq_true HGX.out]
        have N7 := hide (N6.out.below Z6.out x7)
        have Z7 : Hid (nb < w7.heap.size) := Nat.lt_of_lt_of_le Z6.out x7.size
        have O7 := hide (O6.out.below Y6.out x7)
        have Y7 : Hid (mb < w7.heap.size) := Nat.lt_of_lt_of_le Y6.out x7.size
        have V7 := hide (V6.out.below R6.out x7)
        have R7 : Hid (ub < w7.heap.size) := Nat.lt_of_lt_of_le R6.out x7.size
        have S7 := hide (S6.out.below x7)
        have SU7 := hide (SU6.out.below x7)
        have B7 := hide (chain B6.out x7)
        clear x7
        have Q7 := hide SU7.out.now
        have P7 := hide S7.out.now
        have q0 := V7.out.cell 0 _ rfl
        have q1 := V7.out.cell 1 _ rfl
        have q2 := V7.out.cell 2 _ rfl
        have g0 := N7.out.cell 0 _ rfl
        have g1 := N7.out.cell 1 _ rfl
        have g2 := N7.out.cell 2 _ rfl
        have s0 := O7.out.cell 0 _ rfl
        have s1 := O7.out.cell 1 _ rfl
        have s2 := O7.out.cell 2 _ rfl
        have s3 := O7.out.cell 3 _ rfl
        have s4 := O7.out.cell 4 _ rfl
        have s5 := O7.out.cell 5 _ rfl
        go_wp2_with fail
        refine Calls.mono (bystander_any w7 _ _ _ _ P7.out.1 _ _ _ _ P7.out.2.1 _ _ _ _ _ _ _ Q7.out.1 _ _ _ _ Q7.out.2.1 _ _ _ _ _ _ _ _ _ HBY.out (by have := HN8.out; omega) (by have := HN8.out; omega) (by have := HS8.out; omega)) ?_
        rintro e w8 ⟨rfl, x8⟩
        have N8 := hide (N7.out.below Z7.out x8)
        have Z8 : Hid (nb < w8.heap.size) := Nat.lt_of_lt_of_le Z7.out x8.size
        have O8 := hide (O7.out.below Y7.out x8)
        have Y8 : Hid (mb < w8.heap.size) := Nat.lt_of_lt_of_le Y7.out x8.size
        have V8 := hide (V7.out.below R7.out x8)
        have R8 : Hid (ub < w8.heap.size) := Nat.lt_of_lt_of_le R7.out x8.size
        have S8 := hide (S7.out.below x8)
        have SU8 := hide (SU7.out.below x8)
        have B8 := hide (chain B7.out x8)
        clear x8 q0 q1 q2 g0 g1 g2 s0 s1 s2 s3 s4 s5
        have q0 := V8.out.cell 0 _ rfl
        have q1 := V8.out.cell 1 _ rfl
        have q2 := V8.out.cell 2 _ rfl
        have g0 := N8.out.cell 0 _ rfl
        have g1 := N8.out.cell 1 _ rfl
        have g2 := N8.out.cell 2 _ rfl
        have f0 := N8.out.free 0
        have f1 := N8.out.free 1
        have f2 := N8.out.free 2
        have NF := hide (bl_three N8.out (.slice b1 m1 d1) (.slice b2 m2 d2) (.slice b3 m3 d3))
        have SF := hide (SU8.out.three (.slice b1 m1 d1) (.slice b2 m2 d2) (.slice b3 m3 d3))
        have BF := hide (below3 (g := nb) (.slice b1 m1 d1) (.slice b2 m2 d2) (.slice b3 m3 d3) B8.out HNB.out)
        have ZF : Hid (nb < (((w8.setCell ⟨nb, 0, none⟩ (.slice b1 m1 d1)).setCell ⟨nb, 1, none⟩ (.slice b2 m2 d2)).setCell ⟨nb, 2, none⟩ (.slice b3 m3 d3)).heap.size) := by
          have := Z8.out
          unfold Hid
          simp [World.setCell]
          omega
        go_wp2
        generalize (((w8.setCell ⟨nb, 0, none⟩ (.slice b1 m1 d1)).setCell ⟨nb, 1, none⟩ (.slice b2 m2 d2)).setCell ⟨nb, 2, none⟩ (.slice b3 m3 d3)) = W9 at *
        go_roundw
        case rel => exact ⟨k + 1, _, _, _, _, _, _, _, _, _, _, _, _, by omega, by go_num, NF.out, ZF.out, SF.out, HGX.out, BF.out⟩
        case measure => simp [intOf]; omega
    · have hkn : k = on := by omega
      go_wp2
      go_ret
      exact ⟨rfl, hb.out⟩
end Go.Proofs.YtahcchipedppmaaGreatDoor.readyHolds
