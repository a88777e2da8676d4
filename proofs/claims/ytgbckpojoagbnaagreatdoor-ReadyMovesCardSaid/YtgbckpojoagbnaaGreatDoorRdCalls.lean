/-
  The document's Yield.
  The document's Halt.
  The document's Rank.
  The document's Wake.
  The document's Start.
-/
import Derived.Test.YtgbckpojoagbnaaGreatDoorRdBase
namespace Go.Proofs.YtgbckpojoagbnaaGreatDoor
open Classical
open Go.RowKit
set_option linter.unusedVariables false
set_option linter.unusedSimpArgs false

set_option maxRecDepth 100000 in
set_option maxHeartbeats 4000000 in
theorem ryield_any (w : World) (pa : Option Addr) (pn pc : Nat) (l : List Pro) (hp : Pros w pa pn pc l) (ra : Option Addr) (rn rc : Nat) (r : List Int) (hr : Is w ra rn rc r) (ta : Option Addr) (tn tc : Nat) (t : List Tm) (ht : Tms w ta tn tc t) (p : Int) :
    Calls Tryz.prog 5 #[.agg #[.slice pa pn pc, .slice ra rn rc, .slice ta tn tc], .int .i64 p] w fun e w' => ∃ a1 n1 c1 a2 n2 c2 a3 n3 c3, e = .returned (.tuple #[.agg #[.slice a1 n1 c1, .slice a2 n2 c2, .slice a3 n3 c3], .int .i64 (ofE (Good l r t) (OkP l p [1]) : Int)]) ∧ Tab w' w.heap.size (.slice a1 n1 c1) (.slice a2 n2 c2) (.slice a3 n3 c3) (ownT (Good l r t ∧ (OkP l p [1])) l) (ownT (Good l r t ∧ (OkP l p [1])) (yldR r p)) (ownT (Good l r t ∧ (OkP l p [1])) t) ∧ Below w.heap.size w w' := by
  have X1 := new_below w (.cells #[.slice pa pn pc, .slice ra rn rc, .slice ta tn tc] 26)
  have X2 := new_below (w.alloc (.cells #[.slice pa pn pc, .slice ra rn rc, .slice ta tn tc] 26)) (.cells #[.slice none 0 0, .slice none 0 0, .slice none 0 0] 26)
  have BX0 : Bl (w.alloc (.cells #[.slice pa pn pc, .slice ra rn rc, .slice ta tn tc] 26)) w.heap.size [.slice pa pn pc, .slice ra rn rc, .slice ta tn tc] := bl_alloc w #[.slice pa pn pc, .slice ra rn rc, .slice ta tn tc] 26
  have BX := hide (BX0.below (by simp) X2)
  have BG : Hid (Bl ((w.alloc (.cells #[.slice pa pn pc, .slice ra rn rc, .slice ta tn tc] 26)).alloc (.cells #[.slice none 0 0, .slice none 0 0, .slice none 0 0] 26)) (w.heap.size + 1) [.slice none 0 0, .slice none 0 0, .slice none 0 0]) := by
    have := bl_alloc (w.alloc (.cells #[.slice pa pn pc, .slice ra rn rc, .slice ta tn tc] 26)) #[.slice none 0 0, .slice none 0 0, .slice none 0 0] 26
    rw [show (w.alloc (.cells #[.slice pa pn pc, .slice ra rn rc, .slice ta tn tc] 26)).heap.size = w.heap.size + 1 by simp] at this
    exact this
  have B1 := hide (chain X1 X2)
  have hz : ((w.alloc (.cells #[.slice pa pn pc, .slice ra rn rc, .slice ta tn tc] 26)).alloc (.cells #[.slice none 0 0, .slice none 0 0, .slice none 0 0] 26)).heap.size = w.heap.size + 2 := by simp
  have HS := hide (hp.below B1.out)
  have HI := hide (hr.below B1.out)
  have HT := hide (ht.below B1.out)
  have HL : Hid (l.length = pn) := hp.size
  have HLR : Hid (r.length = rn) := hr.size
  have HLT : Hid (t.length = tn) := ht.size
  clear X1 X2 BX0 hp hr ht
  go_enter Tryz.func5, Tryz.ntmps5
  go_upto_region 1 with fail
  generalize (w.alloc (.cells #[.slice pa pn pc, .slice ra rn rc, .slice ta tn tc] 26)).alloc (.cells #[.slice none 0 0, .slice none 0 0, .slice none 0 0] 26) = W0 at *
  have hl3 : Hid (w.heap.size + 1 < W0.heap.size) := by unfold Hid; rw [hz]; omega
  clear hz
  have b0 := BX.out.cell 0 _ rfl
  have b1 := BX.out.cell 1 _ rfl
  have b2 := BX.out.cell 2 _ rfl
  go_wp2_with fail
  refine Calls.mono (rrgood_any W0 pa pn pc l HS.out ra rn rc r HI.out ta tn tc t HT.out) ?_
  rintro e w1 ⟨rfl, x1⟩
  replace BX := hide (BX.out.below (Nat.lt_of_succ_lt hl3.out) x1)
  replace BG := hide (BG.out.below hl3.out x1)
  replace hl3 : Hid (w.heap.size + 1 < w1.heap.size) := Nat.lt_of_lt_of_le hl3.out x1.size
  replace B1 := hide (chain B1.out x1)
  replace HS := hide (HS.out.below x1)
  replace HI := hide (HI.out.below x1)
  replace HT := hide (HT.out.below x1)
  clear x1 b0 b1 b2
  by_cases hg : Good l r t
  case neg =>
    rw [decide_eq_false hg]
    have HO : Hid (ofE (Good l r t) (OkP l p [1]) = 9 ∧ ownT (Good l r t ∧ (OkP l p [1])) l = [] ∧ ownT (Good l r t ∧ (OkP l p [1])) (yldR r p) = [] ∧ ownT (Good l r t ∧ (OkP l p [1])) t = []) := ⟨if_neg hg, if_neg (fun h => hg h.1), if_neg (fun h => hg h.1), if_neg (fun h => hg h.1)⟩
    clear hg
    have G1 := hide (bl_three BG.out (.slice none 0 0) (.slice none 0 0) (.slice none 0 0))
    have BF := hide (below3 (g := w.heap.size + 1) (.slice none 0 0) (.slice none 0 0) (.slice none 0 0) B1.out (by omega))
    have g0 := BG.out.cell 0 _ rfl
    have g1 := BG.out.cell 1 _ rfl
    have g2 := BG.out.cell 2 _ rfl
    have f0 := BG.out.free 0
    have f1 := BG.out.free 1
    have f2 := BG.out.free 2
    go_wp2
    generalize (((w1.setCell ⟨w.heap.size + 1, 0, none⟩ (.slice none 0 0)).setCell ⟨w.heap.size + 1, 1, none⟩ (.slice none 0 0)).setCell ⟨w.heap.size + 1, 2, none⟩ (.slice none 0 0)) = W9 at *
    have e0 := G1.out.cell 0 _ rfl
    have e1 := G1.out.cell 1 _ rfl
    have e2 := G1.out.cell 2 _ rfl
    (try simp only [Exit.inBlock, Exit.then])
    refine bodyPost_ret (v := .tuple #[.agg #[.slice none 0 0, .slice none 0 0, .slice none 0 0], .int .i64 9]) (by simp [results, Tryz.results5, go_sem, e0, e1, e2]) rfl ?_
    exact ⟨_, _, _, _, _, _, _, _, _, by rw [HO.out.1]; rfl, by rw [HO.out.2.1, HO.out.2.2.1, HO.out.2.2.2]; exact tab_nil _ _, BF.out⟩
  rw [decide_eq_true hg]
  have HGD := hide hg
  have HP8 : Hid (pn ≤ 8 ∧ rn ≤ 8 ∧ tn ≤ 8) := by
    have h1 := hg.1
    have h2 := goodR_few hg.2.2.1 hg.1
    have h3 := hg.tfew
    have := HL.out
    have := HLR.out
    have := HLT.out
    exact ⟨by omega, by omega, by omega⟩
  clear hg
  have b0 := BX.out.cell 0 _ rfl
  have b1 := BX.out.cell 1 _ rfl
  have b2 := BX.out.cell 2 _ rfl
  go_wp2_with fail
  refine Calls.mono (risIn_any w1 pa pn pc l HS.out ra rn rc ta tn tc p 1 (by have := HP8.out; omega)) ?_
  rintro e w2 ⟨rfl, x2⟩
  replace BX := hide (BX.out.below (Nat.lt_of_succ_lt hl3.out) x2)
  replace BG := hide (BG.out.below hl3.out x2)
  replace hl3 : Hid (w.heap.size + 1 < w2.heap.size) := Nat.lt_of_lt_of_le hl3.out x2.size
  replace B1 := hide (chain B1.out x2)
  replace HS := hide (HS.out.below x2)
  replace HI := hide (HI.out.below x2)
  replace HT := hide (HT.out.below x2)
  clear x2 b0 b1 b2
  obtain ⟨wc, hwc⟩ : ∃ x, x = w2 := ⟨_, rfl⟩
  subst hwc
  by_cases hx : OkP l p [1]
  case neg =>
    rw [decide_eq_false hx]
    have HO : Hid (ofE (Good l r t) (OkP l p [1]) = 12 ∧ ownT (Good l r t ∧ (OkP l p [1])) l = [] ∧ ownT (Good l r t ∧ (OkP l p [1])) (yldR r p) = [] ∧ ownT (Good l r t ∧ (OkP l p [1])) t = []) := ⟨ofE_bad HGD.out hx, if_neg (fun h => hx h.2), if_neg (fun h => hx h.2), if_neg (fun h => hx h.2)⟩
    clear hx
    have G1 := hide (bl_three BG.out (.slice none 0 0) (.slice none 0 0) (.slice none 0 0))
    have BF := hide (below3 (g := w.heap.size + 1) (.slice none 0 0) (.slice none 0 0) (.slice none 0 0) B1.out (by omega))
    have g0 := BG.out.cell 0 _ rfl
    have g1 := BG.out.cell 1 _ rfl
    have g2 := BG.out.cell 2 _ rfl
    have f0 := BG.out.free 0
    have f1 := BG.out.free 1
    have f2 := BG.out.free 2
    go_wp2
    generalize (((wc.setCell ⟨w.heap.size + 1, 0, none⟩ (.slice none 0 0)).setCell ⟨w.heap.size + 1, 1, none⟩ (.slice none 0 0)).setCell ⟨w.heap.size + 1, 2, none⟩ (.slice none 0 0)) = W9 at *
    have e0 := G1.out.cell 0 _ rfl
    have e1 := G1.out.cell 1 _ rfl
    have e2 := G1.out.cell 2 _ rfl
    (try simp only [Exit.inBlock, Exit.then])
    refine bodyPost_ret (v := .tuple #[.agg #[.slice none 0 0, .slice none 0 0, .slice none 0 0], .int .i64 12]) (by simp [results, Tryz.results5, go_sem, e0, e1, e2]) rfl ?_
    exact ⟨_, _, _, _, _, _, _, _, _, by rw [HO.out.1]; rfl, by rw [HO.out.2.1, HO.out.2.2.1, HO.out.2.2.2]; exact tab_nil _ _, BF.out⟩
  rw [decide_eq_true hx]
  have HO : Hid (ofE (Good l r t) (OkP l p [1]) = 0 ∧ ownT (Good l r t ∧ (OkP l p [1])) l = l ∧ ownT (Good l r t ∧ (OkP l p [1])) (yldR r p) = (yldR r p) ∧ ownT (Good l r t ∧ (OkP l p [1])) t = t) := ⟨ofE_ok HGD.out hx, if_pos ⟨HGD.out, hx⟩, if_pos ⟨HGD.out, hx⟩, if_pos ⟨HGD.out, hx⟩⟩
  obtain ⟨k, q, rfl, hkq, hst⟩ := okP_at hx
  have HKQ := hide hkq
  have HKL : Hid (k < l.length) := (List.getElem?_eq_some_iff.1 hkq).1
  clear hkq
  clear hx hst
  have b0 := BX.out.cell 0 _ rfl
  have b1 := BX.out.cell 1 _ rfl
  have b2 := BX.out.cell 2 _ rfl
  go_wp2_with fail
  refine Calls.mono (rcopied_any wc pa pn pc l HS.out ra rn rc r HI.out ta tn tc t HT.out (by have := HP8.out; omega) (by have := HP8.out; omega) (by have := HP8.out; omega)) ?_
  rintro e w3 ⟨a1, c1, a2, c2, a3, c3, rfl, htab, x3⟩
  have X3 := new_below w3 (.cells #[.slice a1 l.length c1, .slice a2 r.length c2, .slice a3 t.length c3] 26)
  have Y0 := hide (chain x3 X3)
  have M0 := hide (mine_new htab x3.size 26)
  obtain ⟨g, rfl⟩ : ∃ g, a1 = some ⟨g, 0, none⟩ := by
    rcases htab.p.2 with ⟨e1, e2⟩ | ⟨g, cap, cur, e1, _⟩
    · have := HKL.out
      omega
    · simp only [Value.slice.injEq] at e1
      exact ⟨g, e1.1⟩
  have HGB : Hid (wc.heap.size ≤ g) := (htab.p.lt g rfl).1
  clear X3 x3 htab b0 b1 b2
  go_upto_region 6 with fail
  generalize w3.alloc (.cells #[.slice (some ⟨g, 0, none⟩) l.length c1, .slice a2 r.length c2, .slice a3 t.length c3] 26) = V0 at *
  generalize w3.heap.size = mb at *
  have hk1 : (k : Int) < (l.length : Int) := by have := HKL.out; omega
  have hk0 : (0 : Int) ≤ (k : Int) := by omega
  have b1 := (BX.out.below (Nat.lt_of_succ_lt hl3.out) Y0.out).cell 1 _ rfl
  go_wp2_with fail
  refine Calls.mono (rout_any V0 ra rn rc r (HI.out.below Y0.out) (k : Int) (by have := HP8.out; omega)) ?_
  rintro e w5 ⟨ov, rfl, ho, x5⟩
  have X6 := new_below w5 (.cells #[.int .i64 (k : Int)] 3)
  have O6 := hide (ownsRow_below ho X6)
  have X7 := hide (chain x5 X6)
  have HOL : Hid ((outOf r (k : Int)).length ≤ 8) := Nat.le_trans (List.length_filter_le _ _) (by have := HLR.out; have := HP8.out; omega)
  clear b1 ho x5 X6
  have HJ := hide infoInt
  go_upto_region 7 with (at_builtin; refine append_rec rfl (.tmp 21) (.tmp 23) 23 3 rfl Tryz.underlying23 HJ.out (by decide) V0.heap.size _ _ _ rfl O6.out w5.heap.size 1 (ci (k : Int)) rfl rfl (fun i u hu => by rw [World.cell?_alloc_at _ _ _ _ (by simp)]; simpa [ci] using hu) (fun u hu => ci_one [(k : Int)] u (by simpa using hu)) (by have := HOL.out; unfold maxLen; omega) (by have := HOL.out; omega) X7.out.size ?_; intro g7 c7 w7 ho7 hg7 hat7 hlt7; have X8 := hide (X7.out.grown hg7 X7.out.size (fun i e => (O6.out.lt i e).1)); have ho8 : IOwn w7 V0.heap.size (.slice (some ⟨g7, 0, none⟩) ((outOf r (k : Int)).length + 1) c7) (yldR r (k : Int)) := (by unfold IOwn yldR; rw [List.length_append, List.flatMap_append]; simpa using ho7); have HR := hide (M0.out.queue X8.out ho8); have MB5 := M0.out.bl.below M0.out.lt X8.out; have g1 := MB5.cell 1 _ rfl; have f1 := MB5.free 1; clear ho7 hg7 hat7 ho8 MB5)
  have M1 := hide HR.out.1
  have Y1 := hide (Y0.out.trans HR.out.2)
  clear g1 f1 HR O6 X7 X8 HOL
  generalize w7.setCell ⟨mb, 1, none⟩ (.slice (some ⟨g7, 0, none⟩) ((outOf r (k : Int)).length + 1) c7) = V1 at *
  have BGF := hide (BG.out.below hl3.out Y1.out)
  have BW := hide (B1.out.trans (Y1.out.mono B1.out.size))
  have T1 := hide ((M1.out.tab.three (g := w.heap.size + 1) hl3.out (.slice (some ⟨g, 0, none⟩) l.length c1) (.slice (some ⟨g7, 0, none⟩) ((outOf r (k : Int)).length + 1) c7) (.slice a3 t.length c3)).weaken B1.out.size)
  have m0 := M1.out.bl.cell 0 _ rfl
  have m1 := M1.out.bl.cell 1 _ rfl
  have m2 := M1.out.bl.cell 2 _ rfl
  have G1 := hide (bl_three BGF.out (.slice (some ⟨g, 0, none⟩) l.length c1) (.slice (some ⟨g7, 0, none⟩) ((outOf r (k : Int)).length + 1) c7) (.slice a3 t.length c3))
  have BF := hide (below3 (g := w.heap.size + 1) (.slice (some ⟨g, 0, none⟩) l.length c1) (.slice (some ⟨g7, 0, none⟩) ((outOf r (k : Int)).length + 1) c7) (.slice a3 t.length c3) BW.out (by omega))
  have g0 := BGF.out.cell 0 _ rfl
  have g1 := BGF.out.cell 1 _ rfl
  have g2 := BGF.out.cell 2 _ rfl
  have f0 := BGF.out.free 0
  have f1 := BGF.out.free 1
  have f2 := BGF.out.free 2
  go_wp2
  generalize (((V1.setCell ⟨w.heap.size + 1, 0, none⟩ (.slice (some ⟨g, 0, none⟩) l.length c1)).setCell ⟨w.heap.size + 1, 1, none⟩ (.slice (some ⟨g7, 0, none⟩) ((outOf r (k : Int)).length + 1) c7)).setCell ⟨w.heap.size + 1, 2, none⟩ (.slice a3 t.length c3)) = W9 at *
  have e0 := G1.out.cell 0 _ rfl
  have e1 := G1.out.cell 1 _ rfl
  have e2 := G1.out.cell 2 _ rfl
  (try simp only [Exit.inBlock, Exit.then])
  refine bodyPost_ret (v := .tuple #[.agg #[.slice (some ⟨g, 0, none⟩) l.length c1, .slice (some ⟨g7, 0, none⟩) ((outOf r (k : Int)).length + 1) c7, .slice a3 t.length c3], .int .i64 0]) (by simp [results, Tryz.results5, go_sem, e0, e1, e2]) rfl ?_
  exact ⟨_, _, _, _, _, _, _, _, _, by rw [HO.out.1]; rfl, by rw [HO.out.2.1, HO.out.2.2.1, HO.out.2.2.2]; exact T1.out, BF.out⟩
end Go.Proofs.YtgbckpojoagbnaaGreatDoor
namespace Go.Proofs.YtgbckpojoagbnaaGreatDoor
open Classical
open Go.RowKit
set_option linter.unusedVariables false
set_option linter.unusedSimpArgs false

set_option maxRecDepth 100000 in
set_option maxHeartbeats 4000000 in
theorem rhalt_any (w : World) (pa : Option Addr) (pn pc : Nat) (l : List Pro) (hp : Pros w pa pn pc l) (ra : Option Addr) (rn rc : Nat) (r : List Int) (hr : Is w ra rn rc r) (ta : Option Addr) (tn tc : Nat) (t : List Tm) (ht : Tms w ta tn tc t) (p st : Int) :
    Calls Tryz.prog 8 #[.agg #[.slice pa pn pc, .slice ra rn rc, .slice ta tn tc], .int .i64 p, .int .i64 st] w fun e w' => ∃ a1 n1 c1 a2 n2 c2 a3 n3 c3, e = .returned (.tuple #[.agg #[.slice a1 n1 c1, .slice a2 n2 c2, .slice a3 n3 c3], .int .i64 (ofE (Good l r t) (OkP l p [1] ∧ (st = 0 ∨ st = 3)) : Int)]) ∧ Tab w' w.heap.size (.slice a1 n1 c1) (.slice a2 n2 c2) (.slice a3 n3 c3) (ownT (Good l r t ∧ (OkP l p [1] ∧ (st = 0 ∨ st = 3))) (setAt l p (fun q => { q with state := st }))) (ownT (Good l r t ∧ (OkP l p [1] ∧ (st = 0 ∨ st = 3))) (outOf r p)) (ownT (Good l r t ∧ (OkP l p [1] ∧ (st = 0 ∨ st = 3))) t) ∧ Below w.heap.size w w' := by
  have X1 := new_below w (.cells #[.slice pa pn pc, .slice ra rn rc, .slice ta tn tc] 26)
  have X2 := new_below (w.alloc (.cells #[.slice pa pn pc, .slice ra rn rc, .slice ta tn tc] 26)) (.cells #[.slice none 0 0, .slice none 0 0, .slice none 0 0] 26)
  have BX0 : Bl (w.alloc (.cells #[.slice pa pn pc, .slice ra rn rc, .slice ta tn tc] 26)) w.heap.size [.slice pa pn pc, .slice ra rn rc, .slice ta tn tc] := bl_alloc w #[.slice pa pn pc, .slice ra rn rc, .slice ta tn tc] 26
  have BX := hide (BX0.below (by simp) X2)
  have BG : Hid (Bl ((w.alloc (.cells #[.slice pa pn pc, .slice ra rn rc, .slice ta tn tc] 26)).alloc (.cells #[.slice none 0 0, .slice none 0 0, .slice none 0 0] 26)) (w.heap.size + 1) [.slice none 0 0, .slice none 0 0, .slice none 0 0]) := by
    have := bl_alloc (w.alloc (.cells #[.slice pa pn pc, .slice ra rn rc, .slice ta tn tc] 26)) #[.slice none 0 0, .slice none 0 0, .slice none 0 0] 26
    rw [show (w.alloc (.cells #[.slice pa pn pc, .slice ra rn rc, .slice ta tn tc] 26)).heap.size = w.heap.size + 1 by simp] at this
    exact this
  have B1 := hide (chain X1 X2)
  have hz : ((w.alloc (.cells #[.slice pa pn pc, .slice ra rn rc, .slice ta tn tc] 26)).alloc (.cells #[.slice none 0 0, .slice none 0 0, .slice none 0 0] 26)).heap.size = w.heap.size + 2 := by simp
  have HS := hide (hp.below B1.out)
  have HI := hide (hr.below B1.out)
  have HT := hide (ht.below B1.out)
  have HL : Hid (l.length = pn) := hp.size
  have HLR : Hid (r.length = rn) := hr.size
  have HLT : Hid (t.length = tn) := ht.size
  clear X1 X2 BX0 hp hr ht
  go_enter Tryz.func8, Tryz.ntmps8
  go_upto_region 1 with fail
  generalize (w.alloc (.cells #[.slice pa pn pc, .slice ra rn rc, .slice ta tn tc] 26)).alloc (.cells #[.slice none 0 0, .slice none 0 0, .slice none 0 0] 26) = W0 at *
  have hl3 : Hid (w.heap.size + 1 < W0.heap.size) := by unfold Hid; rw [hz]; omega
  clear hz
  have b0 := BX.out.cell 0 _ rfl
  have b1 := BX.out.cell 1 _ rfl
  have b2 := BX.out.cell 2 _ rfl
  go_wp2_with fail
  refine Calls.mono (rrgood_any W0 pa pn pc l HS.out ra rn rc r HI.out ta tn tc t HT.out) ?_
  rintro e w1 ⟨rfl, x1⟩
  replace BX := hide (BX.out.below (Nat.lt_of_succ_lt hl3.out) x1)
  replace BG := hide (BG.out.below hl3.out x1)
  replace hl3 : Hid (w.heap.size + 1 < w1.heap.size) := Nat.lt_of_lt_of_le hl3.out x1.size
  replace B1 := hide (chain B1.out x1)
  replace HS := hide (HS.out.below x1)
  replace HI := hide (HI.out.below x1)
  replace HT := hide (HT.out.below x1)
  clear x1 b0 b1 b2
  by_cases hg : Good l r t
  case neg =>
    rw [decide_eq_false hg]
    have HO : Hid (ofE (Good l r t) (OkP l p [1] ∧ (st = 0 ∨ st = 3)) = 9 ∧ ownT (Good l r t ∧ (OkP l p [1] ∧ (st = 0 ∨ st = 3))) (setAt l p (fun q => { q with state := st })) = [] ∧ ownT (Good l r t ∧ (OkP l p [1] ∧ (st = 0 ∨ st = 3))) (outOf r p) = [] ∧ ownT (Good l r t ∧ (OkP l p [1] ∧ (st = 0 ∨ st = 3))) t = []) := ⟨if_neg hg, if_neg (fun h => hg h.1), if_neg (fun h => hg h.1), if_neg (fun h => hg h.1)⟩
    clear hg
    have G1 := hide (bl_three BG.out (.slice none 0 0) (.slice none 0 0) (.slice none 0 0))
    have BF := hide (below3 (g := w.heap.size + 1) (.slice none 0 0) (.slice none 0 0) (.slice none 0 0) B1.out (by omega))
    have g0 := BG.out.cell 0 _ rfl
    have g1 := BG.out.cell 1 _ rfl
    have g2 := BG.out.cell 2 _ rfl
    have f0 := BG.out.free 0
    have f1 := BG.out.free 1
    have f2 := BG.out.free 2
    go_wp2
    generalize (((w1.setCell ⟨w.heap.size + 1, 0, none⟩ (.slice none 0 0)).setCell ⟨w.heap.size + 1, 1, none⟩ (.slice none 0 0)).setCell ⟨w.heap.size + 1, 2, none⟩ (.slice none 0 0)) = W9 at *
    have e0 := G1.out.cell 0 _ rfl
    have e1 := G1.out.cell 1 _ rfl
    have e2 := G1.out.cell 2 _ rfl
    (try simp only [Exit.inBlock, Exit.then])
    refine bodyPost_ret (v := .tuple #[.agg #[.slice none 0 0, .slice none 0 0, .slice none 0 0], .int .i64 9]) (by simp [results, Tryz.results8, go_sem, e0, e1, e2]) rfl ?_
    exact ⟨_, _, _, _, _, _, _, _, _, by rw [HO.out.1]; rfl, by rw [HO.out.2.1, HO.out.2.2.1, HO.out.2.2.2]; exact tab_nil _ _, BF.out⟩
  rw [decide_eq_true hg]
  have HGD := hide hg
  have HP8 : Hid (pn ≤ 8 ∧ rn ≤ 8 ∧ tn ≤ 8) := by
    have h1 := hg.1
    have h2 := goodR_few hg.2.2.1 hg.1
    have h3 := hg.tfew
    have := HL.out
    have := HLR.out
    have := HLT.out
    exact ⟨by omega, by omega, by omega⟩
  clear hg
  have b0 := BX.out.cell 0 _ rfl
  have b1 := BX.out.cell 1 _ rfl
  have b2 := BX.out.cell 2 _ rfl
  go_wp2_with fail
  refine Calls.mono (risIn_any w1 pa pn pc l HS.out ra rn rc ta tn tc p 1 (by have := HP8.out; omega)) ?_
  rintro e w2 ⟨rfl, x2⟩
  replace BX := hide (BX.out.below (Nat.lt_of_succ_lt hl3.out) x2)
  replace BG := hide (BG.out.below hl3.out x2)
  replace hl3 : Hid (w.heap.size + 1 < w2.heap.size) := Nat.lt_of_lt_of_le hl3.out x2.size
  replace B1 := hide (chain B1.out x2)
  replace HS := hide (HS.out.below x2)
  replace HI := hide (HI.out.below x2)
  replace HT := hide (HT.out.below x2)
  clear x2 b0 b1 b2
  obtain ⟨wc, hwc⟩ : ∃ x, x = w2 := ⟨_, rfl⟩
  subst hwc
  by_cases h1 : OkP l p [1]
  case neg =>
    rw [decide_eq_false h1]
    have hx : ¬ (OkP l p [1] ∧ (st = 0 ∨ st = 3)) := fun h => h1 h.1
    clear h1
    have HO : Hid (ofE (Good l r t) (OkP l p [1] ∧ (st = 0 ∨ st = 3)) = 12 ∧ ownT (Good l r t ∧ (OkP l p [1] ∧ (st = 0 ∨ st = 3))) (setAt l p (fun q => { q with state := st })) = [] ∧ ownT (Good l r t ∧ (OkP l p [1] ∧ (st = 0 ∨ st = 3))) (outOf r p) = [] ∧ ownT (Good l r t ∧ (OkP l p [1] ∧ (st = 0 ∨ st = 3))) t = []) := ⟨ofE_bad HGD.out hx, if_neg (fun h => hx h.2), if_neg (fun h => hx h.2), if_neg (fun h => hx h.2)⟩
    clear hx
    have G1 := hide (bl_three BG.out (.slice none 0 0) (.slice none 0 0) (.slice none 0 0))
    have BF := hide (below3 (g := w.heap.size + 1) (.slice none 0 0) (.slice none 0 0) (.slice none 0 0) B1.out (by omega))
    have g0 := BG.out.cell 0 _ rfl
    have g1 := BG.out.cell 1 _ rfl
    have g2 := BG.out.cell 2 _ rfl
    have f0 := BG.out.free 0
    have f1 := BG.out.free 1
    have f2 := BG.out.free 2
    go_wp2
    generalize (((wc.setCell ⟨w.heap.size + 1, 0, none⟩ (.slice none 0 0)).setCell ⟨w.heap.size + 1, 1, none⟩ (.slice none 0 0)).setCell ⟨w.heap.size + 1, 2, none⟩ (.slice none 0 0)) = W9 at *
    have e0 := G1.out.cell 0 _ rfl
    have e1 := G1.out.cell 1 _ rfl
    have e2 := G1.out.cell 2 _ rfl
    (try simp only [Exit.inBlock, Exit.then])
    refine bodyPost_ret (v := .tuple #[.agg #[.slice none 0 0, .slice none 0 0, .slice none 0 0], .int .i64 12]) (by simp [results, Tryz.results8, go_sem, e0, e1, e2]) rfl ?_
    exact ⟨_, _, _, _, _, _, _, _, _, by rw [HO.out.1]; rfl, by rw [HO.out.2.1, HO.out.2.2.1, HO.out.2.2.2]; exact tab_nil _ _, BF.out⟩
  rw [decide_eq_true h1]
  by_cases h0 : st = 0
  · have d1 : (st != 0) = false := by simp [h0]
    have hx : (OkP l p [1] ∧ (st = 0 ∨ st = 3)) := ⟨h1, .inl h0⟩
    clear h0 h1
    have HO : Hid (ofE (Good l r t) (OkP l p [1] ∧ (st = 0 ∨ st = 3)) = 0 ∧ ownT (Good l r t ∧ (OkP l p [1] ∧ (st = 0 ∨ st = 3))) (setAt l p (fun q => { q with state := st })) = (setAt l p (fun q => { q with state := st })) ∧ ownT (Good l r t ∧ (OkP l p [1] ∧ (st = 0 ∨ st = 3))) (outOf r p) = (outOf r p) ∧ ownT (Good l r t ∧ (OkP l p [1] ∧ (st = 0 ∨ st = 3))) t = t) := ⟨ofE_ok HGD.out hx, if_pos ⟨HGD.out, hx⟩, if_pos ⟨HGD.out, hx⟩, if_pos ⟨HGD.out, hx⟩⟩
    obtain ⟨k, q, rfl, hkq, hst⟩ := okP_at hx.1
    have HKQ := hide hkq
    have HKL : Hid (k < l.length) := (List.getElem?_eq_some_iff.1 hkq).1
    clear hkq
    clear hx hst
    have b0 := BX.out.cell 0 _ rfl
    have b1 := BX.out.cell 1 _ rfl
    have b2 := BX.out.cell 2 _ rfl
    go_wp2_with fail
    refine Calls.mono (rcopied_any wc pa pn pc l HS.out ra rn rc r HI.out ta tn tc t HT.out (by have := HP8.out; omega) (by have := HP8.out; omega) (by have := HP8.out; omega)) ?_
    rintro e w3 ⟨a1, c1, a2, c2, a3, c3, rfl, htab, x3⟩
    have X3 := new_below w3 (.cells #[.slice a1 l.length c1, .slice a2 r.length c2, .slice a3 t.length c3] 26)
    have Y0 := hide (chain x3 X3)
    have M0 := hide (mine_new htab x3.size 26)
    obtain ⟨g, rfl⟩ : ∃ g, a1 = some ⟨g, 0, none⟩ := by
      rcases htab.p.2 with ⟨e1, e2⟩ | ⟨g, cap, cur, e1, _⟩
      · have := HKL.out
        omega
      · simp only [Value.slice.injEq] at e1
        exact ⟨g, e1.1⟩
    have HGB : Hid (wc.heap.size ≤ g) := (htab.p.lt g rfl).1
    clear X3 x3 htab b0 b1 b2
    go_upto_region 6 with fail
    generalize w3.alloc (.cells #[.slice (some ⟨g, 0, none⟩) l.length c1, .slice a2 r.length c2, .slice a3 t.length c3] 26) = V0 at *
    generalize w3.heap.size = mb at *
    have hk1 : (k : Int) < (l.length : Int) := by have := HKL.out; omega
    have hk0 : (0 : Int) ≤ (k : Int) := by omega
    have b1 := (BX.out.below (Nat.lt_of_succ_lt hl3.out) Y0.out).cell 1 _ rfl
    go_wp2_with fail
    refine Calls.mono (rout_any V0 ra rn rc r (HI.out.below Y0.out) (k : Int) (by have := HP8.out; omega)) ?_
    rintro e w5 ⟨ov, rfl, ho, x5⟩
    obtain ⟨oa, oc, rfl, -⟩ := iown_is ho
    have HR := hide (M0.out.queue x5 ho)
    have MB5 := M0.out.bl.below M0.out.lt x5
    have g1 := MB5.cell 1 _ rfl
    have f1 := MB5.free 1
    clear b1 ho x5 MB5
    go_upto_region 7 with fail
    have M1 := hide HR.out.1
    have Y1 := hide (Y0.out.trans HR.out.2)
    clear g1 f1 HR
    generalize w5.setCell ⟨mb, 1, none⟩ (.slice oa (outOf r (k : Int)).length oc) = V1 at *
    have m0 := M1.out.bl.cell 0 _ rfl
    have qc : V1.cell? ⟨g, k * 21 + 17, none⟩ = some (.int .i64 q.state) := own_cellB M1.out.tab.p HKQ.out (by decide) rfl
    have fc : V1.frozen? ⟨g, k * 21 + 17, none⟩ = false := own_freeB M1.out.tab.p _
    go_upto_region 8 with fail
    have M2 : Hid (Mine (V1.setCell ⟨g, k * 21 + 17, none⟩ (.int .i64 st)) wc.heap.size mb (.slice (some ⟨g, 0, none⟩) l.length c1) (.slice oa (outOf r (k : Int)).length oc) (.slice a3 t.length c3) (l.set k { q with state := st }) (outOf r (k : Int)) t) := by
      have h := M1.out.put (j := 17) (q' := { q with state := st }) (u := .int .i64 st) HKQ.out (by decide) rfl
      skip
      exact h
    have Y2 := hide (Y1.out.setCell (p := ⟨g, k * 21 + 17, none⟩) HGB.out (.int .i64 st))
    clear qc fc m0
    generalize V1.setCell ⟨g, k * 21 + 17, none⟩ (.int .i64 st) = V2 at *
    have BGF := hide (BG.out.below hl3.out Y2.out)
    have BW := hide (B1.out.trans (Y2.out.mono B1.out.size))
    have T1 := hide ((M2.out.tab.three (g := w.heap.size + 1) hl3.out (.slice (some ⟨g, 0, none⟩) l.length c1) (.slice oa (outOf r (k : Int)).length oc) (.slice a3 t.length c3)).weaken B1.out.size)
    have m0 := M2.out.bl.cell 0 _ rfl
    have m1 := M2.out.bl.cell 1 _ rfl
    have m2 := M2.out.bl.cell 2 _ rfl
    have G1 := hide (bl_three BGF.out (.slice (some ⟨g, 0, none⟩) l.length c1) (.slice oa (outOf r (k : Int)).length oc) (.slice a3 t.length c3))
    have BF := hide (below3 (g := w.heap.size + 1) (.slice (some ⟨g, 0, none⟩) l.length c1) (.slice oa (outOf r (k : Int)).length oc) (.slice a3 t.length c3) BW.out (by omega))
    have g0 := BGF.out.cell 0 _ rfl
    have g1 := BGF.out.cell 1 _ rfl
    have g2 := BGF.out.cell 2 _ rfl
    have f0 := BGF.out.free 0
    have f1 := BGF.out.free 1
    have f2 := BGF.out.free 2
    go_wp2
    generalize (((V2.setCell ⟨w.heap.size + 1, 0, none⟩ (.slice (some ⟨g, 0, none⟩) l.length c1)).setCell ⟨w.heap.size + 1, 1, none⟩ (.slice oa (outOf r (k : Int)).length oc)).setCell ⟨w.heap.size + 1, 2, none⟩ (.slice a3 t.length c3)) = W9 at *
    have e0 := G1.out.cell 0 _ rfl
    have e1 := G1.out.cell 1 _ rfl
    have e2 := G1.out.cell 2 _ rfl
    (try simp only [Exit.inBlock, Exit.then])
    refine bodyPost_ret (v := .tuple #[.agg #[.slice (some ⟨g, 0, none⟩) l.length c1, .slice oa (outOf r (k : Int)).length oc, .slice a3 t.length c3], .int .i64 0]) (by simp [results, Tryz.results8, go_sem, e0, e1, e2]) rfl ?_
    exact ⟨_, _, _, _, _, _, _, _, _, by rw [HO.out.1]; rfl, by rw [HO.out.2.1, HO.out.2.2.1, HO.out.2.2.2, setAt_of HKQ.out]; exact T1.out, BF.out⟩
  · have d1 : (st != 0) = true := by simp [h0]
    by_cases h3 : st = 3
    · have d2 : (st != 3) = false := by simp [h3]
      have hx : (OkP l p [1] ∧ (st = 0 ∨ st = 3)) := ⟨h1, .inr h3⟩
      clear h0 h1 h3
      have HO : Hid (ofE (Good l r t) (OkP l p [1] ∧ (st = 0 ∨ st = 3)) = 0 ∧ ownT (Good l r t ∧ (OkP l p [1] ∧ (st = 0 ∨ st = 3))) (setAt l p (fun q => { q with state := st })) = (setAt l p (fun q => { q with state := st })) ∧ ownT (Good l r t ∧ (OkP l p [1] ∧ (st = 0 ∨ st = 3))) (outOf r p) = (outOf r p) ∧ ownT (Good l r t ∧ (OkP l p [1] ∧ (st = 0 ∨ st = 3))) t = t) := ⟨ofE_ok HGD.out hx, if_pos ⟨HGD.out, hx⟩, if_pos ⟨HGD.out, hx⟩, if_pos ⟨HGD.out, hx⟩⟩
      obtain ⟨k, q, rfl, hkq, hst⟩ := okP_at hx.1
      have HKQ := hide hkq
      have HKL : Hid (k < l.length) := (List.getElem?_eq_some_iff.1 hkq).1
      clear hkq
      clear hx hst
      have b0 := BX.out.cell 0 _ rfl
      have b1 := BX.out.cell 1 _ rfl
      have b2 := BX.out.cell 2 _ rfl
      go_wp2_with fail
      refine Calls.mono (rcopied_any wc pa pn pc l HS.out ra rn rc r HI.out ta tn tc t HT.out (by have := HP8.out; omega) (by have := HP8.out; omega) (by have := HP8.out; omega)) ?_
      rintro e w3 ⟨a1, c1, a2, c2, a3, c3, rfl, htab, x3⟩
      have X3 := new_below w3 (.cells #[.slice a1 l.length c1, .slice a2 r.length c2, .slice a3 t.length c3] 26)
      have Y0 := hide (chain x3 X3)
      have M0 := hide (mine_new htab x3.size 26)
      obtain ⟨g, rfl⟩ : ∃ g, a1 = some ⟨g, 0, none⟩ := by
        rcases htab.p.2 with ⟨e1, e2⟩ | ⟨g, cap, cur, e1, _⟩
        · have := HKL.out
          omega
        · simp only [Value.slice.injEq] at e1
          exact ⟨g, e1.1⟩
      have HGB : Hid (wc.heap.size ≤ g) := (htab.p.lt g rfl).1
      clear X3 x3 htab b0 b1 b2
      go_upto_region 6 with fail
      generalize w3.alloc (.cells #[.slice (some ⟨g, 0, none⟩) l.length c1, .slice a2 r.length c2, .slice a3 t.length c3] 26) = V0 at *
      generalize w3.heap.size = mb at *
      have hk1 : (k : Int) < (l.length : Int) := by have := HKL.out; omega
      have hk0 : (0 : Int) ≤ (k : Int) := by omega
      have b1 := (BX.out.below (Nat.lt_of_succ_lt hl3.out) Y0.out).cell 1 _ rfl
      go_wp2_with fail
      refine Calls.mono (rout_any V0 ra rn rc r (HI.out.below Y0.out) (k : Int) (by have := HP8.out; omega)) ?_
      rintro e w5 ⟨ov, rfl, ho, x5⟩
      obtain ⟨oa, oc, rfl, -⟩ := iown_is ho
      have HR := hide (M0.out.queue x5 ho)
      have MB5 := M0.out.bl.below M0.out.lt x5
      have g1 := MB5.cell 1 _ rfl
      have f1 := MB5.free 1
      clear b1 ho x5 MB5
      go_upto_region 7 with fail
      have M1 := hide HR.out.1
      have Y1 := hide (Y0.out.trans HR.out.2)
      clear g1 f1 HR
      generalize w5.setCell ⟨mb, 1, none⟩ (.slice oa (outOf r (k : Int)).length oc) = V1 at *
      have m0 := M1.out.bl.cell 0 _ rfl
      have qc : V1.cell? ⟨g, k * 21 + 17, none⟩ = some (.int .i64 q.state) := own_cellB M1.out.tab.p HKQ.out (by decide) rfl
      have fc : V1.frozen? ⟨g, k * 21 + 17, none⟩ = false := own_freeB M1.out.tab.p _
      go_upto_region 8 with fail
      have M2 : Hid (Mine (V1.setCell ⟨g, k * 21 + 17, none⟩ (.int .i64 st)) wc.heap.size mb (.slice (some ⟨g, 0, none⟩) l.length c1) (.slice oa (outOf r (k : Int)).length oc) (.slice a3 t.length c3) (l.set k { q with state := st }) (outOf r (k : Int)) t) := by
        have h := M1.out.put (j := 17) (q' := { q with state := st }) (u := .int .i64 st) HKQ.out (by decide) rfl
        skip
        exact h
      have Y2 := hide (Y1.out.setCell (p := ⟨g, k * 21 + 17, none⟩) HGB.out (.int .i64 st))
      clear qc fc m0
      generalize V1.setCell ⟨g, k * 21 + 17, none⟩ (.int .i64 st) = V2 at *
      have BGF := hide (BG.out.below hl3.out Y2.out)
      have BW := hide (B1.out.trans (Y2.out.mono B1.out.size))
      have T1 := hide ((M2.out.tab.three (g := w.heap.size + 1) hl3.out (.slice (some ⟨g, 0, none⟩) l.length c1) (.slice oa (outOf r (k : Int)).length oc) (.slice a3 t.length c3)).weaken B1.out.size)
      have m0 := M2.out.bl.cell 0 _ rfl
      have m1 := M2.out.bl.cell 1 _ rfl
      have m2 := M2.out.bl.cell 2 _ rfl
      have G1 := hide (bl_three BGF.out (.slice (some ⟨g, 0, none⟩) l.length c1) (.slice oa (outOf r (k : Int)).length oc) (.slice a3 t.length c3))
      have BF := hide (below3 (g := w.heap.size + 1) (.slice (some ⟨g, 0, none⟩) l.length c1) (.slice oa (outOf r (k : Int)).length oc) (.slice a3 t.length c3) BW.out (by omega))
      have g0 := BGF.out.cell 0 _ rfl
      have g1 := BGF.out.cell 1 _ rfl
      have g2 := BGF.out.cell 2 _ rfl
      have f0 := BGF.out.free 0
      have f1 := BGF.out.free 1
      have f2 := BGF.out.free 2
      go_wp2
      generalize (((V2.setCell ⟨w.heap.size + 1, 0, none⟩ (.slice (some ⟨g, 0, none⟩) l.length c1)).setCell ⟨w.heap.size + 1, 1, none⟩ (.slice oa (outOf r (k : Int)).length oc)).setCell ⟨w.heap.size + 1, 2, none⟩ (.slice a3 t.length c3)) = W9 at *
      have e0 := G1.out.cell 0 _ rfl
      have e1 := G1.out.cell 1 _ rfl
      have e2 := G1.out.cell 2 _ rfl
      (try simp only [Exit.inBlock, Exit.then])
      refine bodyPost_ret (v := .tuple #[.agg #[.slice (some ⟨g, 0, none⟩) l.length c1, .slice oa (outOf r (k : Int)).length oc, .slice a3 t.length c3], .int .i64 0]) (by simp [results, Tryz.results8, go_sem, e0, e1, e2]) rfl ?_
      exact ⟨_, _, _, _, _, _, _, _, _, by rw [HO.out.1]; rfl, by rw [HO.out.2.1, HO.out.2.2.1, HO.out.2.2.2, setAt_of HKQ.out]; exact T1.out, BF.out⟩
    · have d2 : (st != 3) = true := by simp [h3]
      have hx : ¬ (OkP l p [1] ∧ (st = 0 ∨ st = 3)) := fun h => by rcases h.2 with h | h; exact h0 h; exact h3 h
      clear h0 h1 h3
      have HO : Hid (ofE (Good l r t) (OkP l p [1] ∧ (st = 0 ∨ st = 3)) = 12 ∧ ownT (Good l r t ∧ (OkP l p [1] ∧ (st = 0 ∨ st = 3))) (setAt l p (fun q => { q with state := st })) = [] ∧ ownT (Good l r t ∧ (OkP l p [1] ∧ (st = 0 ∨ st = 3))) (outOf r p) = [] ∧ ownT (Good l r t ∧ (OkP l p [1] ∧ (st = 0 ∨ st = 3))) t = []) := ⟨ofE_bad HGD.out hx, if_neg (fun h => hx h.2), if_neg (fun h => hx h.2), if_neg (fun h => hx h.2)⟩
      clear hx
      have G1 := hide (bl_three BG.out (.slice none 0 0) (.slice none 0 0) (.slice none 0 0))
      have BF := hide (below3 (g := w.heap.size + 1) (.slice none 0 0) (.slice none 0 0) (.slice none 0 0) B1.out (by omega))
      have g0 := BG.out.cell 0 _ rfl
      have g1 := BG.out.cell 1 _ rfl
      have g2 := BG.out.cell 2 _ rfl
      have f0 := BG.out.free 0
      have f1 := BG.out.free 1
      have f2 := BG.out.free 2
      go_wp2
      generalize (((wc.setCell ⟨w.heap.size + 1, 0, none⟩ (.slice none 0 0)).setCell ⟨w.heap.size + 1, 1, none⟩ (.slice none 0 0)).setCell ⟨w.heap.size + 1, 2, none⟩ (.slice none 0 0)) = W9 at *
      have e0 := G1.out.cell 0 _ rfl
      have e1 := G1.out.cell 1 _ rfl
      have e2 := G1.out.cell 2 _ rfl
      (try simp only [Exit.inBlock, Exit.then])
      refine bodyPost_ret (v := .tuple #[.agg #[.slice none 0 0, .slice none 0 0, .slice none 0 0], .int .i64 12]) (by simp [results, Tryz.results8, go_sem, e0, e1, e2]) rfl ?_
      exact ⟨_, _, _, _, _, _, _, _, _, by rw [HO.out.1]; rfl, by rw [HO.out.2.1, HO.out.2.2.1, HO.out.2.2.2]; exact tab_nil _ _, BF.out⟩
end Go.Proofs.YtgbckpojoagbnaaGreatDoor
namespace Go.Proofs.YtgbckpojoagbnaaGreatDoor
open Classical
open Go.RowKit
set_option linter.unusedVariables false
set_option linter.unusedSimpArgs false

set_option maxRecDepth 100000 in
set_option maxHeartbeats 4000000 in
theorem ok_all {l : List Pro} {r : List Int} {t : List Tm} (hg : Good l r t) {p : Int} (h0 : 0 ≤ p) (h1 : p < (l.length : Int)) : OkP l p [0, 1, 2, 3] := by
  obtain ⟨k, rfl⟩ := Int.eq_ofNat_of_zero_le h0
  obtain ⟨q, hq⟩ : ∃ q, l[k]? = some q := ⟨_, List.getElem?_eq_getElem (by omega)⟩
  refine ⟨h0, h1, ?_⟩
  rw [stateAt_of hq]
  have := hg.2.1 q (List.mem_of_getElem? hq)
  unfold Pro.In at this
  simp
  omega
set_option maxRecDepth 100000 in
set_option maxHeartbeats 4000000 in
theorem rrank_any (w : World) (pa : Option Addr) (pn pc : Nat) (l : List Pro) (hp : Pros w pa pn pc l) (ra : Option Addr) (rn rc : Nat) (r : List Int) (hr : Is w ra rn rc r) (ta : Option Addr) (tn tc : Nat) (t : List Tm) (ht : Tms w ta tn tc t) (p pr : Int) :
    Calls Tryz.prog 10 #[.agg #[.slice pa pn pc, .slice ra rn rc, .slice ta tn tc], .int .i64 p, .int .i64 pr] w fun e w' => ∃ a1 n1 c1 a2 n2 c2 a3 n3 c3, e = .returned (.tuple #[.agg #[.slice a1 n1 c1, .slice a2 n2 c2, .slice a3 n3 c3], .int .i64 (ofE (Good l r t) (OkP l p [0, 1, 2, 3] ∧ (0 ≤ pr ∧ pr ≤ 255)) : Int)]) ∧ Tab w' w.heap.size (.slice a1 n1 c1) (.slice a2 n2 c2) (.slice a3 n3 c3) (ownT (Good l r t ∧ (OkP l p [0, 1, 2, 3] ∧ (0 ≤ pr ∧ pr ≤ 255))) (setAt l p (fun q => { q with prio := pr }))) (ownT (Good l r t ∧ (OkP l p [0, 1, 2, 3] ∧ (0 ≤ pr ∧ pr ≤ 255))) r) (ownT (Good l r t ∧ (OkP l p [0, 1, 2, 3] ∧ (0 ≤ pr ∧ pr ≤ 255))) t) ∧ Below w.heap.size w w' := by
  have X1 := new_below w (.cells #[.slice pa pn pc, .slice ra rn rc, .slice ta tn tc] 26)
  have X2 := new_below (w.alloc (.cells #[.slice pa pn pc, .slice ra rn rc, .slice ta tn tc] 26)) (.cells #[.slice none 0 0, .slice none 0 0, .slice none 0 0] 26)
  have BX0 : Bl (w.alloc (.cells #[.slice pa pn pc, .slice ra rn rc, .slice ta tn tc] 26)) w.heap.size [.slice pa pn pc, .slice ra rn rc, .slice ta tn tc] := bl_alloc w #[.slice pa pn pc, .slice ra rn rc, .slice ta tn tc] 26
  have BX := hide (BX0.below (by simp) X2)
  have BG : Hid (Bl ((w.alloc (.cells #[.slice pa pn pc, .slice ra rn rc, .slice ta tn tc] 26)).alloc (.cells #[.slice none 0 0, .slice none 0 0, .slice none 0 0] 26)) (w.heap.size + 1) [.slice none 0 0, .slice none 0 0, .slice none 0 0]) := by
    have := bl_alloc (w.alloc (.cells #[.slice pa pn pc, .slice ra rn rc, .slice ta tn tc] 26)) #[.slice none 0 0, .slice none 0 0, .slice none 0 0] 26
    rw [show (w.alloc (.cells #[.slice pa pn pc, .slice ra rn rc, .slice ta tn tc] 26)).heap.size = w.heap.size + 1 by simp] at this
    exact this
  have B1 := hide (chain X1 X2)
  have hz : ((w.alloc (.cells #[.slice pa pn pc, .slice ra rn rc, .slice ta tn tc] 26)).alloc (.cells #[.slice none 0 0, .slice none 0 0, .slice none 0 0] 26)).heap.size = w.heap.size + 2 := by simp
  have HS := hide (hp.below B1.out)
  have HI := hide (hr.below B1.out)
  have HT := hide (ht.below B1.out)
  have HL : Hid (l.length = pn) := hp.size
  have HLR : Hid (r.length = rn) := hr.size
  have HLT : Hid (t.length = tn) := ht.size
  clear X1 X2 BX0 hp hr ht
  go_enter Tryz.func10, Tryz.ntmps10
  go_upto_region 1 with fail
  generalize (w.alloc (.cells #[.slice pa pn pc, .slice ra rn rc, .slice ta tn tc] 26)).alloc (.cells #[.slice none 0 0, .slice none 0 0, .slice none 0 0] 26) = W0 at *
  have hl3 : Hid (w.heap.size + 1 < W0.heap.size) := by unfold Hid; rw [hz]; omega
  clear hz
  have b0 := BX.out.cell 0 _ rfl
  have b1 := BX.out.cell 1 _ rfl
  have b2 := BX.out.cell 2 _ rfl
  go_wp2_with fail
  refine Calls.mono (rrgood_any W0 pa pn pc l HS.out ra rn rc r HI.out ta tn tc t HT.out) ?_
  rintro e w1 ⟨rfl, x1⟩
  replace BX := hide (BX.out.below (Nat.lt_of_succ_lt hl3.out) x1)
  replace BG := hide (BG.out.below hl3.out x1)
  replace hl3 : Hid (w.heap.size + 1 < w1.heap.size) := Nat.lt_of_lt_of_le hl3.out x1.size
  replace B1 := hide (chain B1.out x1)
  replace HS := hide (HS.out.below x1)
  replace HI := hide (HI.out.below x1)
  replace HT := hide (HT.out.below x1)
  clear x1 b0 b1 b2
  by_cases hg : Good l r t
  case neg =>
    rw [decide_eq_false hg]
    have HO : Hid (ofE (Good l r t) (OkP l p [0, 1, 2, 3] ∧ (0 ≤ pr ∧ pr ≤ 255)) = 9 ∧ ownT (Good l r t ∧ (OkP l p [0, 1, 2, 3] ∧ (0 ≤ pr ∧ pr ≤ 255))) (setAt l p (fun q => { q with prio := pr })) = [] ∧ ownT (Good l r t ∧ (OkP l p [0, 1, 2, 3] ∧ (0 ≤ pr ∧ pr ≤ 255))) r = [] ∧ ownT (Good l r t ∧ (OkP l p [0, 1, 2, 3] ∧ (0 ≤ pr ∧ pr ≤ 255))) t = []) := ⟨if_neg hg, if_neg (fun h => hg h.1), if_neg (fun h => hg h.1), if_neg (fun h => hg h.1)⟩
    clear hg
    have G1 := hide (bl_three BG.out (.slice none 0 0) (.slice none 0 0) (.slice none 0 0))
    have BF := hide (below3 (g := w.heap.size + 1) (.slice none 0 0) (.slice none 0 0) (.slice none 0 0) B1.out (by omega))
    have g0 := BG.out.cell 0 _ rfl
    have g1 := BG.out.cell 1 _ rfl
    have g2 := BG.out.cell 2 _ rfl
    have f0 := BG.out.free 0
    have f1 := BG.out.free 1
    have f2 := BG.out.free 2
    go_wp2
    generalize (((w1.setCell ⟨w.heap.size + 1, 0, none⟩ (.slice none 0 0)).setCell ⟨w.heap.size + 1, 1, none⟩ (.slice none 0 0)).setCell ⟨w.heap.size + 1, 2, none⟩ (.slice none 0 0)) = W9 at *
    have e0 := G1.out.cell 0 _ rfl
    have e1 := G1.out.cell 1 _ rfl
    have e2 := G1.out.cell 2 _ rfl
    (try simp only [Exit.inBlock, Exit.then])
    refine bodyPost_ret (v := .tuple #[.agg #[.slice none 0 0, .slice none 0 0, .slice none 0 0], .int .i64 9]) (by simp [results, Tryz.results10, go_sem, e0, e1, e2]) rfl ?_
    exact ⟨_, _, _, _, _, _, _, _, _, by rw [HO.out.1]; rfl, by rw [HO.out.2.1, HO.out.2.2.1, HO.out.2.2.2]; exact tab_nil _ _, BF.out⟩
  rw [decide_eq_true hg]
  have HGD := hide hg
  have HP8 : Hid (pn ≤ 8 ∧ rn ≤ 8 ∧ tn ≤ 8) := by
    have h1 := hg.1
    have h2 := goodR_few hg.2.2.1 hg.1
    have h3 := hg.tfew
    have := HL.out
    have := HLR.out
    have := HLT.out
    exact ⟨by omega, by omega, by omega⟩
  clear hg
  obtain ⟨wc, hwc⟩ : ∃ x, x = w1 := ⟨_, rfl⟩
  subst hwc
  have b0 := BX.out.cell 0 _ rfl
  have b1 := BX.out.cell 1 _ rfl
  have b2 := BX.out.cell 2 _ rfl
  by_cases h0 : p < 0
  · have d0 : decide (p < 0) = true := decide_eq_true h0
    have hx : ¬ (OkP l p [0, 1, 2, 3] ∧ (0 ≤ pr ∧ pr ≤ 255)) := fun h => by have := h.1.1; omega
    clear h0
    have HO : Hid (ofE (Good l r t) (OkP l p [0, 1, 2, 3] ∧ (0 ≤ pr ∧ pr ≤ 255)) = 12 ∧ ownT (Good l r t ∧ (OkP l p [0, 1, 2, 3] ∧ (0 ≤ pr ∧ pr ≤ 255))) (setAt l p (fun q => { q with prio := pr })) = [] ∧ ownT (Good l r t ∧ (OkP l p [0, 1, 2, 3] ∧ (0 ≤ pr ∧ pr ≤ 255))) r = [] ∧ ownT (Good l r t ∧ (OkP l p [0, 1, 2, 3] ∧ (0 ≤ pr ∧ pr ≤ 255))) t = []) := ⟨ofE_bad HGD.out hx, if_neg (fun h => hx h.2), if_neg (fun h => hx h.2), if_neg (fun h => hx h.2)⟩
    clear hx
    have G1 := hide (bl_three BG.out (.slice none 0 0) (.slice none 0 0) (.slice none 0 0))
    have BF := hide (below3 (g := w.heap.size + 1) (.slice none 0 0) (.slice none 0 0) (.slice none 0 0) B1.out (by omega))
    have g0 := BG.out.cell 0 _ rfl
    have g1 := BG.out.cell 1 _ rfl
    have g2 := BG.out.cell 2 _ rfl
    have f0 := BG.out.free 0
    have f1 := BG.out.free 1
    have f2 := BG.out.free 2
    go_wp2
    generalize (((wc.setCell ⟨w.heap.size + 1, 0, none⟩ (.slice none 0 0)).setCell ⟨w.heap.size + 1, 1, none⟩ (.slice none 0 0)).setCell ⟨w.heap.size + 1, 2, none⟩ (.slice none 0 0)) = W9 at *
    have e0 := G1.out.cell 0 _ rfl
    have e1 := G1.out.cell 1 _ rfl
    have e2 := G1.out.cell 2 _ rfl
    (try simp only [Exit.inBlock, Exit.then])
    refine bodyPost_ret (v := .tuple #[.agg #[.slice none 0 0, .slice none 0 0, .slice none 0 0], .int .i64 12]) (by simp [results, Tryz.results10, go_sem, e0, e1, e2]) rfl ?_
    exact ⟨_, _, _, _, _, _, _, _, _, by rw [HO.out.1]; rfl, by rw [HO.out.2.1, HO.out.2.2.1, HO.out.2.2.2]; exact tab_nil _ _, BF.out⟩
  have d0 : decide (p < 0) = false := decide_eq_false h0
  by_cases h1 : (pn : Int) ≤ p
  · have d1 : decide ((pn : Int) ≤ p) = true := decide_eq_true h1
    have hx : ¬ (OkP l p [0, 1, 2, 3] ∧ (0 ≤ pr ∧ pr ≤ 255)) := fun h => by have := h.1.2.1; have := HL.out; omega
    clear h0 h1
    have HO : Hid (ofE (Good l r t) (OkP l p [0, 1, 2, 3] ∧ (0 ≤ pr ∧ pr ≤ 255)) = 12 ∧ ownT (Good l r t ∧ (OkP l p [0, 1, 2, 3] ∧ (0 ≤ pr ∧ pr ≤ 255))) (setAt l p (fun q => { q with prio := pr })) = [] ∧ ownT (Good l r t ∧ (OkP l p [0, 1, 2, 3] ∧ (0 ≤ pr ∧ pr ≤ 255))) r = [] ∧ ownT (Good l r t ∧ (OkP l p [0, 1, 2, 3] ∧ (0 ≤ pr ∧ pr ≤ 255))) t = []) := ⟨ofE_bad HGD.out hx, if_neg (fun h => hx h.2), if_neg (fun h => hx h.2), if_neg (fun h => hx h.2)⟩
    clear hx
    have G1 := hide (bl_three BG.out (.slice none 0 0) (.slice none 0 0) (.slice none 0 0))
    have BF := hide (below3 (g := w.heap.size + 1) (.slice none 0 0) (.slice none 0 0) (.slice none 0 0) B1.out (by omega))
    have g0 := BG.out.cell 0 _ rfl
    have g1 := BG.out.cell 1 _ rfl
    have g2 := BG.out.cell 2 _ rfl
    have f0 := BG.out.free 0
    have f1 := BG.out.free 1
    have f2 := BG.out.free 2
    go_wp2
    generalize (((wc.setCell ⟨w.heap.size + 1, 0, none⟩ (.slice none 0 0)).setCell ⟨w.heap.size + 1, 1, none⟩ (.slice none 0 0)).setCell ⟨w.heap.size + 1, 2, none⟩ (.slice none 0 0)) = W9 at *
    have e0 := G1.out.cell 0 _ rfl
    have e1 := G1.out.cell 1 _ rfl
    have e2 := G1.out.cell 2 _ rfl
    (try simp only [Exit.inBlock, Exit.then])
    refine bodyPost_ret (v := .tuple #[.agg #[.slice none 0 0, .slice none 0 0, .slice none 0 0], .int .i64 12]) (by simp [results, Tryz.results10, go_sem, e0, e1, e2]) rfl ?_
    exact ⟨_, _, _, _, _, _, _, _, _, by rw [HO.out.1]; rfl, by rw [HO.out.2.1, HO.out.2.2.1, HO.out.2.2.2]; exact tab_nil _ _, BF.out⟩
  have d1 : decide ((pn : Int) ≤ p) = false := decide_eq_false h1
  by_cases h2 : pr < 0
  · have d2 : decide (pr < 0) = true := decide_eq_true h2
    have hx : ¬ (OkP l p [0, 1, 2, 3] ∧ (0 ≤ pr ∧ pr ≤ 255)) := fun h => by have := h.2.1; omega
    clear h0 h1 h2
    have HO : Hid (ofE (Good l r t) (OkP l p [0, 1, 2, 3] ∧ (0 ≤ pr ∧ pr ≤ 255)) = 12 ∧ ownT (Good l r t ∧ (OkP l p [0, 1, 2, 3] ∧ (0 ≤ pr ∧ pr ≤ 255))) (setAt l p (fun q => { q with prio := pr })) = [] ∧ ownT (Good l r t ∧ (OkP l p [0, 1, 2, 3] ∧ (0 ≤ pr ∧ pr ≤ 255))) r = [] ∧ ownT (Good l r t ∧ (OkP l p [0, 1, 2, 3] ∧ (0 ≤ pr ∧ pr ≤ 255))) t = []) := ⟨ofE_bad HGD.out hx, if_neg (fun h => hx h.2), if_neg (fun h => hx h.2), if_neg (fun h => hx h.2)⟩
    clear hx
    have G1 := hide (bl_three BG.out (.slice none 0 0) (.slice none 0 0) (.slice none 0 0))
    have BF := hide (below3 (g := w.heap.size + 1) (.slice none 0 0) (.slice none 0 0) (.slice none 0 0) B1.out (by omega))
    have g0 := BG.out.cell 0 _ rfl
    have g1 := BG.out.cell 1 _ rfl
    have g2 := BG.out.cell 2 _ rfl
    have f0 := BG.out.free 0
    have f1 := BG.out.free 1
    have f2 := BG.out.free 2
    go_wp2
    generalize (((wc.setCell ⟨w.heap.size + 1, 0, none⟩ (.slice none 0 0)).setCell ⟨w.heap.size + 1, 1, none⟩ (.slice none 0 0)).setCell ⟨w.heap.size + 1, 2, none⟩ (.slice none 0 0)) = W9 at *
    have e0 := G1.out.cell 0 _ rfl
    have e1 := G1.out.cell 1 _ rfl
    have e2 := G1.out.cell 2 _ rfl
    (try simp only [Exit.inBlock, Exit.then])
    refine bodyPost_ret (v := .tuple #[.agg #[.slice none 0 0, .slice none 0 0, .slice none 0 0], .int .i64 12]) (by simp [results, Tryz.results10, go_sem, e0, e1, e2]) rfl ?_
    exact ⟨_, _, _, _, _, _, _, _, _, by rw [HO.out.1]; rfl, by rw [HO.out.2.1, HO.out.2.2.1, HO.out.2.2.2]; exact tab_nil _ _, BF.out⟩
  have d2 : decide (pr < 0) = false := decide_eq_false h2
  by_cases h3 : 255 < pr
  · have d3 : decide (255 < pr) = true := decide_eq_true h3
    have hx : ¬ (OkP l p [0, 1, 2, 3] ∧ (0 ≤ pr ∧ pr ≤ 255)) := fun h => by have := h.2.2; omega
    clear h0 h1 h2 h3
    have HO : Hid (ofE (Good l r t) (OkP l p [0, 1, 2, 3] ∧ (0 ≤ pr ∧ pr ≤ 255)) = 12 ∧ ownT (Good l r t ∧ (OkP l p [0, 1, 2, 3] ∧ (0 ≤ pr ∧ pr ≤ 255))) (setAt l p (fun q => { q with prio := pr })) = [] ∧ ownT (Good l r t ∧ (OkP l p [0, 1, 2, 3] ∧ (0 ≤ pr ∧ pr ≤ 255))) r = [] ∧ ownT (Good l r t ∧ (OkP l p [0, 1, 2, 3] ∧ (0 ≤ pr ∧ pr ≤ 255))) t = []) := ⟨ofE_bad HGD.out hx, if_neg (fun h => hx h.2), if_neg (fun h => hx h.2), if_neg (fun h => hx h.2)⟩
    clear hx
    have G1 := hide (bl_three BG.out (.slice none 0 0) (.slice none 0 0) (.slice none 0 0))
    have BF := hide (below3 (g := w.heap.size + 1) (.slice none 0 0) (.slice none 0 0) (.slice none 0 0) B1.out (by omega))
    have g0 := BG.out.cell 0 _ rfl
    have g1 := BG.out.cell 1 _ rfl
    have g2 := BG.out.cell 2 _ rfl
    have f0 := BG.out.free 0
    have f1 := BG.out.free 1
    have f2 := BG.out.free 2
    go_wp2
    generalize (((wc.setCell ⟨w.heap.size + 1, 0, none⟩ (.slice none 0 0)).setCell ⟨w.heap.size + 1, 1, none⟩ (.slice none 0 0)).setCell ⟨w.heap.size + 1, 2, none⟩ (.slice none 0 0)) = W9 at *
    have e0 := G1.out.cell 0 _ rfl
    have e1 := G1.out.cell 1 _ rfl
    have e2 := G1.out.cell 2 _ rfl
    (try simp only [Exit.inBlock, Exit.then])
    refine bodyPost_ret (v := .tuple #[.agg #[.slice none 0 0, .slice none 0 0, .slice none 0 0], .int .i64 12]) (by simp [results, Tryz.results10, go_sem, e0, e1, e2]) rfl ?_
    exact ⟨_, _, _, _, _, _, _, _, _, by rw [HO.out.1]; rfl, by rw [HO.out.2.1, HO.out.2.2.1, HO.out.2.2.2]; exact tab_nil _ _, BF.out⟩
  have d3 : decide (255 < pr) = false := decide_eq_false h3
  have hx : (OkP l p [0, 1, 2, 3] ∧ (0 ≤ pr ∧ pr ≤ 255)) := ⟨ok_all HGD.out (by omega) (by have := HL.out; omega), by omega, by omega⟩
  clear h0 h1 h2 h3
  have HO : Hid (ofE (Good l r t) (OkP l p [0, 1, 2, 3] ∧ (0 ≤ pr ∧ pr ≤ 255)) = 0 ∧ ownT (Good l r t ∧ (OkP l p [0, 1, 2, 3] ∧ (0 ≤ pr ∧ pr ≤ 255))) (setAt l p (fun q => { q with prio := pr })) = (setAt l p (fun q => { q with prio := pr })) ∧ ownT (Good l r t ∧ (OkP l p [0, 1, 2, 3] ∧ (0 ≤ pr ∧ pr ≤ 255))) r = r ∧ ownT (Good l r t ∧ (OkP l p [0, 1, 2, 3] ∧ (0 ≤ pr ∧ pr ≤ 255))) t = t) := ⟨ofE_ok HGD.out hx, if_pos ⟨HGD.out, hx⟩, if_pos ⟨HGD.out, hx⟩, if_pos ⟨HGD.out, hx⟩⟩
  obtain ⟨k, q, rfl, hkq, hst⟩ := okP_at hx.1
  have HKQ := hide hkq
  have HKL : Hid (k < l.length) := (List.getElem?_eq_some_iff.1 hkq).1
  clear hkq
  clear hx hst
  have d1' : decide (pn ≤ k) = false := decide_eq_false (by have := HKL.out; have := HL.out; omega)
  go_wp2_with fail
  refine Calls.mono (rcopied_any wc pa pn pc l HS.out ra rn rc r HI.out ta tn tc t HT.out (by have := HP8.out; omega) (by have := HP8.out; omega) (by have := HP8.out; omega)) ?_
  rintro e w3 ⟨a1, c1, a2, c2, a3, c3, rfl, htab, x3⟩
  have X3 := new_below w3 (.cells #[.slice a1 l.length c1, .slice a2 r.length c2, .slice a3 t.length c3] 26)
  have Y0 := hide (chain x3 X3)
  have M0 := hide (mine_new htab x3.size 26)
  obtain ⟨g, rfl⟩ : ∃ g, a1 = some ⟨g, 0, none⟩ := by
    rcases htab.p.2 with ⟨e1, e2⟩ | ⟨g, cap, cur, e1, _⟩
    · have := HKL.out
      omega
    · simp only [Value.slice.injEq] at e1
      exact ⟨g, e1.1⟩
  have HGB : Hid (wc.heap.size ≤ g) := (htab.p.lt g rfl).1
  clear X3 x3 htab b0 b1 b2
  go_upto_region 6 with fail
  generalize w3.alloc (.cells #[.slice (some ⟨g, 0, none⟩) l.length c1, .slice a2 r.length c2, .slice a3 t.length c3] 26) = V0 at *
  generalize w3.heap.size = mb at *
  have hk1 : (k : Int) < (l.length : Int) := by have := HKL.out; omega
  have hk0 : (0 : Int) ≤ (k : Int) := by omega
  have m0 := M0.out.bl.cell 0 _ rfl
  have qc : V0.cell? ⟨g, k * 21 + 18, none⟩ = some (.int .i64 q.prio) := own_cellB M0.out.tab.p HKQ.out (by decide) rfl
  have fc : V0.frozen? ⟨g, k * 21 + 18, none⟩ = false := own_freeB M0.out.tab.p _
  go_upto_region 7 with fail
  have M1 : Hid (Mine (V0.setCell ⟨g, k * 21 + 18, none⟩ (.int .i64 pr)) wc.heap.size mb (.slice (some ⟨g, 0, none⟩) l.length c1) (.slice a2 r.length c2) (.slice a3 t.length c3) (l.set k { q with prio := pr }) r t) := by
    have h := M0.out.put (j := 18) (q' := { q with prio := pr }) (u := .int .i64 pr) HKQ.out (by decide) rfl
    skip
    exact h
  have Y1 := hide (Y0.out.setCell (p := ⟨g, k * 21 + 18, none⟩) HGB.out (.int .i64 pr))
  clear qc fc m0
  generalize V0.setCell ⟨g, k * 21 + 18, none⟩ (.int .i64 pr) = V1 at *
  have BGF := hide (BG.out.below hl3.out Y1.out)
  have BW := hide (B1.out.trans (Y1.out.mono B1.out.size))
  have T1 := hide ((M1.out.tab.three (g := w.heap.size + 1) hl3.out (.slice (some ⟨g, 0, none⟩) l.length c1) (.slice a2 r.length c2) (.slice a3 t.length c3)).weaken B1.out.size)
  have m0 := M1.out.bl.cell 0 _ rfl
  have m1 := M1.out.bl.cell 1 _ rfl
  have m2 := M1.out.bl.cell 2 _ rfl
  have G1 := hide (bl_three BGF.out (.slice (some ⟨g, 0, none⟩) l.length c1) (.slice a2 r.length c2) (.slice a3 t.length c3))
  have BF := hide (below3 (g := w.heap.size + 1) (.slice (some ⟨g, 0, none⟩) l.length c1) (.slice a2 r.length c2) (.slice a3 t.length c3) BW.out (by omega))
  have g0 := BGF.out.cell 0 _ rfl
  have g1 := BGF.out.cell 1 _ rfl
  have g2 := BGF.out.cell 2 _ rfl
  have f0 := BGF.out.free 0
  have f1 := BGF.out.free 1
  have f2 := BGF.out.free 2
  go_wp2
  generalize (((V1.setCell ⟨w.heap.size + 1, 0, none⟩ (.slice (some ⟨g, 0, none⟩) l.length c1)).setCell ⟨w.heap.size + 1, 1, none⟩ (.slice a2 r.length c2)).setCell ⟨w.heap.size + 1, 2, none⟩ (.slice a3 t.length c3)) = W9 at *
  have e0 := G1.out.cell 0 _ rfl
  have e1 := G1.out.cell 1 _ rfl
  have e2 := G1.out.cell 2 _ rfl
  (try simp only [Exit.inBlock, Exit.then])
  refine bodyPost_ret (v := .tuple #[.agg #[.slice (some ⟨g, 0, none⟩) l.length c1, .slice a2 r.length c2, .slice a3 t.length c3], .int .i64 0]) (by simp [results, Tryz.results10, go_sem, e0, e1, e2]) rfl ?_
  exact ⟨_, _, _, _, _, _, _, _, _, by rw [HO.out.1]; rfl, by rw [HO.out.2.1, HO.out.2.2.1, HO.out.2.2.2, setAt_of HKQ.out]; exact T1.out, BF.out⟩
end Go.Proofs.YtgbckpojoagbnaaGreatDoor
namespace Go.Proofs.YtgbckpojoagbnaaGreatDoor
open Classical
open Go.RowKit
set_option linter.unusedVariables false
set_option linter.unusedSimpArgs false

set_option maxRecDepth 100000 in
set_option maxHeartbeats 4000000 in
theorem rwake_any (w : World) (pa : Option Addr) (pn pc : Nat) (l : List Pro) (hp : Pros w pa pn pc l) (ra : Option Addr) (rn rc : Nat) (r : List Int) (hr : Is w ra rn rc r) (ta : Option Addr) (tn tc : Nat) (t : List Tm) (ht : Tms w ta tn tc t) (p x : Int) :
    Calls Tryz.prog 7 #[.agg #[.slice pa pn pc, .slice ra rn rc, .slice ta tn tc], .int .i64 p, .int .u32 x] w fun e w' => ∃ a1 n1 c1 a2 n2 c2 a3 n3 c3, e = .returned (.tuple #[.agg #[.slice a1 n1 c1, .slice a2 n2 c2, .slice a3 n3 c3], .int .i64 (ofE (Good l r t) (OkP l p [2]) : Int)]) ∧ Tab w' w.heap.size (.slice a1 n1 c1) (.slice a2 n2 c2) (.slice a3 n3 c3) (ownT (Good l r t ∧ (OkP l p [2])) (setAt l p (fun q => wokenP q x))) (ownT (Good l r t ∧ (OkP l p [2])) (r ++ [p])) (ownT (Good l r t ∧ (OkP l p [2])) (others t p)) ∧ Below w.heap.size w w' := by
  have X1 := new_below w (.cells #[.slice pa pn pc, .slice ra rn rc, .slice ta tn tc] 26)
  have X2 := new_below (w.alloc (.cells #[.slice pa pn pc, .slice ra rn rc, .slice ta tn tc] 26)) (.cells #[.slice none 0 0, .slice none 0 0, .slice none 0 0] 26)
  have BX0 : Bl (w.alloc (.cells #[.slice pa pn pc, .slice ra rn rc, .slice ta tn tc] 26)) w.heap.size [.slice pa pn pc, .slice ra rn rc, .slice ta tn tc] := bl_alloc w #[.slice pa pn pc, .slice ra rn rc, .slice ta tn tc] 26
  have BX := hide (BX0.below (by simp) X2)
  have BG : Hid (Bl ((w.alloc (.cells #[.slice pa pn pc, .slice ra rn rc, .slice ta tn tc] 26)).alloc (.cells #[.slice none 0 0, .slice none 0 0, .slice none 0 0] 26)) (w.heap.size + 1) [.slice none 0 0, .slice none 0 0, .slice none 0 0]) := by
    have := bl_alloc (w.alloc (.cells #[.slice pa pn pc, .slice ra rn rc, .slice ta tn tc] 26)) #[.slice none 0 0, .slice none 0 0, .slice none 0 0] 26
    rw [show (w.alloc (.cells #[.slice pa pn pc, .slice ra rn rc, .slice ta tn tc] 26)).heap.size = w.heap.size + 1 by simp] at this
    exact this
  have B1 := hide (chain X1 X2)
  have hz : ((w.alloc (.cells #[.slice pa pn pc, .slice ra rn rc, .slice ta tn tc] 26)).alloc (.cells #[.slice none 0 0, .slice none 0 0, .slice none 0 0] 26)).heap.size = w.heap.size + 2 := by simp
  have HS := hide (hp.below B1.out)
  have HI := hide (hr.below B1.out)
  have HT := hide (ht.below B1.out)
  have HL : Hid (l.length = pn) := hp.size
  have HLR : Hid (r.length = rn) := hr.size
  have HLT : Hid (t.length = tn) := ht.size
  clear X1 X2 BX0 hp hr ht
  go_enter Tryz.func7, Tryz.ntmps7
  go_upto_region 1 with fail
  generalize (w.alloc (.cells #[.slice pa pn pc, .slice ra rn rc, .slice ta tn tc] 26)).alloc (.cells #[.slice none 0 0, .slice none 0 0, .slice none 0 0] 26) = W0 at *
  have hl3 : Hid (w.heap.size + 1 < W0.heap.size) := by unfold Hid; rw [hz]; omega
  clear hz
  have b0 := BX.out.cell 0 _ rfl
  have b1 := BX.out.cell 1 _ rfl
  have b2 := BX.out.cell 2 _ rfl
  go_wp2_with fail
  refine Calls.mono (rrgood_any W0 pa pn pc l HS.out ra rn rc r HI.out ta tn tc t HT.out) ?_
  rintro e w1 ⟨rfl, x1⟩
  replace BX := hide (BX.out.below (Nat.lt_of_succ_lt hl3.out) x1)
  replace BG := hide (BG.out.below hl3.out x1)
  replace hl3 : Hid (w.heap.size + 1 < w1.heap.size) := Nat.lt_of_lt_of_le hl3.out x1.size
  replace B1 := hide (chain B1.out x1)
  replace HS := hide (HS.out.below x1)
  replace HI := hide (HI.out.below x1)
  replace HT := hide (HT.out.below x1)
  clear x1 b0 b1 b2
  by_cases hg : Good l r t
  case neg =>
    rw [decide_eq_false hg]
    have HO : Hid (ofE (Good l r t) (OkP l p [2]) = 9 ∧ ownT (Good l r t ∧ (OkP l p [2])) (setAt l p (fun q => wokenP q x)) = [] ∧ ownT (Good l r t ∧ (OkP l p [2])) (r ++ [p]) = [] ∧ ownT (Good l r t ∧ (OkP l p [2])) (others t p) = []) := ⟨if_neg hg, if_neg (fun h => hg h.1), if_neg (fun h => hg h.1), if_neg (fun h => hg h.1)⟩
    clear hg
    have G1 := hide (bl_three BG.out (.slice none 0 0) (.slice none 0 0) (.slice none 0 0))
    have BF := hide (below3 (g := w.heap.size + 1) (.slice none 0 0) (.slice none 0 0) (.slice none 0 0) B1.out (by omega))
    have g0 := BG.out.cell 0 _ rfl
    have g1 := BG.out.cell 1 _ rfl
    have g2 := BG.out.cell 2 _ rfl
    have f0 := BG.out.free 0
    have f1 := BG.out.free 1
    have f2 := BG.out.free 2
    go_wp2
    generalize (((w1.setCell ⟨w.heap.size + 1, 0, none⟩ (.slice none 0 0)).setCell ⟨w.heap.size + 1, 1, none⟩ (.slice none 0 0)).setCell ⟨w.heap.size + 1, 2, none⟩ (.slice none 0 0)) = W9 at *
    have e0 := G1.out.cell 0 _ rfl
    have e1 := G1.out.cell 1 _ rfl
    have e2 := G1.out.cell 2 _ rfl
    (try simp only [Exit.inBlock, Exit.then])
    refine bodyPost_ret (v := .tuple #[.agg #[.slice none 0 0, .slice none 0 0, .slice none 0 0], .int .i64 9]) (by simp [results, Tryz.results7, go_sem, e0, e1, e2]) rfl ?_
    exact ⟨_, _, _, _, _, _, _, _, _, by rw [HO.out.1]; rfl, by rw [HO.out.2.1, HO.out.2.2.1, HO.out.2.2.2]; exact tab_nil _ _, BF.out⟩
  rw [decide_eq_true hg]
  have HGD := hide hg
  have HP8 : Hid (pn ≤ 8 ∧ rn ≤ 8 ∧ tn ≤ 8) := by
    have h1 := hg.1
    have h2 := goodR_few hg.2.2.1 hg.1
    have h3 := hg.tfew
    have := HL.out
    have := HLR.out
    have := HLT.out
    exact ⟨by omega, by omega, by omega⟩
  clear hg
  have b0 := BX.out.cell 0 _ rfl
  have b1 := BX.out.cell 1 _ rfl
  have b2 := BX.out.cell 2 _ rfl
  go_wp2_with fail
  refine Calls.mono (risIn_any w1 pa pn pc l HS.out ra rn rc ta tn tc p 2 (by have := HP8.out; omega)) ?_
  rintro e w2 ⟨rfl, x2⟩
  replace BX := hide (BX.out.below (Nat.lt_of_succ_lt hl3.out) x2)
  replace BG := hide (BG.out.below hl3.out x2)
  replace hl3 : Hid (w.heap.size + 1 < w2.heap.size) := Nat.lt_of_lt_of_le hl3.out x2.size
  replace B1 := hide (chain B1.out x2)
  replace HS := hide (HS.out.below x2)
  replace HI := hide (HI.out.below x2)
  replace HT := hide (HT.out.below x2)
  clear x2 b0 b1 b2
  obtain ⟨wc, hwc⟩ : ∃ x, x = w2 := ⟨_, rfl⟩
  subst hwc
  by_cases hx : OkP l p [2]
  case neg =>
    rw [decide_eq_false hx]
    have HO : Hid (ofE (Good l r t) (OkP l p [2]) = 12 ∧ ownT (Good l r t ∧ (OkP l p [2])) (setAt l p (fun q => wokenP q x)) = [] ∧ ownT (Good l r t ∧ (OkP l p [2])) (r ++ [p]) = [] ∧ ownT (Good l r t ∧ (OkP l p [2])) (others t p) = []) := ⟨ofE_bad HGD.out hx, if_neg (fun h => hx h.2), if_neg (fun h => hx h.2), if_neg (fun h => hx h.2)⟩
    clear hx
    have G1 := hide (bl_three BG.out (.slice none 0 0) (.slice none 0 0) (.slice none 0 0))
    have BF := hide (below3 (g := w.heap.size + 1) (.slice none 0 0) (.slice none 0 0) (.slice none 0 0) B1.out (by omega))
    have g0 := BG.out.cell 0 _ rfl
    have g1 := BG.out.cell 1 _ rfl
    have g2 := BG.out.cell 2 _ rfl
    have f0 := BG.out.free 0
    have f1 := BG.out.free 1
    have f2 := BG.out.free 2
    go_wp2
    generalize (((wc.setCell ⟨w.heap.size + 1, 0, none⟩ (.slice none 0 0)).setCell ⟨w.heap.size + 1, 1, none⟩ (.slice none 0 0)).setCell ⟨w.heap.size + 1, 2, none⟩ (.slice none 0 0)) = W9 at *
    have e0 := G1.out.cell 0 _ rfl
    have e1 := G1.out.cell 1 _ rfl
    have e2 := G1.out.cell 2 _ rfl
    (try simp only [Exit.inBlock, Exit.then])
    refine bodyPost_ret (v := .tuple #[.agg #[.slice none 0 0, .slice none 0 0, .slice none 0 0], .int .i64 12]) (by simp [results, Tryz.results7, go_sem, e0, e1, e2]) rfl ?_
    exact ⟨_, _, _, _, _, _, _, _, _, by rw [HO.out.1]; rfl, by rw [HO.out.2.1, HO.out.2.2.1, HO.out.2.2.2]; exact tab_nil _ _, BF.out⟩
  rw [decide_eq_true hx]
  have HO : Hid (ofE (Good l r t) (OkP l p [2]) = 0 ∧ ownT (Good l r t ∧ (OkP l p [2])) (setAt l p (fun q => wokenP q x)) = (setAt l p (fun q => wokenP q x)) ∧ ownT (Good l r t ∧ (OkP l p [2])) (r ++ [p]) = (r ++ [p]) ∧ ownT (Good l r t ∧ (OkP l p [2])) (others t p) = (others t p)) := ⟨ofE_ok HGD.out hx, if_pos ⟨HGD.out, hx⟩, if_pos ⟨HGD.out, hx⟩, if_pos ⟨HGD.out, hx⟩⟩
  obtain ⟨k, q, rfl, hkq, hst⟩ := okP_at hx
  have HKQ := hide hkq
  have HKL : Hid (k < l.length) := (List.getElem?_eq_some_iff.1 hkq).1
  clear hkq
  clear hx hst
  have y0 := BX.out.cell 0 _ rfl
  have y1 := BX.out.cell 1 _ rfl
  have y2 := BX.out.cell 2 _ rfl
  go_wp2_with fail
  refine Calls.mono (rwoken_any wc pa pn pc l HS.out ra rn rc r HI.out ta tn tc t HT.out (by have := HP8.out; omega) (by have := HP8.out; omega) (by have := HP8.out; omega) k q HKQ.out x) ?_
  rintro e w4 ⟨b1, m1, d1, b2, m2, d2, b3, m3, d3, rfl, htab, x4⟩
  have BGF := hide (BG.out.below hl3.out x4)
  have BW := hide (chain B1.out x4)
  have T1 := hide ((htab.three (g := w.heap.size + 1) hl3.out (.slice b1 m1 d1) (.slice b2 m2 d2) (.slice b3 m3 d3)).weaken B1.out.size)
  clear x4 htab y0 y1 y2
  have G1 := hide (bl_three BGF.out (.slice b1 m1 d1) (.slice b2 m2 d2) (.slice b3 m3 d3))
  have BF := hide (below3 (g := w.heap.size + 1) (.slice b1 m1 d1) (.slice b2 m2 d2) (.slice b3 m3 d3) BW.out (by omega))
  have g0 := BGF.out.cell 0 _ rfl
  have g1 := BGF.out.cell 1 _ rfl
  have g2 := BGF.out.cell 2 _ rfl
  have f0 := BGF.out.free 0
  have f1 := BGF.out.free 1
  have f2 := BGF.out.free 2
  go_wp2
  generalize (((w4.setCell ⟨w.heap.size + 1, 0, none⟩ (.slice b1 m1 d1)).setCell ⟨w.heap.size + 1, 1, none⟩ (.slice b2 m2 d2)).setCell ⟨w.heap.size + 1, 2, none⟩ (.slice b3 m3 d3)) = W9 at *
  have e0 := G1.out.cell 0 _ rfl
  have e1 := G1.out.cell 1 _ rfl
  have e2 := G1.out.cell 2 _ rfl
  (try simp only [Exit.inBlock, Exit.then])
  refine bodyPost_ret (v := .tuple #[.agg #[.slice b1 m1 d1, .slice b2 m2 d2, .slice b3 m3 d3], .int .i64 0]) (by simp [results, Tryz.results7, go_sem, e0, e1, e2]) rfl ?_
  exact ⟨_, _, _, _, _, _, _, _, _, by rw [HO.out.1]; rfl, by rw [HO.out.2.1, HO.out.2.2.1, HO.out.2.2.2, setAt_of HKQ.out]; exact T1.out, BF.out⟩
end Go.Proofs.YtgbckpojoagbnaaGreatDoor
namespace Go.Proofs.YtgbckpojoagbnaaGreatDoor
open Classical
open Go.RowKit
set_option linter.unusedVariables false
set_option linter.unusedSimpArgs false

set_option maxRecDepth 100000 in
set_option maxHeartbeats 4000000 in
theorem okP_mono {l : List Pro} {p : Int} {a b : List Int} (h : OkP l p a) (hs : ∀ x ∈ a, x ∈ b) : OkP l p b := ⟨h.1, h.2.1, hs _ h.2.2⟩
set_option maxRecDepth 100000 in
set_option maxHeartbeats 4000000 in
theorem rstart_any (w : World) (pa : Option Addr) (pn pc : Nat) (l : List Pro) (hp : Pros w pa pn pc l) (ra : Option Addr) (rn rc : Nat) (r : List Int) (hr : Is w ra rn rc r) (ta : Option Addr) (tn tc : Nat) (t : List Tm) (ht : Tms w ta tn tc t) (p x pr : Int) :
    Calls Tryz.prog 9 #[.agg #[.slice pa pn pc, .slice ra rn rc, .slice ta tn tc], .int .i64 p, .int .u32 x, .int .i64 pr] w fun e w' => ∃ a1 n1 c1 a2 n2 c2 a3 n3 c3, e = .returned (.tuple #[.agg #[.slice a1 n1 c1, .slice a2 n2 c2, .slice a3 n3 c3], .int .i64 (ofE (Good l r t) (OkP l p [0, 3] ∧ (0 ≤ pr ∧ pr ≤ 255)) : Int)]) ∧ Tab w' w.heap.size (.slice a1 n1 c1) (.slice a2 n2 c2) (.slice a3 n3 c3) (ownT (Good l r t ∧ (OkP l p [0, 3] ∧ (0 ≤ pr ∧ pr ≤ 255))) (setAt l p (fun _ => newP x pr))) (ownT (Good l r t ∧ (OkP l p [0, 3] ∧ (0 ≤ pr ∧ pr ≤ 255))) (r ++ [p])) (ownT (Good l r t ∧ (OkP l p [0, 3] ∧ (0 ≤ pr ∧ pr ≤ 255))) t) ∧ Below w.heap.size w w' := by
  have X1 := new_below w (.cells #[.slice pa pn pc, .slice ra rn rc, .slice ta tn tc] 26)
  have X2 := new_below (w.alloc (.cells #[.slice pa pn pc, .slice ra rn rc, .slice ta tn tc] 26)) (.cells #[.slice none 0 0, .slice none 0 0, .slice none 0 0] 26)
  have BX0 : Bl (w.alloc (.cells #[.slice pa pn pc, .slice ra rn rc, .slice ta tn tc] 26)) w.heap.size [.slice pa pn pc, .slice ra rn rc, .slice ta tn tc] := bl_alloc w #[.slice pa pn pc, .slice ra rn rc, .slice ta tn tc] 26
  have BX := hide (BX0.below (by simp) X2)
  have BG : Hid (Bl ((w.alloc (.cells #[.slice pa pn pc, .slice ra rn rc, .slice ta tn tc] 26)).alloc (.cells #[.slice none 0 0, .slice none 0 0, .slice none 0 0] 26)) (w.heap.size + 1) [.slice none 0 0, .slice none 0 0, .slice none 0 0]) := by
    have := bl_alloc (w.alloc (.cells #[.slice pa pn pc, .slice ra rn rc, .slice ta tn tc] 26)) #[.slice none 0 0, .slice none 0 0, .slice none 0 0] 26
    rw [show (w.alloc (.cells #[.slice pa pn pc, .slice ra rn rc, .slice ta tn tc] 26)).heap.size = w.heap.size + 1 by simp] at this
    exact this
  have B1 := hide (chain X1 X2)
  have hz : ((w.alloc (.cells #[.slice pa pn pc, .slice ra rn rc, .slice ta tn tc] 26)).alloc (.cells #[.slice none 0 0, .slice none 0 0, .slice none 0 0] 26)).heap.size = w.heap.size + 2 := by simp
  have HS := hide (hp.below B1.out)
  have HI := hide (hr.below B1.out)
  have HT := hide (ht.below B1.out)
  have HL : Hid (l.length = pn) := hp.size
  have HLR : Hid (r.length = rn) := hr.size
  have HLT : Hid (t.length = tn) := ht.size
  clear X1 X2 BX0 hp hr ht
  go_enter Tryz.func9, Tryz.ntmps9
  go_upto_region 1 with fail
  generalize (w.alloc (.cells #[.slice pa pn pc, .slice ra rn rc, .slice ta tn tc] 26)).alloc (.cells #[.slice none 0 0, .slice none 0 0, .slice none 0 0] 26) = W0 at *
  have hl3 : Hid (w.heap.size + 1 < W0.heap.size) := by unfold Hid; rw [hz]; omega
  clear hz
  have b0 := BX.out.cell 0 _ rfl
  have b1 := BX.out.cell 1 _ rfl
  have b2 := BX.out.cell 2 _ rfl
  go_wp2_with fail
  refine Calls.mono (rrgood_any W0 pa pn pc l HS.out ra rn rc r HI.out ta tn tc t HT.out) ?_
  rintro e w1 ⟨rfl, x1⟩
  replace BX := hide (BX.out.below (Nat.lt_of_succ_lt hl3.out) x1)
  replace BG := hide (BG.out.below hl3.out x1)
  replace hl3 : Hid (w.heap.size + 1 < w1.heap.size) := Nat.lt_of_lt_of_le hl3.out x1.size
  replace B1 := hide (chain B1.out x1)
  replace HS := hide (HS.out.below x1)
  replace HI := hide (HI.out.below x1)
  replace HT := hide (HT.out.below x1)
  clear x1 b0 b1 b2
  by_cases hg : Good l r t
  case neg =>
    rw [decide_eq_false hg]
    have HO : Hid (ofE (Good l r t) (OkP l p [0, 3] ∧ (0 ≤ pr ∧ pr ≤ 255)) = 9 ∧ ownT (Good l r t ∧ (OkP l p [0, 3] ∧ (0 ≤ pr ∧ pr ≤ 255))) (setAt l p (fun _ => newP x pr)) = [] ∧ ownT (Good l r t ∧ (OkP l p [0, 3] ∧ (0 ≤ pr ∧ pr ≤ 255))) (r ++ [p]) = [] ∧ ownT (Good l r t ∧ (OkP l p [0, 3] ∧ (0 ≤ pr ∧ pr ≤ 255))) t = []) := ⟨if_neg hg, if_neg (fun h => hg h.1), if_neg (fun h => hg h.1), if_neg (fun h => hg h.1)⟩
    clear hg
    have G1 := hide (bl_three BG.out (.slice none 0 0) (.slice none 0 0) (.slice none 0 0))
    have BF := hide (below3 (g := w.heap.size + 1) (.slice none 0 0) (.slice none 0 0) (.slice none 0 0) B1.out (by omega))
    have g0 := BG.out.cell 0 _ rfl
    have g1 := BG.out.cell 1 _ rfl
    have g2 := BG.out.cell 2 _ rfl
    have f0 := BG.out.free 0
    have f1 := BG.out.free 1
    have f2 := BG.out.free 2
    go_wp2
    generalize (((w1.setCell ⟨w.heap.size + 1, 0, none⟩ (.slice none 0 0)).setCell ⟨w.heap.size + 1, 1, none⟩ (.slice none 0 0)).setCell ⟨w.heap.size + 1, 2, none⟩ (.slice none 0 0)) = W9 at *
    have e0 := G1.out.cell 0 _ rfl
    have e1 := G1.out.cell 1 _ rfl
    have e2 := G1.out.cell 2 _ rfl
    (try simp only [Exit.inBlock, Exit.then])
    refine bodyPost_ret (v := .tuple #[.agg #[.slice none 0 0, .slice none 0 0, .slice none 0 0], .int .i64 9]) (by simp [results, Tryz.results9, go_sem, e0, e1, e2]) rfl ?_
    exact ⟨_, _, _, _, _, _, _, _, _, by rw [HO.out.1]; rfl, by rw [HO.out.2.1, HO.out.2.2.1, HO.out.2.2.2]; exact tab_nil _ _, BF.out⟩
  rw [decide_eq_true hg]
  have HGD := hide hg
  have HP8 : Hid (pn ≤ 8 ∧ rn ≤ 8 ∧ tn ≤ 8) := by
    have h1 := hg.1
    have h2 := goodR_few hg.2.2.1 hg.1
    have h3 := hg.tfew
    have := HL.out
    have := HLR.out
    have := HLT.out
    exact ⟨by omega, by omega, by omega⟩
  clear hg
  have b0 := BX.out.cell 0 _ rfl
  have b1 := BX.out.cell 1 _ rfl
  have b2 := BX.out.cell 2 _ rfl
  go_wp2_with fail
  refine Calls.mono (risIn_any w1 pa pn pc l HS.out ra rn rc ta tn tc p 0 (by have := HP8.out; omega)) ?_
  rintro e w2 ⟨rfl, x2⟩
  replace BX := hide (BX.out.below (Nat.lt_of_succ_lt hl3.out) x2)
  replace BG := hide (BG.out.below hl3.out x2)
  replace hl3 : Hid (w.heap.size + 1 < w2.heap.size) := Nat.lt_of_lt_of_le hl3.out x2.size
  replace B1 := hide (chain B1.out x2)
  replace HS := hide (HS.out.below x2)
  replace HI := hide (HI.out.below x2)
  replace HT := hide (HT.out.below x2)
  clear x2 b0 b1 b2
  by_cases h1 : OkP l p [0]
  · rw [decide_eq_true h1]
    have hOK : OkP l p [0, 3] := okP_mono h1 (by simp)
    clear h1
    obtain ⟨wc, hwc⟩ : ∃ x, x = w2 := ⟨_, rfl⟩
    subst hwc
    by_cases h2 : pr < 0
    · have d2 : decide (pr < 0) = true := decide_eq_true h2
      have hx : ¬ (OkP l p [0, 3] ∧ (0 ≤ pr ∧ pr ≤ 255)) := fun h => by have := h.2.1; omega
      clear h2 hOK
      have HO : Hid (ofE (Good l r t) (OkP l p [0, 3] ∧ (0 ≤ pr ∧ pr ≤ 255)) = 12 ∧ ownT (Good l r t ∧ (OkP l p [0, 3] ∧ (0 ≤ pr ∧ pr ≤ 255))) (setAt l p (fun _ => newP x pr)) = [] ∧ ownT (Good l r t ∧ (OkP l p [0, 3] ∧ (0 ≤ pr ∧ pr ≤ 255))) (r ++ [p]) = [] ∧ ownT (Good l r t ∧ (OkP l p [0, 3] ∧ (0 ≤ pr ∧ pr ≤ 255))) t = []) := ⟨ofE_bad HGD.out hx, if_neg (fun h => hx h.2), if_neg (fun h => hx h.2), if_neg (fun h => hx h.2)⟩
      clear hx
      have G1 := hide (bl_three BG.out (.slice none 0 0) (.slice none 0 0) (.slice none 0 0))
      have BF := hide (below3 (g := w.heap.size + 1) (.slice none 0 0) (.slice none 0 0) (.slice none 0 0) B1.out (by omega))
      have g0 := BG.out.cell 0 _ rfl
      have g1 := BG.out.cell 1 _ rfl
      have g2 := BG.out.cell 2 _ rfl
      have f0 := BG.out.free 0
      have f1 := BG.out.free 1
      have f2 := BG.out.free 2
      go_wp2
      generalize (((wc.setCell ⟨w.heap.size + 1, 0, none⟩ (.slice none 0 0)).setCell ⟨w.heap.size + 1, 1, none⟩ (.slice none 0 0)).setCell ⟨w.heap.size + 1, 2, none⟩ (.slice none 0 0)) = W9 at *
      have e0 := G1.out.cell 0 _ rfl
      have e1 := G1.out.cell 1 _ rfl
      have e2 := G1.out.cell 2 _ rfl
      (try simp only [Exit.inBlock, Exit.then])
      refine bodyPost_ret (v := .tuple #[.agg #[.slice none 0 0, .slice none 0 0, .slice none 0 0], .int .i64 12]) (by simp [results, Tryz.results9, go_sem, e0, e1, e2]) rfl ?_
      exact ⟨_, _, _, _, _, _, _, _, _, by rw [HO.out.1]; rfl, by rw [HO.out.2.1, HO.out.2.2.1, HO.out.2.2.2]; exact tab_nil _ _, BF.out⟩
    have d2 : decide (pr < 0) = false := decide_eq_false h2
    by_cases h3 : 255 < pr
    · have d3 : decide (255 < pr) = true := decide_eq_true h3
      have hx : ¬ (OkP l p [0, 3] ∧ (0 ≤ pr ∧ pr ≤ 255)) := fun h => by have := h.2.2; omega
      clear h2 h3 hOK
      have HO : Hid (ofE (Good l r t) (OkP l p [0, 3] ∧ (0 ≤ pr ∧ pr ≤ 255)) = 12 ∧ ownT (Good l r t ∧ (OkP l p [0, 3] ∧ (0 ≤ pr ∧ pr ≤ 255))) (setAt l p (fun _ => newP x pr)) = [] ∧ ownT (Good l r t ∧ (OkP l p [0, 3] ∧ (0 ≤ pr ∧ pr ≤ 255))) (r ++ [p]) = [] ∧ ownT (Good l r t ∧ (OkP l p [0, 3] ∧ (0 ≤ pr ∧ pr ≤ 255))) t = []) := ⟨ofE_bad HGD.out hx, if_neg (fun h => hx h.2), if_neg (fun h => hx h.2), if_neg (fun h => hx h.2)⟩
      clear hx
      have G1 := hide (bl_three BG.out (.slice none 0 0) (.slice none 0 0) (.slice none 0 0))
      have BF := hide (below3 (g := w.heap.size + 1) (.slice none 0 0) (.slice none 0 0) (.slice none 0 0) B1.out (by omega))
      have g0 := BG.out.cell 0 _ rfl
      have g1 := BG.out.cell 1 _ rfl
      have g2 := BG.out.cell 2 _ rfl
      have f0 := BG.out.free 0
      have f1 := BG.out.free 1
      have f2 := BG.out.free 2
      go_wp2
      generalize (((wc.setCell ⟨w.heap.size + 1, 0, none⟩ (.slice none 0 0)).setCell ⟨w.heap.size + 1, 1, none⟩ (.slice none 0 0)).setCell ⟨w.heap.size + 1, 2, none⟩ (.slice none 0 0)) = W9 at *
      have e0 := G1.out.cell 0 _ rfl
      have e1 := G1.out.cell 1 _ rfl
      have e2 := G1.out.cell 2 _ rfl
      (try simp only [Exit.inBlock, Exit.then])
      refine bodyPost_ret (v := .tuple #[.agg #[.slice none 0 0, .slice none 0 0, .slice none 0 0], .int .i64 12]) (by simp [results, Tryz.results9, go_sem, e0, e1, e2]) rfl ?_
      exact ⟨_, _, _, _, _, _, _, _, _, by rw [HO.out.1]; rfl, by rw [HO.out.2.1, HO.out.2.2.1, HO.out.2.2.2]; exact tab_nil _ _, BF.out⟩
    have d3 : decide (255 < pr) = false := decide_eq_false h3
    have hx : (OkP l p [0, 3] ∧ (0 ≤ pr ∧ pr ≤ 255)) := ⟨hOK, by omega, by omega⟩
    clear h2 h3 hOK
    have HO : Hid (ofE (Good l r t) (OkP l p [0, 3] ∧ (0 ≤ pr ∧ pr ≤ 255)) = 0 ∧ ownT (Good l r t ∧ (OkP l p [0, 3] ∧ (0 ≤ pr ∧ pr ≤ 255))) (setAt l p (fun _ => newP x pr)) = (setAt l p (fun _ => newP x pr)) ∧ ownT (Good l r t ∧ (OkP l p [0, 3] ∧ (0 ≤ pr ∧ pr ≤ 255))) (r ++ [p]) = (r ++ [p]) ∧ ownT (Good l r t ∧ (OkP l p [0, 3] ∧ (0 ≤ pr ∧ pr ≤ 255))) t = t) := ⟨ofE_ok HGD.out hx, if_pos ⟨HGD.out, hx⟩, if_pos ⟨HGD.out, hx⟩, if_pos ⟨HGD.out, hx⟩⟩
    obtain ⟨k, q, rfl, hkq, hst⟩ := okP_at hx.1
    have HKQ := hide hkq
    have HKL : Hid (k < l.length) := (List.getElem?_eq_some_iff.1 hkq).1
    clear hkq
    clear hx hst
    have b0 := BX.out.cell 0 _ rfl
    have b1 := BX.out.cell 1 _ rfl
    have b2 := BX.out.cell 2 _ rfl
    go_wp2_with fail
    refine Calls.mono (rcopied_any wc pa pn pc l HS.out ra rn rc r HI.out ta tn tc t HT.out (by have := HP8.out; omega) (by have := HP8.out; omega) (by have := HP8.out; omega)) ?_
    rintro e w3 ⟨a1, c1, a2, c2, a3, c3, rfl, htab, x3⟩
    have X3 := new_below w3 (.cells #[.slice a1 l.length c1, .slice a2 r.length c2, .slice a3 t.length c3] 26)
    have Y0 := hide (chain x3 X3)
    have M0 := hide (mine_new htab x3.size 26)
    obtain ⟨g, rfl⟩ : ∃ g, a1 = some ⟨g, 0, none⟩ := by
      rcases htab.p.2 with ⟨e1, e2⟩ | ⟨g, cap, cur, e1, _⟩
      · have := HKL.out
        omega
      · simp only [Value.slice.injEq] at e1
        exact ⟨g, e1.1⟩
    have HGB : Hid (wc.heap.size ≤ g) := (htab.p.lt g rfl).1
    clear X3 x3 htab b0 b1 b2
    go_upto_region 6 with fail
    generalize w3.alloc (.cells #[.slice (some ⟨g, 0, none⟩) l.length c1, .slice a2 r.length c2, .slice a3 t.length c3] 26) = V0 at *
    generalize w3.heap.size = mb at *
    have hk1 : (k : Int) < (l.length : Int) := by have := HKL.out; omega
    have hk0 : (0 : Int) ≤ (k : Int) := by omega
    have m0 := M0.out.bl.cell 0 _ rfl
    have hth : Hid (V0.there g (k * 21) (newP x pr).cells.toArray.size) := fun j hj => by
      have hj' : j < 21 := hj
      have h0 : j < q.cells.length := by rw [pro21]; exact hj'
      exact ⟨by rw [own_cellB M0.out.tab.p HKQ.out hj' (List.getElem?_eq_getElem h0)]; rfl, own_freeB M0.out.tab.p _⟩
    go_upto_region 7 with (refine wpList_store_mid rfl 59 (.tmp 42) (.tmp 41) rfl g (k * 21) (newP x pr).cells.toArray rfl rfl hth.out sizeProc (pro_all _) ?_)
    (try simp only [List.toList_toArray])
    have M1 := hide (M0.out.putRow HKL.out (newP x pr))
    have Y1 := hide (below_cells HGB.out (newP x pr).cells (k * 21) V0 Y0.out)
    clear m0 hth
    generalize V0.setCells g (k * 21) (newP x pr).cells = V1 at *
    have HJ := hide infoInt
    have b1 := M1.out.bl.cell 1 _ rfl
    have X4 := new_below V1 (.cells #[.int .i64 (k : Int)] 3)
    have HM := hide (M1.out.below X4)
    have hbase : Hid (wc.heap.size ≤ V1.heap.size) := Y1.out.size
    have Y5 := hide (Y1.out.trans (X4.mono hbase.out))
    clear X4
    go_upto_region 8 with (at_builtin; refine append_rec rfl (.tmp 44) (.tmp 46) 23 3 rfl Tryz.underlying23 HJ.out (by decide) wc.heap.size _ _ _ rfl HM.out.tab.r V1.heap.size 1 (ci (k : Int)) rfl rfl (fun i u hu => by rw [World.cell?_alloc_at _ _ _ _ (by simp)]; simpa [ci] using hu) (fun u hu => ci_one [(k : Int)] u (by simpa using hu)) (by have := HLR.out; have := HP8.out; unfold maxLen; omega) (by have := HLR.out; have := HP8.out; omega) (by have := hbase.out; simp; omega) ?_; intro g7 c7 w7 ho7 hg7 hat7 hlt7; have hg8 : (V1.alloc (.cells #[.int .i64 (k : Int)] 3)).grownBy w7 (Value.slice a2 r.length c2).ownBlock := hg7; have hat8 : (Value.slice a2 r.length c2).ownBlock = some g7 ∨ g7 = (V1.alloc (.cells #[.int .i64 (k : Int)] 3)).heap.size := hat7; have ho8 : IOwn w7 wc.heap.size (.slice (some ⟨g7, 0, none⟩) (r.length + 1) c7) (r ++ [(k : Int)]) := (by unfold IOwn; rw [List.length_append, List.flatMap_append]; exact ho7); have GB := HM.out.bl.grown HM.out.lt hg8 (fun e => HM.out.f2 e.symm); have g1 := GB.cell 1 _ rfl; have f1 := GB.free 1; have HR := hide (HM.out.ready hg8 ho8 (hat8.elim (fun e => .inl e.symm) (fun e => .inr (congrArg some e)))); clear ho7 hg7 hat7 GB hg8 hat8 ho8)
    clear g1 f1 b1
    have Y2 := hide (Y5.out.trans HR.out.2)
    have M2 := hide HR.out.1
    clear HR HM Y5
    generalize w7.setCell ⟨mb, 1, none⟩ (.slice (some ⟨g7, 0, none⟩) (r.length + 1) c7) = V2 at *
    have BGF := hide (BG.out.below hl3.out Y2.out)
    have BW := hide (B1.out.trans (Y2.out.mono B1.out.size))
    have T1 := hide ((M2.out.tab.three (g := w.heap.size + 1) hl3.out (.slice (some ⟨g, 0, none⟩) l.length c1) (.slice (some ⟨g7, 0, none⟩) (r.length + 1) c7) (.slice a3 t.length c3)).weaken B1.out.size)
    have m0 := M2.out.bl.cell 0 _ rfl
    have m1 := M2.out.bl.cell 1 _ rfl
    have m2 := M2.out.bl.cell 2 _ rfl
    have G1 := hide (bl_three BGF.out (.slice (some ⟨g, 0, none⟩) l.length c1) (.slice (some ⟨g7, 0, none⟩) (r.length + 1) c7) (.slice a3 t.length c3))
    have BF := hide (below3 (g := w.heap.size + 1) (.slice (some ⟨g, 0, none⟩) l.length c1) (.slice (some ⟨g7, 0, none⟩) (r.length + 1) c7) (.slice a3 t.length c3) BW.out (by omega))
    have g0 := BGF.out.cell 0 _ rfl
    have g1 := BGF.out.cell 1 _ rfl
    have g2 := BGF.out.cell 2 _ rfl
    have f0 := BGF.out.free 0
    have f1 := BGF.out.free 1
    have f2 := BGF.out.free 2
    go_wp2
    generalize (((V2.setCell ⟨w.heap.size + 1, 0, none⟩ (.slice (some ⟨g, 0, none⟩) l.length c1)).setCell ⟨w.heap.size + 1, 1, none⟩ (.slice (some ⟨g7, 0, none⟩) (r.length + 1) c7)).setCell ⟨w.heap.size + 1, 2, none⟩ (.slice a3 t.length c3)) = W9 at *
    have e0 := G1.out.cell 0 _ rfl
    have e1 := G1.out.cell 1 _ rfl
    have e2 := G1.out.cell 2 _ rfl
    (try simp only [Exit.inBlock, Exit.then])
    refine bodyPost_ret (v := .tuple #[.agg #[.slice (some ⟨g, 0, none⟩) l.length c1, .slice (some ⟨g7, 0, none⟩) (r.length + 1) c7, .slice a3 t.length c3], .int .i64 0]) (by simp [results, Tryz.results9, go_sem, e0, e1, e2]) rfl ?_
    exact ⟨_, _, _, _, _, _, _, _, _, by rw [HO.out.1]; rfl, by rw [HO.out.2.1, HO.out.2.2.1, HO.out.2.2.2, setAt_of HKQ.out]; exact T1.out, BF.out⟩
  rw [decide_eq_false h1]
  have b0 := BX.out.cell 0 _ rfl
  have b1 := BX.out.cell 1 _ rfl
  have b2 := BX.out.cell 2 _ rfl
  go_wp2_with fail
  refine Calls.mono (risIn_any w2 pa pn pc l HS.out ra rn rc ta tn tc p 3 (by have := HP8.out; omega)) ?_
  rintro e w3b ⟨rfl, x2⟩
  replace BX := hide (BX.out.below (Nat.lt_of_succ_lt hl3.out) x2)
  replace BG := hide (BG.out.below hl3.out x2)
  replace hl3 : Hid (w.heap.size + 1 < w3b.heap.size) := Nat.lt_of_lt_of_le hl3.out x2.size
  replace B1 := hide (chain B1.out x2)
  replace HS := hide (HS.out.below x2)
  replace HI := hide (HI.out.below x2)
  replace HT := hide (HT.out.below x2)
  clear x2 b0 b1 b2
  obtain ⟨wc, hwc⟩ : ∃ x, x = w3b := ⟨_, rfl⟩
  subst hwc
  by_cases h4 : OkP l p [3]
  case neg =>
    rw [decide_eq_false h4]
    have hx : ¬ (OkP l p [0, 3] ∧ (0 ≤ pr ∧ pr ≤ 255)) := fun h => by
      have h5 := h.1.2.2
      simp only [List.mem_cons, List.not_mem_nil, or_false] at h5
      rcases h5 with h5 | h5
      · exact h1 ⟨h.1.1, h.1.2.1, by simp [h5]⟩
      · exact h4 ⟨h.1.1, h.1.2.1, by simp [h5]⟩
    clear h1 h4
    have HO : Hid (ofE (Good l r t) (OkP l p [0, 3] ∧ (0 ≤ pr ∧ pr ≤ 255)) = 12 ∧ ownT (Good l r t ∧ (OkP l p [0, 3] ∧ (0 ≤ pr ∧ pr ≤ 255))) (setAt l p (fun _ => newP x pr)) = [] ∧ ownT (Good l r t ∧ (OkP l p [0, 3] ∧ (0 ≤ pr ∧ pr ≤ 255))) (r ++ [p]) = [] ∧ ownT (Good l r t ∧ (OkP l p [0, 3] ∧ (0 ≤ pr ∧ pr ≤ 255))) t = []) := ⟨ofE_bad HGD.out hx, if_neg (fun h => hx h.2), if_neg (fun h => hx h.2), if_neg (fun h => hx h.2)⟩
    clear hx
    have G1 := hide (bl_three BG.out (.slice none 0 0) (.slice none 0 0) (.slice none 0 0))
    have BF := hide (below3 (g := w.heap.size + 1) (.slice none 0 0) (.slice none 0 0) (.slice none 0 0) B1.out (by omega))
    have g0 := BG.out.cell 0 _ rfl
    have g1 := BG.out.cell 1 _ rfl
    have g2 := BG.out.cell 2 _ rfl
    have f0 := BG.out.free 0
    have f1 := BG.out.free 1
    have f2 := BG.out.free 2
    go_wp2
    generalize (((wc.setCell ⟨w.heap.size + 1, 0, none⟩ (.slice none 0 0)).setCell ⟨w.heap.size + 1, 1, none⟩ (.slice none 0 0)).setCell ⟨w.heap.size + 1, 2, none⟩ (.slice none 0 0)) = W9 at *
    have e0 := G1.out.cell 0 _ rfl
    have e1 := G1.out.cell 1 _ rfl
    have e2 := G1.out.cell 2 _ rfl
    (try simp only [Exit.inBlock, Exit.then])
    refine bodyPost_ret (v := .tuple #[.agg #[.slice none 0 0, .slice none 0 0, .slice none 0 0], .int .i64 12]) (by simp [results, Tryz.results9, go_sem, e0, e1, e2]) rfl ?_
    exact ⟨_, _, _, _, _, _, _, _, _, by rw [HO.out.1]; rfl, by rw [HO.out.2.1, HO.out.2.2.1, HO.out.2.2.2]; exact tab_nil _ _, BF.out⟩
  rw [decide_eq_true h4]
  have hOK : OkP l p [0, 3] := okP_mono h4 (by simp)
  clear h1 h4
  by_cases h2 : pr < 0
  · have d2 : decide (pr < 0) = true := decide_eq_true h2
    have hx : ¬ (OkP l p [0, 3] ∧ (0 ≤ pr ∧ pr ≤ 255)) := fun h => by have := h.2.1; omega
    clear h2 hOK
    have HO : Hid (ofE (Good l r t) (OkP l p [0, 3] ∧ (0 ≤ pr ∧ pr ≤ 255)) = 12 ∧ ownT (Good l r t ∧ (OkP l p [0, 3] ∧ (0 ≤ pr ∧ pr ≤ 255))) (setAt l p (fun _ => newP x pr)) = [] ∧ ownT (Good l r t ∧ (OkP l p [0, 3] ∧ (0 ≤ pr ∧ pr ≤ 255))) (r ++ [p]) = [] ∧ ownT (Good l r t ∧ (OkP l p [0, 3] ∧ (0 ≤ pr ∧ pr ≤ 255))) t = []) := ⟨ofE_bad HGD.out hx, if_neg (fun h => hx h.2), if_neg (fun h => hx h.2), if_neg (fun h => hx h.2)⟩
    clear hx
    have G1 := hide (bl_three BG.out (.slice none 0 0) (.slice none 0 0) (.slice none 0 0))
    have BF := hide (below3 (g := w.heap.size + 1) (.slice none 0 0) (.slice none 0 0) (.slice none 0 0) B1.out (by omega))
    have g0 := BG.out.cell 0 _ rfl
    have g1 := BG.out.cell 1 _ rfl
    have g2 := BG.out.cell 2 _ rfl
    have f0 := BG.out.free 0
    have f1 := BG.out.free 1
    have f2 := BG.out.free 2
    go_wp2
    generalize (((wc.setCell ⟨w.heap.size + 1, 0, none⟩ (.slice none 0 0)).setCell ⟨w.heap.size + 1, 1, none⟩ (.slice none 0 0)).setCell ⟨w.heap.size + 1, 2, none⟩ (.slice none 0 0)) = W9 at *
    have e0 := G1.out.cell 0 _ rfl
    have e1 := G1.out.cell 1 _ rfl
    have e2 := G1.out.cell 2 _ rfl
    (try simp only [Exit.inBlock, Exit.then])
    refine bodyPost_ret (v := .tuple #[.agg #[.slice none 0 0, .slice none 0 0, .slice none 0 0], .int .i64 12]) (by simp [results, Tryz.results9, go_sem, e0, e1, e2]) rfl ?_
    exact ⟨_, _, _, _, _, _, _, _, _, by rw [HO.out.1]; rfl, by rw [HO.out.2.1, HO.out.2.2.1, HO.out.2.2.2]; exact tab_nil _ _, BF.out⟩
  have d2 : decide (pr < 0) = false := decide_eq_false h2
  by_cases h3 : 255 < pr
  · have d3 : decide (255 < pr) = true := decide_eq_true h3
    have hx : ¬ (OkP l p [0, 3] ∧ (0 ≤ pr ∧ pr ≤ 255)) := fun h => by have := h.2.2; omega
    clear h2 h3 hOK
    have HO : Hid (ofE (Good l r t) (OkP l p [0, 3] ∧ (0 ≤ pr ∧ pr ≤ 255)) = 12 ∧ ownT (Good l r t ∧ (OkP l p [0, 3] ∧ (0 ≤ pr ∧ pr ≤ 255))) (setAt l p (fun _ => newP x pr)) = [] ∧ ownT (Good l r t ∧ (OkP l p [0, 3] ∧ (0 ≤ pr ∧ pr ≤ 255))) (r ++ [p]) = [] ∧ ownT (Good l r t ∧ (OkP l p [0, 3] ∧ (0 ≤ pr ∧ pr ≤ 255))) t = []) := ⟨ofE_bad HGD.out hx, if_neg (fun h => hx h.2), if_neg (fun h => hx h.2), if_neg (fun h => hx h.2)⟩
    clear hx
    have G1 := hide (bl_three BG.out (.slice none 0 0) (.slice none 0 0) (.slice none 0 0))
    have BF := hide (below3 (g := w.heap.size + 1) (.slice none 0 0) (.slice none 0 0) (.slice none 0 0) B1.out (by omega))
    have g0 := BG.out.cell 0 _ rfl
    have g1 := BG.out.cell 1 _ rfl
    have g2 := BG.out.cell 2 _ rfl
    have f0 := BG.out.free 0
    have f1 := BG.out.free 1
    have f2 := BG.out.free 2
    go_wp2
    generalize (((wc.setCell ⟨w.heap.size + 1, 0, none⟩ (.slice none 0 0)).setCell ⟨w.heap.size + 1, 1, none⟩ (.slice none 0 0)).setCell ⟨w.heap.size + 1, 2, none⟩ (.slice none 0 0)) = W9 at *
    have e0 := G1.out.cell 0 _ rfl
    have e1 := G1.out.cell 1 _ rfl
    have e2 := G1.out.cell 2 _ rfl
    (try simp only [Exit.inBlock, Exit.then])
    refine bodyPost_ret (v := .tuple #[.agg #[.slice none 0 0, .slice none 0 0, .slice none 0 0], .int .i64 12]) (by simp [results, Tryz.results9, go_sem, e0, e1, e2]) rfl ?_
    exact ⟨_, _, _, _, _, _, _, _, _, by rw [HO.out.1]; rfl, by rw [HO.out.2.1, HO.out.2.2.1, HO.out.2.2.2]; exact tab_nil _ _, BF.out⟩
  have d3 : decide (255 < pr) = false := decide_eq_false h3
  have hx : (OkP l p [0, 3] ∧ (0 ≤ pr ∧ pr ≤ 255)) := ⟨hOK, by omega, by omega⟩
  clear h2 h3 hOK
  have HO : Hid (ofE (Good l r t) (OkP l p [0, 3] ∧ (0 ≤ pr ∧ pr ≤ 255)) = 0 ∧ ownT (Good l r t ∧ (OkP l p [0, 3] ∧ (0 ≤ pr ∧ pr ≤ 255))) (setAt l p (fun _ => newP x pr)) = (setAt l p (fun _ => newP x pr)) ∧ ownT (Good l r t ∧ (OkP l p [0, 3] ∧ (0 ≤ pr ∧ pr ≤ 255))) (r ++ [p]) = (r ++ [p]) ∧ ownT (Good l r t ∧ (OkP l p [0, 3] ∧ (0 ≤ pr ∧ pr ≤ 255))) t = t) := ⟨ofE_ok HGD.out hx, if_pos ⟨HGD.out, hx⟩, if_pos ⟨HGD.out, hx⟩, if_pos ⟨HGD.out, hx⟩⟩
  obtain ⟨k, q, rfl, hkq, hst⟩ := okP_at hx.1
  have HKQ := hide hkq
  have HKL : Hid (k < l.length) := (List.getElem?_eq_some_iff.1 hkq).1
  clear hkq
  clear hx hst
  have b0 := BX.out.cell 0 _ rfl
  have b1 := BX.out.cell 1 _ rfl
  have b2 := BX.out.cell 2 _ rfl
  go_wp2_with fail
  refine Calls.mono (rcopied_any wc pa pn pc l HS.out ra rn rc r HI.out ta tn tc t HT.out (by have := HP8.out; omega) (by have := HP8.out; omega) (by have := HP8.out; omega)) ?_
  rintro e w3 ⟨a1, c1, a2, c2, a3, c3, rfl, htab, x3⟩
  have X3 := new_below w3 (.cells #[.slice a1 l.length c1, .slice a2 r.length c2, .slice a3 t.length c3] 26)
  have Y0 := hide (chain x3 X3)
  have M0 := hide (mine_new htab x3.size 26)
  obtain ⟨g, rfl⟩ : ∃ g, a1 = some ⟨g, 0, none⟩ := by
    rcases htab.p.2 with ⟨e1, e2⟩ | ⟨g, cap, cur, e1, _⟩
    · have := HKL.out
      omega
    · simp only [Value.slice.injEq] at e1
      exact ⟨g, e1.1⟩
  have HGB : Hid (wc.heap.size ≤ g) := (htab.p.lt g rfl).1
  clear X3 x3 htab b0 b1 b2
  go_upto_region 6 with fail
  generalize w3.alloc (.cells #[.slice (some ⟨g, 0, none⟩) l.length c1, .slice a2 r.length c2, .slice a3 t.length c3] 26) = V0 at *
  generalize w3.heap.size = mb at *
  have hk1 : (k : Int) < (l.length : Int) := by have := HKL.out; omega
  have hk0 : (0 : Int) ≤ (k : Int) := by omega
  have m0 := M0.out.bl.cell 0 _ rfl
  have hth : Hid (V0.there g (k * 21) (newP x pr).cells.toArray.size) := fun j hj => by
    have hj' : j < 21 := hj
    have h0 : j < q.cells.length := by rw [pro21]; exact hj'
    exact ⟨by rw [own_cellB M0.out.tab.p HKQ.out hj' (List.getElem?_eq_getElem h0)]; rfl, own_freeB M0.out.tab.p _⟩
  go_upto_region 7 with (refine wpList_store_mid rfl 59 (.tmp 42) (.tmp 41) rfl g (k * 21) (newP x pr).cells.toArray rfl rfl hth.out sizeProc (pro_all _) ?_)
  (try simp only [List.toList_toArray])
  have M1 := hide (M0.out.putRow HKL.out (newP x pr))
  have Y1 := hide (below_cells HGB.out (newP x pr).cells (k * 21) V0 Y0.out)
  clear m0 hth
  generalize V0.setCells g (k * 21) (newP x pr).cells = V1 at *
  have HJ := hide infoInt
  have b1 := M1.out.bl.cell 1 _ rfl
  have X4 := new_below V1 (.cells #[.int .i64 (k : Int)] 3)
  have HM := hide (M1.out.below X4)
  have hbase : Hid (wc.heap.size ≤ V1.heap.size) := Y1.out.size
  have Y5 := hide (Y1.out.trans (X4.mono hbase.out))
  clear X4
  go_upto_region 8 with (at_builtin; refine append_rec rfl (.tmp 44) (.tmp 46) 23 3 rfl Tryz.underlying23 HJ.out (by decide) wc.heap.size _ _ _ rfl HM.out.tab.r V1.heap.size 1 (ci (k : Int)) rfl rfl (fun i u hu => by rw [World.cell?_alloc_at _ _ _ _ (by simp)]; simpa [ci] using hu) (fun u hu => ci_one [(k : Int)] u (by simpa using hu)) (by have := HLR.out; have := HP8.out; unfold maxLen; omega) (by have := HLR.out; have := HP8.out; omega) (by have := hbase.out; simp; omega) ?_; intro g7 c7 w7 ho7 hg7 hat7 hlt7; have hg8 : (V1.alloc (.cells #[.int .i64 (k : Int)] 3)).grownBy w7 (Value.slice a2 r.length c2).ownBlock := hg7; have hat8 : (Value.slice a2 r.length c2).ownBlock = some g7 ∨ g7 = (V1.alloc (.cells #[.int .i64 (k : Int)] 3)).heap.size := hat7; have ho8 : IOwn w7 wc.heap.size (.slice (some ⟨g7, 0, none⟩) (r.length + 1) c7) (r ++ [(k : Int)]) := (by unfold IOwn; rw [List.length_append, List.flatMap_append]; exact ho7); have GB := HM.out.bl.grown HM.out.lt hg8 (fun e => HM.out.f2 e.symm); have g1 := GB.cell 1 _ rfl; have f1 := GB.free 1; have HR := hide (HM.out.ready hg8 ho8 (hat8.elim (fun e => .inl e.symm) (fun e => .inr (congrArg some e)))); clear ho7 hg7 hat7 GB hg8 hat8 ho8)
  clear g1 f1 b1
  have Y2 := hide (Y5.out.trans HR.out.2)
  have M2 := hide HR.out.1
  clear HR HM Y5
  generalize w7.setCell ⟨mb, 1, none⟩ (.slice (some ⟨g7, 0, none⟩) (r.length + 1) c7) = V2 at *
  have BGF := hide (BG.out.below hl3.out Y2.out)
  have BW := hide (B1.out.trans (Y2.out.mono B1.out.size))
  have T1 := hide ((M2.out.tab.three (g := w.heap.size + 1) hl3.out (.slice (some ⟨g, 0, none⟩) l.length c1) (.slice (some ⟨g7, 0, none⟩) (r.length + 1) c7) (.slice a3 t.length c3)).weaken B1.out.size)
  have m0 := M2.out.bl.cell 0 _ rfl
  have m1 := M2.out.bl.cell 1 _ rfl
  have m2 := M2.out.bl.cell 2 _ rfl
  have G1 := hide (bl_three BGF.out (.slice (some ⟨g, 0, none⟩) l.length c1) (.slice (some ⟨g7, 0, none⟩) (r.length + 1) c7) (.slice a3 t.length c3))
  have BF := hide (below3 (g := w.heap.size + 1) (.slice (some ⟨g, 0, none⟩) l.length c1) (.slice (some ⟨g7, 0, none⟩) (r.length + 1) c7) (.slice a3 t.length c3) BW.out (by omega))
  have g0 := BGF.out.cell 0 _ rfl
  have g1 := BGF.out.cell 1 _ rfl
  have g2 := BGF.out.cell 2 _ rfl
  have f0 := BGF.out.free 0
  have f1 := BGF.out.free 1
  have f2 := BGF.out.free 2
  go_wp2
  generalize (((V2.setCell ⟨w.heap.size + 1, 0, none⟩ (.slice (some ⟨g, 0, none⟩) l.length c1)).setCell ⟨w.heap.size + 1, 1, none⟩ (.slice (some ⟨g7, 0, none⟩) (r.length + 1) c7)).setCell ⟨w.heap.size + 1, 2, none⟩ (.slice a3 t.length c3)) = W9 at *
  have e0 := G1.out.cell 0 _ rfl
  have e1 := G1.out.cell 1 _ rfl
  have e2 := G1.out.cell 2 _ rfl
  (try simp only [Exit.inBlock, Exit.then])
  refine bodyPost_ret (v := .tuple #[.agg #[.slice (some ⟨g, 0, none⟩) l.length c1, .slice (some ⟨g7, 0, none⟩) (r.length + 1) c7, .slice a3 t.length c3], .int .i64 0]) (by simp [results, Tryz.results9, go_sem, e0, e1, e2]) rfl ?_
  exact ⟨_, _, _, _, _, _, _, _, _, by rw [HO.out.1]; rfl, by rw [HO.out.2.1, HO.out.2.2.1, HO.out.2.2.2, setAt_of HKQ.out]; exact T1.out, BF.out⟩
end Go.Proofs.YtgbckpojoagbnaaGreatDoor
