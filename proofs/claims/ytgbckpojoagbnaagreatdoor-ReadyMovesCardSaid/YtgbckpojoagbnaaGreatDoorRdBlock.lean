/-
  The document's Block.
-/
import Derived.Test.YtgbckpojoagbnaaGreatDoorRdBase
import Derived.Test.YtgbckpojoagbnaaGreatDoorRbWait
namespace Go.Proofs.YtgbckpojoagbnaaGreatDoor
open Classical
open Go.RowKit
set_option linter.unusedVariables false
set_option linter.unusedSimpArgs false

set_option maxRecDepth 100000 in
set_option maxHeartbeats 4000000 in
/-- A timer that goes into its place, under way: behind j of the others. -/
structure Ins (x : Tm) (t : List Tm) (j : Nat) (dn : Bool) (acc : List Tm) : Prop where
  no0 : dn = false → acc = t.take j ∧ ∀ y ∈ t.take j, x.lt y = false
  yes0 : dn = true → acc.Perm (x :: t.take j) ∧ Ord (acc ++ t.drop j)
theorem ins_zero (x : Tm) (t : List Tm) : Ins x t 0 false [] := ⟨fun _ => ⟨rfl, fun y hy => by simp at hy⟩, fun e => by simp at e⟩
theorem Ins.len {x : Tm} {t : List Tm} {j : Nat} {dn : Bool} {acc : List Tm} (h : Ins x t j dn acc) : acc.length ≤ t.length + 1 := by
  cases dn with
  | false => rw [(h.no0 rfl).1, List.length_take]; omega
  | true => rw [(h.yes0 rfl).1.length_eq, List.length_cons, List.length_take]; omega
theorem Ins.no {x : Tm} {t : List Tm} {j : Nat} {acc : List Tm} (h : Ins x t j false acc) {y : Tm} (hy : t[j]? = some y) (hl : x.lt y = false) : Ins x t (j + 1) false (acc ++ [y]) :=
  ⟨fun _ => by
    rw [take_snoc hy]
    refine ⟨by rw [(h.no0 rfl).1], fun z hz => ?_⟩
    rcases List.mem_append.1 hz with hz | hz
    · exact (h.no0 rfl).2 z hz
    · simp at hz; rw [hz]; exact hl, fun e => by simp at e⟩
theorem drop_snoc {t : List Tm} {j : Nat} {y : Tm} (hy : t[j]? = some y) : t.drop j = y :: t.drop (j + 1) := by
  obtain ⟨h1, h2⟩ := List.getElem?_eq_some_iff.1 hy
  rw [List.drop_eq_getElem_cons h1, h2]
theorem Ins.yes {x : Tm} {t : List Tm} {j : Nat} {acc : List Tm} (h : Ins x t j false acc) {y : Tm} (hy : t[j]? = some y) (hl : x.lt y = true) (ho : Ord t) : Ins x t (j + 1) true ((acc ++ [x]) ++ [y]) := by
  obtain ⟨rfl, hn⟩ := h.no0 rfl
  refine ⟨fun e => by simp at e, fun _ => ⟨?_, ?_⟩⟩
  · rw [take_snoc hy]
    have : ((t.take j ++ [x]) ++ [y]).Perm (x :: (t.take j) ++ [y]) := List.Perm.append_right _ (List.perm_append_singleton x _)
    exact this
  · have e : ((t.take j ++ [x]) ++ [y]) ++ t.drop (j + 1) = (t.take j ++ [x]) ++ t.drop j := by rw [drop_snoc hy]; simp
    rw [e]
    have e2 : t = t.take j ++ t.drop j := (List.take_append_drop j t).symm
    have ho' := ho
    rw [e2] at ho'
    obtain ⟨o1, o2, o3⟩ := List.pairwise_append.1 ho'
    have hxy : x.le y = true := by
      unfold Tm.lt at hl
      rw [Tm.le_iff]
      have := of_decide_eq_true hl
      omega
    have hxd : ∀ z ∈ t.drop j, x.le z = true := by
      intro z hz
      rw [drop_snoc hy] at hz o2
      rcases List.mem_cons.1 hz with rfl | hz
      · exact hxy
      · exact Tm.le_trans _ _ _ hxy ((List.pairwise_cons.1 o2).1 z hz)
    refine List.pairwise_append.2 ⟨List.pairwise_append.2 ⟨o1, List.pairwise_singleton _ _, fun z hz u hu => ?_⟩, o2, fun z hz u hu => ?_⟩
    · simp at hu
      rw [hu]
      unfold Tm.le
      rw [hn z hz]
      rfl
    · rcases List.mem_append.1 hz with hz | hz
      · exact o3 z hz u hu
      · simp at hz
        rw [hz]
        exact hxd u hu
theorem Ins.more {x : Tm} {t : List Tm} {j : Nat} {acc : List Tm} (h : Ins x t j true acc) {y : Tm} (hy : t[j]? = some y) : Ins x t (j + 1) true (acc ++ [y]) := by
  obtain ⟨h1, h2⟩ := h.yes0 rfl
  refine ⟨fun e => by simp at e, fun _ => ⟨?_, ?_⟩⟩
  · rw [take_snoc hy]
    exact h1.append_right [y]
  · have e : (acc ++ [y]) ++ t.drop (j + 1) = acc ++ t.drop j := by rw [drop_snoc hy]; simp
    rw [e]
    exact h2
theorem Ins.last {x : Tm} {t : List Tm} {j : Nat} {acc : List Tm} (h : Ins x t j false acc) (hj : t.length = j) (ho : Ord t) : acc ++ [x] = srt (t ++ [x]) := by
  obtain ⟨rfl, hn⟩ := h.no0 rfl
  subst hj
  rw [List.take_length] at hn ⊢
  refine ord_unique (List.pairwise_append.2 ⟨ho, List.pairwise_singleton _ _, fun z hz u hu => ?_⟩) (srt_ord _) (srt_perm _).symm
  simp at hu
  rw [hu]
  unfold Tm.le
  rw [hn z hz]
  rfl
theorem Ins.full {x : Tm} {t : List Tm} {j : Nat} {acc : List Tm} (h : Ins x t j true acc) (hj : t.length = j) : acc = srt (t ++ [x]) := by
  obtain ⟨h1, h2⟩ := h.yes0 rfl
  subst hj
  rw [List.take_length] at h1
  rw [List.drop_length, List.append_nil] at h2
  exact ord_unique h2 (srt_ord _) ((h1.trans (List.perm_append_singleton x t).symm).trans (srt_perm _).symm)
set_option maxRecDepth 100000 in
set_option maxHeartbeats 8000000 in
theorem rblock_any (w : World) (pa : Option Addr) (pn pc : Nat) (l : List Pro) (hp : Pros w pa pn pc l) (ra : Option Addr) (rn rc : Nat) (r : List Int) (hr : Is w ra rn rc r) (ta : Option Addr) (tn tc : Nat) (t : List Tm) (ht : Tms w ta tn tc t) (p wt ob du : Int) :
    Calls Tryz.prog 6 #[.agg #[.slice pa pn pc, .slice ra rn rc, .slice ta tn tc], .int .i64 p, .int .i64 wt, .int .i64 ob, .int .i64 du] w fun e w' => ∃ a1 n1 c1 a2 n2 c2 a3 n3 c3, e = .returned (.tuple #[.agg #[.slice a1 n1 c1, .slice a2 n2 c2, .slice a3 n3 c3], .int .i64 (ofE (Good l r t) (OkP l p [1] ∧ (Rb.WaitOk wt ob du ∧ (du = -1 ∨ (0 ≤ du ∧ du ≤ 1010000)))) : Int)]) ∧ Tab w' w.heap.size (.slice a1 n1 c1) (.slice a2 n2 c2) (.slice a3 n3 c3) (ownT (Good l r t ∧ (OkP l p [1] ∧ (Rb.WaitOk wt ob du ∧ (du = -1 ∨ (0 ≤ du ∧ du ≤ 1010000))))) (setAt l p (fun q => Rb.blockP q wt ob))) (ownT (Good l r t ∧ (OkP l p [1] ∧ (Rb.WaitOk wt ob du ∧ (du = -1 ∨ (0 ≤ du ∧ du ≤ 1010000))))) (outOf r p)) (ownT (Good l r t ∧ (OkP l p [1] ∧ (Rb.WaitOk wt ob du ∧ (du = -1 ∨ (0 ≤ du ∧ du ≤ 1010000))))) (Rb.blkT t p du)) ∧ Below w.heap.size w w' := by
  have X1 := new_below w (.cells #[.slice pa pn pc, .slice ra rn rc, .slice ta tn tc] 26)
  have X2 := new_below (w.alloc (.cells #[.slice pa pn pc, .slice ra rn rc, .slice ta tn tc] 26)) (.cells #[.slice none 0 0, .slice none 0 0, .slice none 0 0] 26)
  have BX0 : Bl (w.alloc (.cells #[.slice pa pn pc, .slice ra rn rc, .slice ta tn tc] 26)) w.heap.size [.slice pa pn pc, .slice ra rn rc, .slice ta tn tc] := bl_alloc w #[.slice pa pn pc, .slice ra rn rc, .slice ta tn tc] 26
  have BX := hide (BX0.below (by simp) X2)
  have BG : Hid (Bl ((w.alloc (.cells #[.slice pa pn pc, .slice ra rn rc, .slice ta tn tc] 26)).alloc (.cells #[.slice none 0 0, .slice none 0 0, .slice none 0 0] 26)) (w.heap.size + 1) [.slice none 0 0, .slice none 0 0, .slice none 0 0]) := by
    have := bl_alloc (w.alloc (.cells #[.slice pa pn pc, .slice ra rn rc, .slice ta tn tc] 26)) #[.slice none 0 0, .slice none 0 0, .slice none 0 0] 26
    rw [show (w.alloc (.cells #[.slice pa pn pc, .slice ra rn rc, .slice ta tn tc] 26)).heap.size = w.heap.size + 1 by simp] at this
    exact this
  have B1 := hide (chain X1 X2)
  have hz : ((w.alloc (.cells #[.slice pa pn pc, .slice ra rn rc, .slice ta tn tc] 26)).alloc (.cells #[.slice none 0 0, .slice none 0 0, .slice none 0 0] 26)).heap.size = w.heap.size + 2 := by simp
  have HS := hide (hp.below B1.out)
  have HI := hide (hr.below B1.out)
  have HT := hide (ht.below B1.out)
  have HL : Hid (l.length = pn) := hp.size
  have HLR : Hid (r.length = rn) := hr.size
  have HLT : Hid (t.length = tn) := ht.size
  clear X1 X2 BX0 hp hr ht
  go_enter Tryz.func6, Tryz.ntmps6
  go_upto_region 1 with fail
  generalize (w.alloc (.cells #[.slice pa pn pc, .slice ra rn rc, .slice ta tn tc] 26)).alloc (.cells #[.slice none 0 0, .slice none 0 0, .slice none 0 0] 26) = W0 at *
  have hl3 : Hid (w.heap.size + 1 < W0.heap.size) := by unfold Hid; rw [hz]; omega
  clear hz
  have b0 := BX.out.cell 0 _ rfl
  have b1 := BX.out.cell 1 _ rfl
  have b2 := BX.out.cell 2 _ rfl
  go_wp2_with fail
  refine Calls.mono (rrgood_any W0 pa pn pc l HS.out ra rn rc r HI.out ta tn tc t HT.out) ?_
  rintro e w1 ⟨rfl, x1⟩
  replace BX := hide (BX.out.below (Nat.lt_of_succ_lt hl3.out) x1)
  replace BG := hide (BG.out.below hl3.out x1)
  replace hl3 : Hid (w.heap.size + 1 < w1.heap.size) := Nat.lt_of_lt_of_le hl3.out x1.size
  replace B1 := hide (chain B1.out x1)
  replace HS := hide (HS.out.below x1)
  replace HI := hide (HI.out.below x1)
  replace HT := hide (HT.out.below x1)
  clear x1 b0 b1 b2
  by_cases hg : Good l r t
  case neg =>
    rw [decide_eq_false hg]
    have HO : Hid (ofE (Good l r t) (OkP l p [1] ∧ (Rb.WaitOk wt ob du ∧ (du = -1 ∨ (0 ≤ du ∧ du ≤ 1010000)))) = 9 ∧ ownT (Good l r t ∧ (OkP l p [1] ∧ (Rb.WaitOk wt ob du ∧ (du = -1 ∨ (0 ≤ du ∧ du ≤ 1010000))))) (setAt l p (fun q => Rb.blockP q wt ob)) = [] ∧ ownT (Good l r t ∧ (OkP l p [1] ∧ (Rb.WaitOk wt ob du ∧ (du = -1 ∨ (0 ≤ du ∧ du ≤ 1010000))))) (outOf r p) = [] ∧ ownT (Good l r t ∧ (OkP l p [1] ∧ (Rb.WaitOk wt ob du ∧ (du = -1 ∨ (0 ≤ du ∧ du ≤ 1010000))))) (Rb.blkT t p du) = []) := ⟨if_neg hg, if_neg (fun h => hg h.1), if_neg (fun h => hg h.1), if_neg (fun h => hg h.1)⟩
    clear hg
    have G1 := hide (bl_three BG.out (.slice none 0 0) (.slice none 0 0) (.slice none 0 0))
    have BF := hide (below3 (g := w.heap.size + 1) (.slice none 0 0) (.slice none 0 0) (.slice none 0 0) B1.out (by omega))
    have g0 := BG.out.cell 0 _ rfl
    have g1 := BG.out.cell 1 _ rfl
    have g2 := BG.out.cell 2 _ rfl
    have f0 := BG.out.free 0
    have f1 := BG.out.free 1
    have f2 := BG.out.free 2
    go_wp2
    generalize (((w1.setCell ⟨w.heap.size + 1, 0, none⟩ (.slice none 0 0)).setCell ⟨w.heap.size + 1, 1, none⟩ (.slice none 0 0)).setCell ⟨w.heap.size + 1, 2, none⟩ (.slice none 0 0)) = W9 at *
    have e0 := G1.out.cell 0 _ rfl
    have e1 := G1.out.cell 1 _ rfl
    have e2 := G1.out.cell 2 _ rfl
    (try simp only [Exit.inBlock, Exit.then])
    refine bodyPost_ret (v := .tuple #[.agg #[.slice none 0 0, .slice none 0 0, .slice none 0 0], .int .i64 9]) (by simp [results, Tryz.results6, go_sem, e0, e1, e2]) rfl ?_
    exact ⟨_, _, _, _, _, _, _, _, _, by rw [HO.out.1]; rfl, by rw [HO.out.2.1, HO.out.2.2.1, HO.out.2.2.2]; exact tab_nil _ _, BF.out⟩
  rw [decide_eq_true hg]
  have HGD := hide hg
  have HP8 : Hid (pn ≤ 8 ∧ rn ≤ 8 ∧ tn ≤ 8) := by
    have h1 := hg.1
    have h2 := goodR_few hg.2.2.1 hg.1
    have h3 := hg.tfew
    have := HL.out
    have := HLR.out
    have := HLT.out
    exact ⟨by omega, by omega, by omega⟩
  clear hg
  have b0 := BX.out.cell 0 _ rfl
  have b1 := BX.out.cell 1 _ rfl
  have b2 := BX.out.cell 2 _ rfl
  go_wp2_with fail
  refine Calls.mono (risIn_any w1 pa pn pc l HS.out ra rn rc ta tn tc p 1 (by have := HP8.out; omega)) ?_
  rintro e w2 ⟨rfl, x2⟩
  replace BX := hide (BX.out.below (Nat.lt_of_succ_lt hl3.out) x2)
  replace BG := hide (BG.out.below hl3.out x2)
  replace hl3 : Hid (w.heap.size + 1 < w2.heap.size) := Nat.lt_of_lt_of_le hl3.out x2.size
  replace B1 := hide (chain B1.out x2)
  replace HS := hide (HS.out.below x2)
  replace HI := hide (HI.out.below x2)
  replace HT := hide (HT.out.below x2)
  clear x2 b0 b1 b2
  obtain ⟨wc, hwc⟩ : ∃ x, x = w2 := ⟨_, rfl⟩
  subst hwc
  by_cases hq0 : OkP l p [1]
  case neg =>
    rw [decide_eq_false hq0]
    have hx : ¬ (OkP l p [1] ∧ (Rb.WaitOk wt ob du ∧ (du = -1 ∨ (0 ≤ du ∧ du ≤ 1010000)))) := fun h => hq0 h.1
    clear hq0
    have HO : Hid (ofE (Good l r t) (OkP l p [1] ∧ (Rb.WaitOk wt ob du ∧ (du = -1 ∨ (0 ≤ du ∧ du ≤ 1010000)))) = 12 ∧ ownT (Good l r t ∧ (OkP l p [1] ∧ (Rb.WaitOk wt ob du ∧ (du = -1 ∨ (0 ≤ du ∧ du ≤ 1010000))))) (setAt l p (fun q => Rb.blockP q wt ob)) = [] ∧ ownT (Good l r t ∧ (OkP l p [1] ∧ (Rb.WaitOk wt ob du ∧ (du = -1 ∨ (0 ≤ du ∧ du ≤ 1010000))))) (outOf r p) = [] ∧ ownT (Good l r t ∧ (OkP l p [1] ∧ (Rb.WaitOk wt ob du ∧ (du = -1 ∨ (0 ≤ du ∧ du ≤ 1010000))))) (Rb.blkT t p du) = []) := ⟨ofE_bad HGD.out hx, if_neg (fun h => hx h.2), if_neg (fun h => hx h.2), if_neg (fun h => hx h.2)⟩
    clear hx
    have G1 := hide (bl_three BG.out (.slice none 0 0) (.slice none 0 0) (.slice none 0 0))
    have BF := hide (below3 (g := w.heap.size + 1) (.slice none 0 0) (.slice none 0 0) (.slice none 0 0) B1.out (by omega))
    have g0 := BG.out.cell 0 _ rfl
    have g1 := BG.out.cell 1 _ rfl
    have g2 := BG.out.cell 2 _ rfl
    have f0 := BG.out.free 0
    have f1 := BG.out.free 1
    have f2 := BG.out.free 2
    go_wp2
    generalize (((wc.setCell ⟨w.heap.size + 1, 0, none⟩ (.slice none 0 0)).setCell ⟨w.heap.size + 1, 1, none⟩ (.slice none 0 0)).setCell ⟨w.heap.size + 1, 2, none⟩ (.slice none 0 0)) = W9 at *
    have e0 := G1.out.cell 0 _ rfl
    have e1 := G1.out.cell 1 _ rfl
    have e2 := G1.out.cell 2 _ rfl
    (try simp only [Exit.inBlock, Exit.then])
    refine bodyPost_ret (v := .tuple #[.agg #[.slice none 0 0, .slice none 0 0, .slice none 0 0], .int .i64 12]) (by simp [results, Tryz.results6, go_sem, e0, e1, e2]) rfl ?_
    exact ⟨_, _, _, _, _, _, _, _, _, by rw [HO.out.1]; rfl, by rw [HO.out.2.1, HO.out.2.2.1, HO.out.2.2.2]; exact tab_nil _ _, BF.out⟩
  rw [decide_eq_true hq0]
  by_cases hc0 : wt < 1
  · have dc0 : decide (wt < 1) = true := decide_eq_true hc0
    have hx : ¬ (OkP l p [1] ∧ (Rb.WaitOk wt ob du ∧ (du = -1 ∨ (0 ≤ du ∧ du ≤ 1010000)))) := fun h => (by have := h.2.1.1; omega)
    clear hq0 hc0
    have HO : Hid (ofE (Good l r t) (OkP l p [1] ∧ (Rb.WaitOk wt ob du ∧ (du = -1 ∨ (0 ≤ du ∧ du ≤ 1010000)))) = 12 ∧ ownT (Good l r t ∧ (OkP l p [1] ∧ (Rb.WaitOk wt ob du ∧ (du = -1 ∨ (0 ≤ du ∧ du ≤ 1010000))))) (setAt l p (fun q => Rb.blockP q wt ob)) = [] ∧ ownT (Good l r t ∧ (OkP l p [1] ∧ (Rb.WaitOk wt ob du ∧ (du = -1 ∨ (0 ≤ du ∧ du ≤ 1010000))))) (outOf r p) = [] ∧ ownT (Good l r t ∧ (OkP l p [1] ∧ (Rb.WaitOk wt ob du ∧ (du = -1 ∨ (0 ≤ du ∧ du ≤ 1010000))))) (Rb.blkT t p du) = []) := ⟨ofE_bad HGD.out hx, if_neg (fun h => hx h.2), if_neg (fun h => hx h.2), if_neg (fun h => hx h.2)⟩
    clear hx
    have G1 := hide (bl_three BG.out (.slice none 0 0) (.slice none 0 0) (.slice none 0 0))
    have BF := hide (below3 (g := w.heap.size + 1) (.slice none 0 0) (.slice none 0 0) (.slice none 0 0) B1.out (by omega))
    have g0 := BG.out.cell 0 _ rfl
    have g1 := BG.out.cell 1 _ rfl
    have g2 := BG.out.cell 2 _ rfl
    have f0 := BG.out.free 0
    have f1 := BG.out.free 1
    have f2 := BG.out.free 2
    go_wp2
    generalize (((wc.setCell ⟨w.heap.size + 1, 0, none⟩ (.slice none 0 0)).setCell ⟨w.heap.size + 1, 1, none⟩ (.slice none 0 0)).setCell ⟨w.heap.size + 1, 2, none⟩ (.slice none 0 0)) = W9 at *
    have e0 := G1.out.cell 0 _ rfl
    have e1 := G1.out.cell 1 _ rfl
    have e2 := G1.out.cell 2 _ rfl
    (try simp only [Exit.inBlock, Exit.then])
    refine bodyPost_ret (v := .tuple #[.agg #[.slice none 0 0, .slice none 0 0, .slice none 0 0], .int .i64 12]) (by simp [results, Tryz.results6, go_sem, e0, e1, e2]) rfl ?_
    exact ⟨_, _, _, _, _, _, _, _, _, by rw [HO.out.1]; rfl, by rw [HO.out.2.1, HO.out.2.2.1, HO.out.2.2.2]; exact tab_nil _ _, BF.out⟩
  have dc0 : decide (wt < 1) = false := decide_eq_false hc0
  by_cases hc1 : 4 < wt
  · have dc1 : decide (4 < wt) = true := decide_eq_true hc1
    have hx : ¬ (OkP l p [1] ∧ (Rb.WaitOk wt ob du ∧ (du = -1 ∨ (0 ≤ du ∧ du ≤ 1010000)))) := fun h => (by have := h.2.1.2.1; omega)
    clear hq0 hc0 hc1
    have HO : Hid (ofE (Good l r t) (OkP l p [1] ∧ (Rb.WaitOk wt ob du ∧ (du = -1 ∨ (0 ≤ du ∧ du ≤ 1010000)))) = 12 ∧ ownT (Good l r t ∧ (OkP l p [1] ∧ (Rb.WaitOk wt ob du ∧ (du = -1 ∨ (0 ≤ du ∧ du ≤ 1010000))))) (setAt l p (fun q => Rb.blockP q wt ob)) = [] ∧ ownT (Good l r t ∧ (OkP l p [1] ∧ (Rb.WaitOk wt ob du ∧ (du = -1 ∨ (0 ≤ du ∧ du ≤ 1010000))))) (outOf r p) = [] ∧ ownT (Good l r t ∧ (OkP l p [1] ∧ (Rb.WaitOk wt ob du ∧ (du = -1 ∨ (0 ≤ du ∧ du ≤ 1010000))))) (Rb.blkT t p du) = []) := ⟨ofE_bad HGD.out hx, if_neg (fun h => hx h.2), if_neg (fun h => hx h.2), if_neg (fun h => hx h.2)⟩
    clear hx
    have G1 := hide (bl_three BG.out (.slice none 0 0) (.slice none 0 0) (.slice none 0 0))
    have BF := hide (below3 (g := w.heap.size + 1) (.slice none 0 0) (.slice none 0 0) (.slice none 0 0) B1.out (by omega))
    have g0 := BG.out.cell 0 _ rfl
    have g1 := BG.out.cell 1 _ rfl
    have g2 := BG.out.cell 2 _ rfl
    have f0 := BG.out.free 0
    have f1 := BG.out.free 1
    have f2 := BG.out.free 2
    go_wp2
    generalize (((wc.setCell ⟨w.heap.size + 1, 0, none⟩ (.slice none 0 0)).setCell ⟨w.heap.size + 1, 1, none⟩ (.slice none 0 0)).setCell ⟨w.heap.size + 1, 2, none⟩ (.slice none 0 0)) = W9 at *
    have e0 := G1.out.cell 0 _ rfl
    have e1 := G1.out.cell 1 _ rfl
    have e2 := G1.out.cell 2 _ rfl
    (try simp only [Exit.inBlock, Exit.then])
    refine bodyPost_ret (v := .tuple #[.agg #[.slice none 0 0, .slice none 0 0, .slice none 0 0], .int .i64 12]) (by simp [results, Tryz.results6, go_sem, e0, e1, e2]) rfl ?_
    exact ⟨_, _, _, _, _, _, _, _, _, by rw [HO.out.1]; rfl, by rw [HO.out.2.1, HO.out.2.2.1, HO.out.2.2.2]; exact tab_nil _ _, BF.out⟩
  have dc1 : decide (4 < wt) = false := decide_eq_false hc1
  by_cases hc2 : ob < 0
  · have dc2 : decide (ob < 0) = true := decide_eq_true hc2
    have hx : ¬ (OkP l p [1] ∧ (Rb.WaitOk wt ob du ∧ (du = -1 ∨ (0 ≤ du ∧ du ≤ 1010000)))) := fun h => (by have := h.2.1.2.2.1; omega)
    clear hq0 hc0 hc1 hc2
    have HO : Hid (ofE (Good l r t) (OkP l p [1] ∧ (Rb.WaitOk wt ob du ∧ (du = -1 ∨ (0 ≤ du ∧ du ≤ 1010000)))) = 12 ∧ ownT (Good l r t ∧ (OkP l p [1] ∧ (Rb.WaitOk wt ob du ∧ (du = -1 ∨ (0 ≤ du ∧ du ≤ 1010000))))) (setAt l p (fun q => Rb.blockP q wt ob)) = [] ∧ ownT (Good l r t ∧ (OkP l p [1] ∧ (Rb.WaitOk wt ob du ∧ (du = -1 ∨ (0 ≤ du ∧ du ≤ 1010000))))) (outOf r p) = [] ∧ ownT (Good l r t ∧ (OkP l p [1] ∧ (Rb.WaitOk wt ob du ∧ (du = -1 ∨ (0 ≤ du ∧ du ≤ 1010000))))) (Rb.blkT t p du) = []) := ⟨ofE_bad HGD.out hx, if_neg (fun h => hx h.2), if_neg (fun h => hx h.2), if_neg (fun h => hx h.2)⟩
    clear hx
    have G1 := hide (bl_three BG.out (.slice none 0 0) (.slice none 0 0) (.slice none 0 0))
    have BF := hide (below3 (g := w.heap.size + 1) (.slice none 0 0) (.slice none 0 0) (.slice none 0 0) B1.out (by omega))
    have g0 := BG.out.cell 0 _ rfl
    have g1 := BG.out.cell 1 _ rfl
    have g2 := BG.out.cell 2 _ rfl
    have f0 := BG.out.free 0
    have f1 := BG.out.free 1
    have f2 := BG.out.free 2
    go_wp2
    generalize (((wc.setCell ⟨w.heap.size + 1, 0, none⟩ (.slice none 0 0)).setCell ⟨w.heap.size + 1, 1, none⟩ (.slice none 0 0)).setCell ⟨w.heap.size + 1, 2, none⟩ (.slice none 0 0)) = W9 at *
    have e0 := G1.out.cell 0 _ rfl
    have e1 := G1.out.cell 1 _ rfl
    have e2 := G1.out.cell 2 _ rfl
    (try simp only [Exit.inBlock, Exit.then])
    refine bodyPost_ret (v := .tuple #[.agg #[.slice none 0 0, .slice none 0 0, .slice none 0 0], .int .i64 12]) (by simp [results, Tryz.results6, go_sem, e0, e1, e2]) rfl ?_
    exact ⟨_, _, _, _, _, _, _, _, _, by rw [HO.out.1]; rfl, by rw [HO.out.2.1, HO.out.2.2.1, HO.out.2.2.2]; exact tab_nil _ _, BF.out⟩
  have dc2 : decide (ob < 0) = false := decide_eq_false hc2
  by_cases hc3 : du < -1
  · have dc3 : decide (du < -1) = true := decide_eq_true hc3
    have hx : ¬ (OkP l p [1] ∧ (Rb.WaitOk wt ob du ∧ (du = -1 ∨ (0 ≤ du ∧ du ≤ 1010000)))) := fun h => (by have := h.2.1.2.2.2.1; omega)
    clear hq0 hc0 hc1 hc2 hc3
    have HO : Hid (ofE (Good l r t) (OkP l p [1] ∧ (Rb.WaitOk wt ob du ∧ (du = -1 ∨ (0 ≤ du ∧ du ≤ 1010000)))) = 12 ∧ ownT (Good l r t ∧ (OkP l p [1] ∧ (Rb.WaitOk wt ob du ∧ (du = -1 ∨ (0 ≤ du ∧ du ≤ 1010000))))) (setAt l p (fun q => Rb.blockP q wt ob)) = [] ∧ ownT (Good l r t ∧ (OkP l p [1] ∧ (Rb.WaitOk wt ob du ∧ (du = -1 ∨ (0 ≤ du ∧ du ≤ 1010000))))) (outOf r p) = [] ∧ ownT (Good l r t ∧ (OkP l p [1] ∧ (Rb.WaitOk wt ob du ∧ (du = -1 ∨ (0 ≤ du ∧ du ≤ 1010000))))) (Rb.blkT t p du) = []) := ⟨ofE_bad HGD.out hx, if_neg (fun h => hx h.2), if_neg (fun h => hx h.2), if_neg (fun h => hx h.2)⟩
    clear hx
    have G1 := hide (bl_three BG.out (.slice none 0 0) (.slice none 0 0) (.slice none 0 0))
    have BF := hide (below3 (g := w.heap.size + 1) (.slice none 0 0) (.slice none 0 0) (.slice none 0 0) B1.out (by omega))
    have g0 := BG.out.cell 0 _ rfl
    have g1 := BG.out.cell 1 _ rfl
    have g2 := BG.out.cell 2 _ rfl
    have f0 := BG.out.free 0
    have f1 := BG.out.free 1
    have f2 := BG.out.free 2
    go_wp2
    generalize (((wc.setCell ⟨w.heap.size + 1, 0, none⟩ (.slice none 0 0)).setCell ⟨w.heap.size + 1, 1, none⟩ (.slice none 0 0)).setCell ⟨w.heap.size + 1, 2, none⟩ (.slice none 0 0)) = W9 at *
    have e0 := G1.out.cell 0 _ rfl
    have e1 := G1.out.cell 1 _ rfl
    have e2 := G1.out.cell 2 _ rfl
    (try simp only [Exit.inBlock, Exit.then])
    refine bodyPost_ret (v := .tuple #[.agg #[.slice none 0 0, .slice none 0 0, .slice none 0 0], .int .i64 12]) (by simp [results, Tryz.results6, go_sem, e0, e1, e2]) rfl ?_
    exact ⟨_, _, _, _, _, _, _, _, _, by rw [HO.out.1]; rfl, by rw [HO.out.2.1, HO.out.2.2.1, HO.out.2.2.2]; exact tab_nil _ _, BF.out⟩
  have dc3 : decide (du < -1) = false := decide_eq_false hc3
  by_cases hc4 : 1010000 < du
  · have dc4 : decide (1010000 < du) = true := decide_eq_true hc4
    have hx : ¬ (OkP l p [1] ∧ (Rb.WaitOk wt ob du ∧ (du = -1 ∨ (0 ≤ du ∧ du ≤ 1010000)))) := fun h => (by have := h.2.2; omega)
    clear hq0 hc0 hc1 hc2 hc3 hc4
    have HO : Hid (ofE (Good l r t) (OkP l p [1] ∧ (Rb.WaitOk wt ob du ∧ (du = -1 ∨ (0 ≤ du ∧ du ≤ 1010000)))) = 12 ∧ ownT (Good l r t ∧ (OkP l p [1] ∧ (Rb.WaitOk wt ob du ∧ (du = -1 ∨ (0 ≤ du ∧ du ≤ 1010000))))) (setAt l p (fun q => Rb.blockP q wt ob)) = [] ∧ ownT (Good l r t ∧ (OkP l p [1] ∧ (Rb.WaitOk wt ob du ∧ (du = -1 ∨ (0 ≤ du ∧ du ≤ 1010000))))) (outOf r p) = [] ∧ ownT (Good l r t ∧ (OkP l p [1] ∧ (Rb.WaitOk wt ob du ∧ (du = -1 ∨ (0 ≤ du ∧ du ≤ 1010000))))) (Rb.blkT t p du) = []) := ⟨ofE_bad HGD.out hx, if_neg (fun h => hx h.2), if_neg (fun h => hx h.2), if_neg (fun h => hx h.2)⟩
    clear hx
    have G1 := hide (bl_three BG.out (.slice none 0 0) (.slice none 0 0) (.slice none 0 0))
    have BF := hide (below3 (g := w.heap.size + 1) (.slice none 0 0) (.slice none 0 0) (.slice none 0 0) B1.out (by omega))
    have g0 := BG.out.cell 0 _ rfl
    have g1 := BG.out.cell 1 _ rfl
    have g2 := BG.out.cell 2 _ rfl
    have f0 := BG.out.free 0
    have f1 := BG.out.free 1
    have f2 := BG.out.free 2
    go_wp2
    generalize (((wc.setCell ⟨w.heap.size + 1, 0, none⟩ (.slice none 0 0)).setCell ⟨w.heap.size + 1, 1, none⟩ (.slice none 0 0)).setCell ⟨w.heap.size + 1, 2, none⟩ (.slice none 0 0)) = W9 at *
    have e0 := G1.out.cell 0 _ rfl
    have e1 := G1.out.cell 1 _ rfl
    have e2 := G1.out.cell 2 _ rfl
    (try simp only [Exit.inBlock, Exit.then])
    refine bodyPost_ret (v := .tuple #[.agg #[.slice none 0 0, .slice none 0 0, .slice none 0 0], .int .i64 12]) (by simp [results, Tryz.results6, go_sem, e0, e1, e2]) rfl ?_
    exact ⟨_, _, _, _, _, _, _, _, _, by rw [HO.out.1]; rfl, by rw [HO.out.2.1, HO.out.2.2.1, HO.out.2.2.2]; exact tab_nil _ _, BF.out⟩
  have dc4 : decide (1010000 < du) = false := decide_eq_false hc4
  by_cases hw1 : wt = 1
  · have dw : (wt == 1) = true := by simp [hw1]
    by_cases hob : ob = 0
    · have do1 : (ob != 0) = false := by simp [hob]
      by_cases hdm : du = -1
      · have dd1 : (du == -1) = true := by simp [hdm]
        have hx : ¬ (OkP l p [1] ∧ (Rb.WaitOk wt ob du ∧ (du = -1 ∨ (0 ≤ du ∧ du ≤ 1010000)))) := fun h => (h.2.1.2.2.2.2 hw1).2 hdm
        clear hq0 hc0 hc1 hc2 hc3 hc4 hw1 hob hdm
        have HO : Hid (ofE (Good l r t) (OkP l p [1] ∧ (Rb.WaitOk wt ob du ∧ (du = -1 ∨ (0 ≤ du ∧ du ≤ 1010000)))) = 12 ∧ ownT (Good l r t ∧ (OkP l p [1] ∧ (Rb.WaitOk wt ob du ∧ (du = -1 ∨ (0 ≤ du ∧ du ≤ 1010000))))) (setAt l p (fun q => Rb.blockP q wt ob)) = [] ∧ ownT (Good l r t ∧ (OkP l p [1] ∧ (Rb.WaitOk wt ob du ∧ (du = -1 ∨ (0 ≤ du ∧ du ≤ 1010000))))) (outOf r p) = [] ∧ ownT (Good l r t ∧ (OkP l p [1] ∧ (Rb.WaitOk wt ob du ∧ (du = -1 ∨ (0 ≤ du ∧ du ≤ 1010000))))) (Rb.blkT t p du) = []) := ⟨ofE_bad HGD.out hx, if_neg (fun h => hx h.2), if_neg (fun h => hx h.2), if_neg (fun h => hx h.2)⟩
        clear hx
        have G1 := hide (bl_three BG.out (.slice none 0 0) (.slice none 0 0) (.slice none 0 0))
        have BF := hide (below3 (g := w.heap.size + 1) (.slice none 0 0) (.slice none 0 0) (.slice none 0 0) B1.out (by omega))
        have g0 := BG.out.cell 0 _ rfl
        have g1 := BG.out.cell 1 _ rfl
        have g2 := BG.out.cell 2 _ rfl
        have f0 := BG.out.free 0
        have f1 := BG.out.free 1
        have f2 := BG.out.free 2
        go_wp2
        generalize (((wc.setCell ⟨w.heap.size + 1, 0, none⟩ (.slice none 0 0)).setCell ⟨w.heap.size + 1, 1, none⟩ (.slice none 0 0)).setCell ⟨w.heap.size + 1, 2, none⟩ (.slice none 0 0)) = W9 at *
        have e0 := G1.out.cell 0 _ rfl
        have e1 := G1.out.cell 1 _ rfl
        have e2 := G1.out.cell 2 _ rfl
        (try simp only [Exit.inBlock, Exit.then])
        refine bodyPost_ret (v := .tuple #[.agg #[.slice none 0 0, .slice none 0 0, .slice none 0 0], .int .i64 12]) (by simp [results, Tryz.results6, go_sem, e0, e1, e2]) rfl ?_
        exact ⟨_, _, _, _, _, _, _, _, _, by rw [HO.out.1]; rfl, by rw [HO.out.2.1, HO.out.2.2.1, HO.out.2.2.2]; exact tab_nil _ _, BF.out⟩
      have dd1 : (du == -1) = false := by simp [hdm]
      have hx : (OkP l p [1] ∧ (Rb.WaitOk wt ob du ∧ (du = -1 ∨ (0 ≤ du ∧ du ≤ 1010000)))) := ⟨hq0, ⟨by omega, by omega, by omega, by omega, fun _ => ⟨hob, hdm⟩⟩, by omega⟩
      clear hq0 hc0 hc1 hc2 hc3 hc4 hw1 hob hdm
      have HO : Hid (ofE (Good l r t) (OkP l p [1] ∧ (Rb.WaitOk wt ob du ∧ (du = -1 ∨ (0 ≤ du ∧ du ≤ 1010000)))) = 0 ∧ ownT (Good l r t ∧ (OkP l p [1] ∧ (Rb.WaitOk wt ob du ∧ (du = -1 ∨ (0 ≤ du ∧ du ≤ 1010000))))) (setAt l p (fun q => Rb.blockP q wt ob)) = (setAt l p (fun q => Rb.blockP q wt ob)) ∧ ownT (Good l r t ∧ (OkP l p [1] ∧ (Rb.WaitOk wt ob du ∧ (du = -1 ∨ (0 ≤ du ∧ du ≤ 1010000))))) (outOf r p) = (outOf r p) ∧ ownT (Good l r t ∧ (OkP l p [1] ∧ (Rb.WaitOk wt ob du ∧ (du = -1 ∨ (0 ≤ du ∧ du ≤ 1010000))))) (Rb.blkT t p du) = (Rb.blkT t p du)) := ⟨ofE_ok HGD.out hx, if_pos ⟨HGD.out, hx⟩, if_pos ⟨HGD.out, hx⟩, if_pos ⟨HGD.out, hx⟩⟩
      have HKX := hide hx
      obtain ⟨k, q, rfl, hkq, hst⟩ := okP_at hx.1
      have HKQ := hide hkq
      have HKL : Hid (k < l.length) := (List.getElem?_eq_some_iff.1 hkq).1
      clear hkq
      have HST := hide (by simpa using hst : q.state = 1)
      clear hx hst
      have b0 := BX.out.cell 0 _ rfl
      have b1 := BX.out.cell 1 _ rfl
      have b2 := BX.out.cell 2 _ rfl
      go_wp2_with fail
      refine Calls.mono (rcopied_any wc pa pn pc l HS.out ra rn rc r HI.out ta tn tc t HT.out (by have := HP8.out; omega) (by have := HP8.out; omega) (by have := HP8.out; omega)) ?_
      rintro e w3 ⟨a1, c1, a2, c2, a3, c3, rfl, htab, x3⟩
      have X3 := new_below w3 (.cells #[.slice a1 l.length c1, .slice a2 r.length c2, .slice a3 t.length c3] 26)
      have Y0 := hide (chain x3 X3)
      have M0 := hide (mine_new htab x3.size 26)
      obtain ⟨g, rfl⟩ : ∃ g, a1 = some ⟨g, 0, none⟩ := by
        rcases htab.p.2 with ⟨e1, e2⟩ | ⟨g, cap, cur, e1, _⟩
        · have := HKL.out
          omega
        · simp only [Value.slice.injEq] at e1
          exact ⟨g, e1.1⟩
      have HGB : Hid (wc.heap.size ≤ g) := (htab.p.lt g rfl).1
      clear X3 x3 htab b0 b1 b2
      go_upto_region 8 with fail
      generalize w3.alloc (.cells #[.slice (some ⟨g, 0, none⟩) l.length c1, .slice a2 r.length c2, .slice a3 t.length c3] 26) = V0 at *
      generalize w3.heap.size = mb at *
      have hk1 : (k : Int) < (l.length : Int) := by have := HKL.out; omega
      have hk0 : (0 : Int) ≤ (k : Int) := by omega
      have b1 := (BX.out.below (Nat.lt_of_succ_lt hl3.out) Y0.out).cell 1 _ rfl
      go_wp2_with fail
      refine Calls.mono (rout_any V0 ra rn rc r (HI.out.below Y0.out) (k : Int) (by have := HP8.out; omega)) ?_
      rintro e w5 ⟨ov, rfl, ho, x5⟩
      obtain ⟨oa, oc, rfl, -⟩ := iown_is ho
      have HR := hide (M0.out.queue x5 ho)
      have MB5 := M0.out.bl.below M0.out.lt x5
      have g1 := MB5.cell 1 _ rfl
      have f1 := MB5.free 1
      clear b1 ho x5 MB5
      go_upto_region 9 with fail
      have M1 := hide HR.out.1
      have Y1 := hide (Y0.out.trans HR.out.2)
      clear g1 f1 HR
      generalize w5.setCell ⟨mb, 1, none⟩ (.slice oa (outOf r (k : Int)).length oc) = V1 at *
      have m0 := M1.out.bl.cell 0 _ rfl
      have qc : V1.cell? ⟨g, k * 21 + 17, none⟩ = some (.int .i64 q.state) := own_cellB M1.out.tab.p HKQ.out (by decide) rfl
      have fc : V1.frozen? ⟨g, k * 21 + 17, none⟩ = false := own_freeB M1.out.tab.p _
      go_upto_region 10 with fail
      have M2 : Hid (Mine (V1.setCell ⟨g, k * 21 + 17, none⟩ (.int .i64 2)) wc.heap.size mb (.slice (some ⟨g, 0, none⟩) l.length c1) (.slice oa (outOf r (k : Int)).length oc) (.slice a3 t.length c3) (l.set k { q with state := 2 }) (outOf r (k : Int)) t) := by
        have h := M1.out.put (j := 17) (q' := { q with state := 2 }) (u := .int .i64 2) HKQ.out (by decide) rfl
        skip
        exact h
      have Y2 := hide (Y1.out.setCell (p := ⟨g, k * 21 + 17, none⟩) HGB.out (.int .i64 2))
      clear qc fc m0
      generalize V1.setCell ⟨g, k * 21 + 17, none⟩ (.int .i64 2) = V2 at *
      have m0 := M2.out.bl.cell 0 _ rfl
      have qc : V2.cell? ⟨g, k * 21 + 19, none⟩ = some (.int .i64 q.wait) := own_cellB M2.out.tab.p (by rw [List.getElem?_set_self HKL.out] : (l.set k { q with state := 2 })[k]? = some { q with state := 2 }) (by decide) rfl
      have fc : V2.frozen? ⟨g, k * 21 + 19, none⟩ = false := own_freeB M2.out.tab.p _
      go_upto_region 11 with fail
      have M3 : Hid (Mine (V2.setCell ⟨g, k * 21 + 19, none⟩ (.int .i64 wt)) wc.heap.size mb (.slice (some ⟨g, 0, none⟩) l.length c1) (.slice oa (outOf r (k : Int)).length oc) (.slice a3 t.length c3) (l.set k { q with state := 2, wait := wt }) (outOf r (k : Int)) t) := by
        have h := M2.out.put (j := 19) (q' := { q with state := 2, wait := wt }) (u := .int .i64 wt) (by rw [List.getElem?_set_self HKL.out] : (l.set k { q with state := 2 })[k]? = some { q with state := 2 }) (by decide) rfl
        rw [List.set_set] at h
        exact h
      have Y3 := hide (Y2.out.setCell (p := ⟨g, k * 21 + 19, none⟩) HGB.out (.int .i64 wt))
      clear qc fc m0
      generalize V2.setCell ⟨g, k * 21 + 19, none⟩ (.int .i64 wt) = V3 at *
      have m0 := M3.out.bl.cell 0 _ rfl
      have qc : V3.cell? ⟨g, k * 21 + 20, none⟩ = some (.int .i64 q.obj) := own_cellB M3.out.tab.p (by rw [List.getElem?_set_self HKL.out] : (l.set k { q with state := 2, wait := wt })[k]? = some { q with state := 2, wait := wt }) (by decide) rfl
      have fc : V3.frozen? ⟨g, k * 21 + 20, none⟩ = false := own_freeB M3.out.tab.p _
      go_upto_region 12 with fail
      have M4 : Hid (Mine (V3.setCell ⟨g, k * 21 + 20, none⟩ (.int .i64 ob)) wc.heap.size mb (.slice (some ⟨g, 0, none⟩) l.length c1) (.slice oa (outOf r (k : Int)).length oc) (.slice a3 t.length c3) (l.set k (Rb.blockP q wt ob)) (outOf r (k : Int)) t) := by
        have h := M3.out.put (j := 20) (q' := (Rb.blockP q wt ob)) (u := .int .i64 ob) (by rw [List.getElem?_set_self HKL.out] : (l.set k { q with state := 2, wait := wt })[k]? = some { q with state := 2, wait := wt }) (by decide) rfl
        rw [List.set_set] at h
        exact h
      have Y4 := hide (Y3.out.setCell (p := ⟨g, k * 21 + 20, none⟩) HGB.out (.int .i64 ob))
      clear qc fc m0
      generalize V3.setCell ⟨g, k * 21 + 20, none⟩ (.int .i64 ob) = V4 at *
      have HNT := hide (Rb.no_timer HGD.out HKQ.out HST.out)
      by_cases hd : du = -1
      · have e0d : decide (0 ≤ du) = false := decide_eq_false (by omega)
        have HBL : Hid (Rb.blkT t (k : Int) du = t) := if_pos hd
        clear hd
        have BGF := hide (BG.out.below hl3.out Y4.out)
        have BW := hide (B1.out.trans (Y4.out.mono B1.out.size))
        have T1 := hide ((M4.out.tab.three (g := w.heap.size + 1) hl3.out (.slice (some ⟨g, 0, none⟩) l.length c1) (.slice oa (outOf r (k : Int)).length oc) (.slice a3 t.length c3)).weaken B1.out.size)
        have m0 := M4.out.bl.cell 0 _ rfl
        have m1 := M4.out.bl.cell 1 _ rfl
        have m2 := M4.out.bl.cell 2 _ rfl
        have G1 := hide (bl_three BGF.out (.slice (some ⟨g, 0, none⟩) l.length c1) (.slice oa (outOf r (k : Int)).length oc) (.slice a3 t.length c3))
        have BF := hide (below3 (g := w.heap.size + 1) (.slice (some ⟨g, 0, none⟩) l.length c1) (.slice oa (outOf r (k : Int)).length oc) (.slice a3 t.length c3) BW.out (by omega))
        have g0 := BGF.out.cell 0 _ rfl
        have g1 := BGF.out.cell 1 _ rfl
        have g2 := BGF.out.cell 2 _ rfl
        have f0 := BGF.out.free 0
        have f1 := BGF.out.free 1
        have f2 := BGF.out.free 2
        go_wp2
        generalize (((V4.setCell ⟨w.heap.size + 1, 0, none⟩ (.slice (some ⟨g, 0, none⟩) l.length c1)).setCell ⟨w.heap.size + 1, 1, none⟩ (.slice oa (outOf r (k : Int)).length oc)).setCell ⟨w.heap.size + 1, 2, none⟩ (.slice a3 t.length c3)) = W9 at *
        have e0 := G1.out.cell 0 _ rfl
        have e1 := G1.out.cell 1 _ rfl
        have e2 := G1.out.cell 2 _ rfl
        (try simp only [Exit.inBlock, Exit.then])
        refine bodyPost_ret (v := .tuple #[.agg #[.slice (some ⟨g, 0, none⟩) l.length c1, .slice oa (outOf r (k : Int)).length oc, .slice a3 t.length c3], .int .i64 0]) (by simp [results, Tryz.results6, go_sem, e0, e1, e2]) rfl ?_
        exact ⟨_, _, _, _, _, _, _, _, _, by rw [HO.out.1]; rfl, by rw [HO.out.2.1, HO.out.2.2.1, HO.out.2.2.2, setAt_of HKQ.out, HBL.out]; exact T1.out, BF.out⟩
      have hdu : 0 ≤ du := by
        have h0 := HKX.out.2.2
        omega
      have e0d : decide (0 ≤ du) = true := decide_eq_true hdu
      have HBL : Hid (Rb.blkT t (k : Int) du = srt (t ++ [(⟨(k : Int), du⟩ : Tm)])) := by
        unfold Hid Rb.blkT
        rw [if_neg hd, Rb.oth_self HNT.out]
      clear hd hdu
      have X5 := new_below V4 (.cells #[.int .i64 (k : Int), .int .i64 du] 61)
      have M5 := hide (M4.out.below X5)
      have XB5 : Hid (Bl (V4.alloc (.cells #[.int .i64 (k : Int), .int .i64 du] 61)) V4.heap.size [.int .i64 (k : Int), .int .i64 du]) := bl_alloc V4 #[.int .i64 (k : Int), .int .i64 du] 61
      have XZ5 : Hid (V4.heap.size < (V4.alloc (.cells #[.int .i64 (k : Int), .int .i64 du] 61)).heap.size) := by unfold Hid; simp
      have XNE : Hid (mb ≠ V4.heap.size) := by have := M4.out.lt; unfold Hid; omega
      have Y5 := hide (Y4.out.trans (X5.mono Y4.out.size))
      clear X5
      go_upto_region 14 with fail
      generalize V4.alloc (.cells #[.int .i64 (k : Int), .int .i64 du] 61) = V5 at *
      generalize V4.heap.size = xb at *
      have g2 := M5.out.bl.cell 2 _ rfl
      have f2 := M5.out.bl.free 2
      have M6 := hide (M5.out.timers (Below.refl _ _) (town_nil V5 V5.heap.size)).1
      have Y6 := hide (Y5.out.trans (M5.out.timers (Below.refl _ _) (town_nil V5 V5.heap.size)).2)
      have XB6 := hide (XB5.out.far (g' := mb) (k := 2) (u := .slice none 0 0) XNE.out)
      have XZ6 : Hid (xb < (V5.setCell ⟨mb, 2, none⟩ (.slice none 0 0)).heap.size) := by
        have := XZ5.out
        unfold Hid
        simpa [World.setCell] using this
      go_upto_region 15 with fail
      clear g2 f2
      generalize V5.setCell ⟨mb, 2, none⟩ (.slice none 0 0) = V6 at *
      clear M0 M1 M2 M3 M4 M5 Y0 Y1 Y2 Y3 Y4 Y5 XB5 XZ5 hk0 hk1 e0d
      go_wp2
      go_loopw [14, 15] (fun dv i wr => ∃ (j : Nat) (dn : Bool) (a : Option Addr) (n c : Nat) (acc : List Tm), j ≤ tn ∧ dv = .bool dn ∧ i = .int .i64 (j : Int) ∧ Hid (Mine wr wc.heap.size mb (.slice (some ⟨g, 0, none⟩) l.length c1) (.slice oa (outOf r (k : Int)).length oc) (.slice a n c) (l.set k (Rb.blockP q wt ob)) (outOf r (k : Int)) acc) ∧ Hid (Ins (⟨(k : Int), du⟩ : Tm) t j dn acc) ∧ Hid ((Value.slice a n c).ownBlock ≠ some xb) ∧ Hid (Bl wr xb [.int .i64 (k : Int), .int .i64 du]) ∧ Hid (xb < wr.heap.size) ∧ Hid (Below wc.heap.size wc wr)) (fun _ i _ => tn - (intOf i).toNat)
      case atStart => exact ⟨0, false, none, 0, 0, [], by omega, rfl, rfl, M6.out, ins_zero _ _, by unfold Hid; simp [Value.ownBlock], XB6.out, XZ6.out, Y6.out⟩
      case round =>
        clear M6 XB6 XZ6 Y6
        obtain ⟨j, dn, a, n, c, acc, hj, rfl, rfl, hM, hI, hF, hX, hXZ, hb⟩ := hrel
        have b2 := (BX.out.below (Nat.lt_of_succ_lt hl3.out) hb.out).cell 2 _ rfl
        have LO : Hid (acc.length ≤ 20) := by
          have h1 := hI.out.len
          have h2 := HLT.out
          have h3 := HP8.out
          unfold Hid
          omega
        have HFX := hide hF.out
        have ht8 : tn ≤ 8 := HP8.out.2.2
        by_cases hlt : j < tn
        · obtain ⟨y, hy⟩ : ∃ y, t[j]? = some y := ⟨_, List.getElem?_eq_getElem (by rw [HLT.out]; exact hlt)⟩
          obtain ⟨b, off, rfl, hr⟩ := HT.out.at tm2 (by decide) hy
          have HRG := hide hr
          have HBB : Hid (b < wc.heap.size) := block_lt_of_cell (hr 0 _ rfl)
          have HCT : Hid (∀ wz, Below wc.heap.size wc wz → (fun wz => wz.cell? ⟨w.heap.size, 2, none⟩ = some (.slice (some ⟨b, off, none⟩) tn tc) ∧ wz.cell? ⟨b, off + j * 2, none⟩ = some (.int .i64 y.proc) ∧ wz.cell? ⟨b, off + j * 2 + 1, none⟩ = some (.int .i64 y.due)) wz) := fun wz hz => by
            refine ⟨(BX.out.below (Nat.lt_of_succ_lt hl3.out) hz).cell 2 _ rfl, ?_, ?_⟩
            · rw [hz.cell (p := ⟨b, off + j * 2, none⟩) HBB.out]; exact HRG.out 0 _ rfl
            · rw [hz.cell (p := ⟨b, off + j * 2 + 1, none⟩) HBB.out]; exact HRG.out 1 _ rfl
          have hj1 : (j : Int) < (tn : Int) := by omega
          have HY := hide hy
          have HO2 := hide HGD.out.2.2.2.1.2.2
          clear hr hy
          cases dn
          · --
            go_upto_region 19 with fail
            clear b2
            have HW := hide (Below.refl wr.heap.size wr)
            have HC9 : Hid (∀ wz, Below wr.heap.size wr wz → (fun wz => wz.cell? ⟨xb, 0, none⟩ = some (.int .i64 (k : Int)) ∧ wz.cell? ⟨xb, 1, none⟩ = some (.int .i64 du) ∧ wz.cell? ⟨w.heap.size, 2, none⟩ = some (.slice (some ⟨b, off, none⟩) tn tc) ∧ wz.cell? ⟨b, off + j * 2, none⟩ = some (.int .i64 y.proc) ∧ wz.cell? ⟨b, off + j * 2 + 1, none⟩ = some (.int .i64 y.due)) wz) := fun wz hz => by
              have h1 := hX.out.below hXZ.out hz
              exact ⟨h1.cell 0 _ rfl, h1.cell 1 _ rfl, HCT.out wz (hb.out.trans (hz.mono hb.out.size))⟩
            go_region_held3 (fun wz => wz.cell? ⟨xb, 0, none⟩ = some (.int .i64 (k : Int)) ∧ wz.cell? ⟨xb, 1, none⟩ = some (.int .i64 du) ∧ wz.cell? ⟨w.heap.size, 2, none⟩ = some (.slice (some ⟨b, off, none⟩) tn tc) ∧ wz.cell? ⟨b, off + j * 2, none⟩ = some (.int .i64 y.proc) ∧ wz.cell? ⟨b, off + j * 2 + 1, none⟩ = some (.int .i64 y.due))
              (first | exact HC9.out _ HW.out | exact HC9.out _ HW.out.drew)
              (first
                | (go_at_call 26; refine (rahead_any (⟨(k : Int), du⟩ : Tm) y _).mono ?_; rintro e wa ⟨rfl, bf⟩; have HW := hide (chain HW.out (by first | exact bf | exact undrewB bf)); clear bf)
                | fail)
            have HMW := hide (hM.out.below HW.out)
            have XBW := hide (hX.out.below hXZ.out HW.out)
            have XZW : Hid (xb < wa.heap.size) := Nat.lt_of_lt_of_le hXZ.out HW.out.size
            have YW := hide (hb.out.trans (HW.out.mono hb.out.size))
            clear HW HC9 hM hX hXZ hb
            cases hlt9 : Tm.lt (⟨(k : Int), du⟩ : Tm) y
            · go_upto_region 22 with fail
              have HMX := hide HMW.out
              have XBC := hide XBW.out
              have XZC := hide XZW.out
              have YC := hide YW.out
              have C0 : Hid (Below wc.heap.size wc wa.drew) := YC.out.drew
              have HM0 := hide (HMX.out.below (Below.refl _ _).drew)
              have XB0 := hide (XBC.out.below XZC.out (Below.refl _ _).drew)
              have XZ0 : Hid (xb < wa.drew.heap.size) := XZC.out
              refine wp_region_held_drew (S := fun wz => wz.cell? ⟨w.heap.size, 2, none⟩ = some (.slice (some ⟨b, off, none⟩) tn tc) ∧ wz.cell? ⟨b, off + j * 2, none⟩ = some (.int .i64 y.proc) ∧ wz.cell? ⟨b, off + j * 2 + 1, none⟩ = some (.int .i64 y.due)) (by kernel_rfl) (HCT.out _ C0.out) (fun hHeld => ?_)
              generalize wa.drew = Y0w at *
              refine wpAnyH_take (i := 0) (oi := { dst := some 110, op := Go.Op.fieldAddr 26 (Go.Operand.tmp 12) 2, type := 0, pos := "ref.go:193", after := #[], guard := none }) (v := ?_) rfl (by kernel_rfl) (by kernel_rfl) (by kernel_rfl) (fun _ _ _ h => h) (Or.inl ⟨by rfl, ?_⟩) (by assumption) ?_
              rotate_left
              · intro w hSw
                try dsimp only at hSw
                go_simp
                try with_reducible rfl
              simp only [Act.put, List.setIfInBounds_toArray, List.set_cons_zero, List.set_cons_succ]
              refine wpAnyH_take (i := 2) (oi := { dst := some 112, op := Go.Op.fieldAddr 26 (Go.Operand.tmp 5) 2, type := 0, pos := "ref.go:193", after := #[], guard := none }) (v := ?_) rfl (by kernel_rfl) (by kernel_rfl) (by kernel_rfl) (fun _ _ _ h => h) (Or.inl ⟨by rfl, ?_⟩) (by assumption) ?_
              rotate_left
              · intro w hSw
                try dsimp only at hSw
                go_simp
                try with_reducible rfl
              simp only [Act.put, List.setIfInBounds_toArray, List.set_cons_zero, List.set_cons_succ]
              refine wpAnyH_take (i := 3) (oi := { dst := some 113, op := Go.Op.load 24 (Go.Operand.tmp 112), type := 24, pos := "ref.go:193", after := #[{ on := 2, ground := Go.Ground.data }], guard := none }) (v := ?_) rfl (by kernel_rfl) (by kernel_rfl) (by kernel_rfl) (fun _ _ _ h => h) (Or.inl ⟨by rfl, ?_⟩) (by assumption) ?_
              rotate_left
              · intro w hSw
                try dsimp only at hSw
                go_simp
                try with_reducible rfl
              simp only [Act.put, List.setIfInBounds_toArray, List.set_cons_zero, List.set_cons_succ]
              refine wpAnyH_take (i := 4) (oi := { dst := some 114, op := Go.Op.move (Go.Operand.tmp 15), type := 3, pos := "ref.go:193", after := #[], guard := none }) (v := ?_) rfl (by kernel_rfl) (by kernel_rfl) (by kernel_rfl) (fun _ _ _ h => h) (Or.inl ⟨by rfl, ?_⟩) (by assumption) ?_
              rotate_left
              · intro w hSw
                try dsimp only at hSw
                go_simp
                try with_reducible rfl
              simp only [Act.put, List.setIfInBounds_toArray, List.set_cons_zero, List.set_cons_succ]
              refine wpAnyH_take (i := 5) (oi := { dst := some 115, op := Go.Op.indexAddr 24 (Go.Operand.tmp 113) (Go.Operand.tmp 114), type := 0, pos := "ref.go:193", after := #[{ on := 3, ground := Go.Ground.data }, { on := 4, ground := Go.Ground.data }], guard := none }) (v := ?_) rfl (by kernel_rfl) (by kernel_rfl) (by kernel_rfl) (fun _ _ _ h => h) (Or.inl ⟨by rfl, ?_⟩) (by assumption) ?_
              rotate_left
              · intro w hSw
                try dsimp only at hSw
                go_simp
                try with_reducible rfl
              simp only [Act.put, List.setIfInBounds_toArray, List.set_cons_zero, List.set_cons_succ]
              refine wpAnyH_take (i := 6) (oi := { dst := some 116, op := Go.Op.load 61 (Go.Operand.tmp 115), type := 61, pos := "ref.go:193", after := #[{ on := 5, ground := Go.Ground.data }], guard := none }) (v := ?_) rfl (by kernel_rfl) (by kernel_rfl) (by kernel_rfl) (fun _ _ _ h => h) (Or.inl ⟨by rfl, ?_⟩) (by assumption) ?_
              rotate_left
              · intro w hSw
                try dsimp only at hSw
                go_simp
                try with_reducible rfl
              simp only [Act.put, List.setIfInBounds_toArray, List.set_cons_zero, List.set_cons_succ]
              have m2 := HM0.out.bl.cell 2 _ rfl
              refine wpAnyH_ready (rs := [1, 7]) (by kernel_rfl) (by simp) ?_
              refine AllReadyH.cons (o := { dst := some 111, op := Go.Op.load 24 (Go.Operand.tmp 110), type := 24, pos := "ref.go:193", after := #[{ on := 0, ground := Go.Ground.data }], guard := none }) rfl (fun K hK => ?_) (AllReadyH.cons (o := { dst := some 117, op := Go.Op.buildSlice 24 1 #[(0, Go.Operand.tmp 116)], type := 24, pos := "ref.go:193", after := #[{ on := 6, ground := Go.Ground.data }], guard := none }) rfl (fun K hK => ?_) AllReadyH.nil)
              · go_simp
                try go_wp2_with fail
                refine hK.out _ _ (HCT.out _ C0.out) (fun hHeld2 => ?_)
                clear hK K hHeld
                have hHeld := hHeld2
                clear hHeld2
                try simp only [Act.put, List.setIfInBounds_toArray, List.set_cons_zero, List.set_cons_succ]
                refine wpAnyH_ready (rs := [7]) (by kernel_rfl) (by simp) ?_
                refine AllReadyH.cons (o := { dst := some 117, op := Go.Op.buildSlice 24 1 #[(0, Go.Operand.tmp 116)], type := 24, pos := "ref.go:193", after := #[{ on := 6, ground := Go.Ground.data }], guard := none }) rfl (fun K hK => ?_) (AllReadyH.nil)
                have XA := new_below Y0w (.cells #[.int .i64 y.proc, .int .i64 y.due] 61)
                have HMA := hide (HM0.out.below XA)
                have XBA := hide (XB0.out.below XZ0.out XA)
                have XZA : Hid (xb < (Y0w.alloc (.cells #[.int .i64 y.proc, .int .i64 y.due] 61)).heap.size) := Nat.lt_of_lt_of_le XZ0.out XA.size
                have BA := hide (C0.out.trans (XA.mono C0.out.size))
                have NA := hide (bl_alloc Y0w #[.int .i64 y.proc, .int .i64 y.due] 61)
                have ma2 := HMA.out.bl.cell 2 _ rfl
                clear XA
                go_simp
                try go_wp2_with fail
                refine hK.out _ _ (HCT.out _ BA.out) (fun hHeld2 => ?_)
                clear hK K hHeld
                have hHeld := hHeld2
                clear hHeld2
                try simp only [Act.put, List.setIfInBounds_toArray, List.set_cons_zero, List.set_cons_succ]
                generalize Y0w.alloc (.cells #[.int .i64 y.proc, .int .i64 y.due] 61) = Y1w at *
                generalize Y0w.heap.size = ya at *
                refine wpAnyH_ready (rs := [8]) (by kernel_rfl) (by simp) ?_
                refine AllReadyH.cons (o := { dst := some 118, op := Go.Op.call { callee := Go.Callee.builtin Go.Builtin.append, args := #[Go.Operand.tmp 111, Go.Operand.tmp 117], argTypes := #[24, 24] }, type := 24, pos := "ref.go:193", after := #[{ on := 1, ground := Go.Ground.data }, { on := 7, ground := Go.Ground.data }], guard := none }) rfl (fun K hK => ?_) (AllReadyH.nil)
                rw [if_pos (by rfl)]
                obtain ⟨i9, z9, h92, h93, h94, h95, h96⟩ := infoTimer
                refine wp_append_lies Y1w (.tmp 111) (.tmp 117) 24 rfl wc.heap.size 61 i9 z9 2 16 Tryz.underlying24 h92 h93 h94 h95 h96 (by decide) (.slice a n c) acc.length (acc.flatMap Tm.cells) rfl HMA.out.tab.t ⟨ya, 0, none⟩ 1 1 y.cells rfl rfl (fun i u hu => by rw [add_lit', Nat.zero_add]; exact NA.out.cell i u hu) (fun u hu => tm_one [y] u (by simpa using hu)) (by decide) (by have := LO.out; unfold maxLen; omega) (by have := LO.out; omega) BA.out.size _ rfl ?_
                intro g8 c8 w8 ho8 hg8 hat8 hlt8
                have hat9 : (Value.slice (some ⟨g8, 0, none⟩) (acc.length + 1) c8).ownBlock = (Value.slice a n c).ownBlock ∨ (Value.slice (some ⟨g8, 0, none⟩) (acc.length + 1) c8).ownBlock = some Y1w.heap.size := hat8.elim (fun e => .inl e.symm) (fun e => .inr (congrArg some e))
                have ho9 : TOwn w8 wc.heap.size (.slice (some ⟨g8, 0, none⟩) (acc.length + 1) c8) (acc ++ [y]) := by
                  unfold TOwn
                  rw [List.length_append, List.flatMap_append]
                  simpa using ho8
                have HR := hide (HMA.out.times hg8 ho9 hat9)
                have FX9 : Hid ((Value.slice (some ⟨g8, 0, none⟩) (acc.length + 1) c8).ownBlock ≠ some xb) := by
                  rcases hat9 with e | e
                  · rw [e]; exact HFX.out
                  · rw [e]
                    intro e'
                    have := Option.some.inj e'
                    have := XZA.out
                    omega
                have XB9 := hide ((XBA.out.grown XZA.out hg8 (fun e => HFX.out e.symm)).far (g' := mb) (k := 2) (u := .slice (some ⟨g8, 0, none⟩) (acc.length + 1) c8) XNE.out)
                have XZ9 : Hid (xb < (w8.setCell ⟨mb, 2, none⟩ (.slice (some ⟨g8, 0, none⟩) (acc.length + 1) c8)).heap.size) := by
                  have h1 := XZA.out
                  have h2 := hg8.size
                  unfold Hid
                  simp [World.setCell]
                  omega
                have GB := HMA.out.bl.grown HMA.out.lt hg8 (fun e => HMA.out.f3 e.symm)
                have s2 := GB.cell 2 _ rfl
                have sf := GB.free 2
                have B8 := hide (BA.out.grown hg8 BA.out.size (fun i e => (HMA.out.tab.t.lt i e).1))
                have B9 := hide (BA.out.trans HR.out.2)
                clear ho8 hat8 hat9 ho9 GB hg8 hlt8 h92 h93 h94 h95 h96
                refine hK.out _ _ (HCT.out _ B8.out) (fun hHeld2 => ?_)
                clear hK K hHeld
                have hHeld := hHeld2
                clear hHeld2
                try simp only [Act.put, List.setIfInBounds_toArray, List.set_cons_zero, List.set_cons_succ]
                refine wpAnyH_take (i := 9) (oi := { dst := some 119, op := Go.Op.fieldAddr 26 (Go.Operand.tmp 12) 2, type := 0, pos := "ref.go:193", after := #[{ on := 0, ground := Go.Ground.phase }, { on := 1, ground := Go.Ground.phase }, { on := 2, ground := Go.Ground.phase }, { on := 3, ground := Go.Ground.phase }, { on := 4, ground := Go.Ground.phase }, { on := 5, ground := Go.Ground.phase }, { on := 6, ground := Go.Ground.phase }, { on := 7, ground := Go.Ground.phase }, { on := 8, ground := Go.Ground.phase }], guard := none }) (v := ?_) rfl (by kernel_rfl) (by kernel_rfl) (by kernel_rfl) (fun _ _ _ h => h) (Or.inl ⟨by rfl, ?_⟩) (by assumption) ?_
                rotate_left
                · intro w hSw
                  try dsimp only at hSw
                  go_simp
                  try with_reducible rfl
                simp only [Act.put, List.setIfInBounds_toArray, List.set_cons_zero, List.set_cons_succ]
                refine wpAnyH_ready (rs := [10]) (by kernel_rfl) (by simp) ?_
                refine AllReadyH.cons (o := { dst := none, op := Go.Op.store 24 (Go.Operand.tmp 119) (Go.Operand.tmp 118), type := 0, pos := "ref.go:193", after := #[{ on := 9, ground := Go.Ground.data }, { on := 8, ground := Go.Ground.data }, { on := 8, ground := Go.Ground.chain }, { on := 0, ground := Go.Ground.phase }, { on := 1, ground := Go.Ground.phase }, { on := 2, ground := Go.Ground.phase }, { on := 3, ground := Go.Ground.phase }, { on := 4, ground := Go.Ground.phase }, { on := 5, ground := Go.Ground.phase }, { on := 6, ground := Go.Ground.phase }, { on := 7, ground := Go.Ground.phase }, { on := 8, ground := Go.Ground.phase }], guard := none }) rfl (fun K hK => ?_) (AllReadyH.nil)
                go_simp
                try go_wp2_with fail
                refine hK.out _ _ (HCT.out _ B9.out) (fun hHeld2 => ?_)
                clear hK K hHeld
                have hHeld := hHeld2
                clear hHeld2
                try simp only [Act.put, List.setIfInBounds_toArray, List.set_cons_zero, List.set_cons_succ]
                have M9 := hide HR.out.1
                clear HR s2 sf
                generalize w8.setCell ⟨mb, 2, none⟩ (.slice (some ⟨g8, 0, none⟩) (acc.length + 1) c8) = W9 at *
                refine wpAnyH_done (by kernel_rfl) ?_ _
                go_wp2
                go_roundw
                case rel => exact ⟨j + 1, false, _, _, _, _, by omega, rfl, by go_num, M9.out, hI.out.no HY.out hlt9, FX9.out, XB9.out, XZ9.out, B9.out⟩
                case measure => simp [intOf]; omega
              · have XA := new_below Y0w (.cells #[.int .i64 y.proc, .int .i64 y.due] 61)
                have HMA := hide (HM0.out.below XA)
                have XBA := hide (XB0.out.below XZ0.out XA)
                have XZA : Hid (xb < (Y0w.alloc (.cells #[.int .i64 y.proc, .int .i64 y.due] 61)).heap.size) := Nat.lt_of_lt_of_le XZ0.out XA.size
                have BA := hide (C0.out.trans (XA.mono C0.out.size))
                have NA := hide (bl_alloc Y0w #[.int .i64 y.proc, .int .i64 y.due] 61)
                have ma2 := HMA.out.bl.cell 2 _ rfl
                clear XA
                go_simp
                try go_wp2_with fail
                refine hK.out _ _ (HCT.out _ BA.out) (fun hHeld2 => ?_)
                clear hK K hHeld
                have hHeld := hHeld2
                clear hHeld2
                try simp only [Act.put, List.setIfInBounds_toArray, List.set_cons_zero, List.set_cons_succ]
                generalize Y0w.alloc (.cells #[.int .i64 y.proc, .int .i64 y.due] 61) = Y1w at *
                generalize Y0w.heap.size = ya at *
                refine wpAnyH_ready (rs := [1]) (by kernel_rfl) (by simp) ?_
                refine AllReadyH.cons (o := { dst := some 111, op := Go.Op.load 24 (Go.Operand.tmp 110), type := 24, pos := "ref.go:193", after := #[{ on := 0, ground := Go.Ground.data }], guard := none }) rfl (fun K hK => ?_) (AllReadyH.nil)
                go_simp
                try go_wp2_with fail
                refine hK.out _ _ (HCT.out _ BA.out) (fun hHeld2 => ?_)
                clear hK K hHeld
                have hHeld := hHeld2
                clear hHeld2
                try simp only [Act.put, List.setIfInBounds_toArray, List.set_cons_zero, List.set_cons_succ]
                refine wpAnyH_ready (rs := [8]) (by kernel_rfl) (by simp) ?_
                refine AllReadyH.cons (o := { dst := some 118, op := Go.Op.call { callee := Go.Callee.builtin Go.Builtin.append, args := #[Go.Operand.tmp 111, Go.Operand.tmp 117], argTypes := #[24, 24] }, type := 24, pos := "ref.go:193", after := #[{ on := 1, ground := Go.Ground.data }, { on := 7, ground := Go.Ground.data }], guard := none }) rfl (fun K hK => ?_) (AllReadyH.nil)
                rw [if_pos (by rfl)]
                obtain ⟨i9, z9, h92, h93, h94, h95, h96⟩ := infoTimer
                refine wp_append_lies Y1w (.tmp 111) (.tmp 117) 24 rfl wc.heap.size 61 i9 z9 2 16 Tryz.underlying24 h92 h93 h94 h95 h96 (by decide) (.slice a n c) acc.length (acc.flatMap Tm.cells) rfl HMA.out.tab.t ⟨ya, 0, none⟩ 1 1 y.cells rfl rfl (fun i u hu => by rw [add_lit', Nat.zero_add]; exact NA.out.cell i u hu) (fun u hu => tm_one [y] u (by simpa using hu)) (by decide) (by have := LO.out; unfold maxLen; omega) (by have := LO.out; omega) BA.out.size _ rfl ?_
                intro g8 c8 w8 ho8 hg8 hat8 hlt8
                have hat9 : (Value.slice (some ⟨g8, 0, none⟩) (acc.length + 1) c8).ownBlock = (Value.slice a n c).ownBlock ∨ (Value.slice (some ⟨g8, 0, none⟩) (acc.length + 1) c8).ownBlock = some Y1w.heap.size := hat8.elim (fun e => .inl e.symm) (fun e => .inr (congrArg some e))
                have ho9 : TOwn w8 wc.heap.size (.slice (some ⟨g8, 0, none⟩) (acc.length + 1) c8) (acc ++ [y]) := by
                  unfold TOwn
                  rw [List.length_append, List.flatMap_append]
                  simpa using ho8
                have HR := hide (HMA.out.times hg8 ho9 hat9)
                have FX9 : Hid ((Value.slice (some ⟨g8, 0, none⟩) (acc.length + 1) c8).ownBlock ≠ some xb) := by
                  rcases hat9 with e | e
                  · rw [e]; exact HFX.out
                  · rw [e]
                    intro e'
                    have := Option.some.inj e'
                    have := XZA.out
                    omega
                have XB9 := hide ((XBA.out.grown XZA.out hg8 (fun e => HFX.out e.symm)).far (g' := mb) (k := 2) (u := .slice (some ⟨g8, 0, none⟩) (acc.length + 1) c8) XNE.out)
                have XZ9 : Hid (xb < (w8.setCell ⟨mb, 2, none⟩ (.slice (some ⟨g8, 0, none⟩) (acc.length + 1) c8)).heap.size) := by
                  have h1 := XZA.out
                  have h2 := hg8.size
                  unfold Hid
                  simp [World.setCell]
                  omega
                have GB := HMA.out.bl.grown HMA.out.lt hg8 (fun e => HMA.out.f3 e.symm)
                have s2 := GB.cell 2 _ rfl
                have sf := GB.free 2
                have B8 := hide (BA.out.grown hg8 BA.out.size (fun i e => (HMA.out.tab.t.lt i e).1))
                have B9 := hide (BA.out.trans HR.out.2)
                clear ho8 hat8 hat9 ho9 GB hg8 hlt8 h92 h93 h94 h95 h96
                refine hK.out _ _ (HCT.out _ B8.out) (fun hHeld2 => ?_)
                clear hK K hHeld
                have hHeld := hHeld2
                clear hHeld2
                try simp only [Act.put, List.setIfInBounds_toArray, List.set_cons_zero, List.set_cons_succ]
                refine wpAnyH_take (i := 9) (oi := { dst := some 119, op := Go.Op.fieldAddr 26 (Go.Operand.tmp 12) 2, type := 0, pos := "ref.go:193", after := #[{ on := 0, ground := Go.Ground.phase }, { on := 1, ground := Go.Ground.phase }, { on := 2, ground := Go.Ground.phase }, { on := 3, ground := Go.Ground.phase }, { on := 4, ground := Go.Ground.phase }, { on := 5, ground := Go.Ground.phase }, { on := 6, ground := Go.Ground.phase }, { on := 7, ground := Go.Ground.phase }, { on := 8, ground := Go.Ground.phase }], guard := none }) (v := ?_) rfl (by kernel_rfl) (by kernel_rfl) (by kernel_rfl) (fun _ _ _ h => h) (Or.inl ⟨by rfl, ?_⟩) (by assumption) ?_
                rotate_left
                · intro w hSw
                  try dsimp only at hSw
                  go_simp
                  try with_reducible rfl
                simp only [Act.put, List.setIfInBounds_toArray, List.set_cons_zero, List.set_cons_succ]
                refine wpAnyH_ready (rs := [10]) (by kernel_rfl) (by simp) ?_
                refine AllReadyH.cons (o := { dst := none, op := Go.Op.store 24 (Go.Operand.tmp 119) (Go.Operand.tmp 118), type := 0, pos := "ref.go:193", after := #[{ on := 9, ground := Go.Ground.data }, { on := 8, ground := Go.Ground.data }, { on := 8, ground := Go.Ground.chain }, { on := 0, ground := Go.Ground.phase }, { on := 1, ground := Go.Ground.phase }, { on := 2, ground := Go.Ground.phase }, { on := 3, ground := Go.Ground.phase }, { on := 4, ground := Go.Ground.phase }, { on := 5, ground := Go.Ground.phase }, { on := 6, ground := Go.Ground.phase }, { on := 7, ground := Go.Ground.phase }, { on := 8, ground := Go.Ground.phase }], guard := none }) rfl (fun K hK => ?_) (AllReadyH.nil)
                go_simp
                try go_wp2_with fail
                refine hK.out _ _ (HCT.out _ B9.out) (fun hHeld2 => ?_)
                clear hK K hHeld
                have hHeld := hHeld2
                clear hHeld2
                try simp only [Act.put, List.setIfInBounds_toArray, List.set_cons_zero, List.set_cons_succ]
                have M9 := hide HR.out.1
                clear HR s2 sf
                generalize w8.setCell ⟨mb, 2, none⟩ (.slice (some ⟨g8, 0, none⟩) (acc.length + 1) c8) = W9 at *
                refine wpAnyH_done (by kernel_rfl) ?_ _
                go_wp2
                go_roundw
                case rel => exact ⟨j + 1, false, _, _, _, _, by omega, rfl, by go_num, M9.out, hI.out.no HY.out hlt9, FX9.out, XB9.out, XZ9.out, B9.out⟩
                case measure => simp [intOf]; omega
            · go_upto_region 20 with fail
              have HXM := hide infoTimer
              have x0 := XBW.out.cell 0 _ rfl
              have x1 := XBW.out.cell 1 _ rfl
              have c2 := HMW.out.bl.cell 2 _ rfl
              have X4 := new_below wa (.cells #[.int .i64 (k : Int), .int .i64 du] 61)
              have HMA := hide (HMW.out.below X4)
              have XBA := hide (XBW.out.below XZW.out X4)
              have XZA : Hid (xb < (wa.alloc (.cells #[.int .i64 (k : Int), .int .i64 du] 61)).heap.size) := Nat.lt_of_lt_of_le XZW.out X4.size
              have YA := hide (YW.out.trans (X4.mono YW.out.size))
              clear X4
              go_upto_region 21 with (at_builtin; refine append_rec rfl (.tmp 105) (.tmp 107) 24 61 rfl Tryz.underlying24 HXM.out (by decide) wc.heap.size _ _ _ rfl HMA.out.tab.t wa.heap.size 1 [.int .i64 (k : Int), .int .i64 du] rfl rfl (fun i u hu => by rw [World.cell?_alloc_at _ _ _ _ (by simp)]; simpa using hu) (fun u hu => tm_one [⟨(k : Int), du⟩] u (by simpa [Tm.cells] using hu)) (by have := LO.out; unfold maxLen; omega) (by have := LO.out; omega) YA.out.size ?_; intro g7 c7 w7 ho7 hg7 hat7 hlt7; have G7 := hide hg7; have A7 := hide hat7; have O7 := hide ho7; have GB := HMA.out.bl.grown HMA.out.lt hg7 (fun e => HMA.out.f3 e.symm); have g2 := GB.cell 2 _ rfl; have f2 := GB.free 2; clear hg7 hat7 ho7 GB)
              clear x0 x1 c2 g2 f2
              have hg7 : (wa.alloc (.cells #[.int .i64 (k : Int), .int .i64 du] 61)).grownBy w7 (Value.slice a n c).ownBlock := G7.out
              have hat9 : (Value.slice (some ⟨g7, 0, none⟩) (acc.length + 1) c7).ownBlock = (Value.slice a n c).ownBlock ∨ (Value.slice (some ⟨g7, 0, none⟩) (acc.length + 1) c7).ownBlock = some (wa.alloc (.cells #[.int .i64 (k : Int), .int .i64 du] 61)).heap.size := A7.out.elim (fun e => .inl e.symm) (fun e => .inr (congrArg some e))
              have ho9 : TOwn w7 wc.heap.size (.slice (some ⟨g7, 0, none⟩) (acc.length + 1) c7) (acc ++ [⟨(k : Int), du⟩]) := by
                unfold TOwn
                rw [List.length_append, List.flatMap_append]
                simpa [Tm.cells] using O7.out
              have HR := hide (HMA.out.times hg7 ho9 hat9)
              have FXX : Hid ((Value.slice (some ⟨g7, 0, none⟩) (acc.length + 1) c7).ownBlock ≠ some xb) := by
                rcases hat9 with e | e
                · rw [e]; exact HFX.out
                · rw [e]
                  intro e'
                  have := Option.some.inj e'
                  have := XZA.out
                  omega
              have XBN := hide ((XBA.out.grown XZA.out hg7 (fun e => HFX.out e.symm)).far (g' := mb) (k := 2) (u := .slice (some ⟨g7, 0, none⟩) (acc.length + 1) c7) XNE.out)
              have XZN : Hid (xb < (w7.setCell ⟨mb, 2, none⟩ (.slice (some ⟨g7, 0, none⟩) (acc.length + 1) c7)).heap.size) := by
                have h1 := XZA.out
                have h2 := hg7.size
                unfold Hid
                simp [World.setCell]
                omega
              have YN := hide (YA.out.trans HR.out.2)
              have MN := hide HR.out.1
              clear HR hg7 hat9 ho9 G7 A7 O7 HMA XBA XZA YA hlt7
              generalize w7.setCell ⟨mb, 2, none⟩ (.slice (some ⟨g7, 0, none⟩) (acc.length + 1) c7) = WN at *
              go_upto_region 22 with fail
              obtain ⟨acc2, ha2⟩ : ∃ z, z = acc ++ [(⟨(k : Int), du⟩ : Tm)] := ⟨_, rfl⟩
              rw [← ha2] at MN
              have HA2 := hide ha2
              have HMX := hide MN.out
              have XBC := hide XBN.out
              have XZC := hide XZN.out
              have YC := hide YN.out
              clear HFX
              have HFX := FXX
              have LO9 : Hid (acc2.length ≤ 30) := by have := LO.out; unfold Hid; rw [ha2, List.length_append]; simp; omega
              clear LO ha2 MN
              have LO := LO9
              clear LO9
              have C0 : Hid (Below wc.heap.size wc WN.drew) := YC.out.drew
              have HM0 := hide (HMX.out.below (Below.refl _ _).drew)
              have XB0 := hide (XBC.out.below XZC.out (Below.refl _ _).drew)
              have XZ0 : Hid (xb < WN.drew.heap.size) := XZC.out
              refine wp_region_held_drew (S := fun wz => wz.cell? ⟨w.heap.size, 2, none⟩ = some (.slice (some ⟨b, off, none⟩) tn tc) ∧ wz.cell? ⟨b, off + j * 2, none⟩ = some (.int .i64 y.proc) ∧ wz.cell? ⟨b, off + j * 2 + 1, none⟩ = some (.int .i64 y.due)) (by kernel_rfl) (HCT.out _ C0.out) (fun hHeld => ?_)
              generalize WN.drew = Y0w at *
              refine wpAnyH_take (i := 0) (oi := { dst := some 110, op := Go.Op.fieldAddr 26 (Go.Operand.tmp 12) 2, type := 0, pos := "ref.go:193", after := #[], guard := none }) (v := ?_) rfl (by kernel_rfl) (by kernel_rfl) (by kernel_rfl) (fun _ _ _ h => h) (Or.inl ⟨by rfl, ?_⟩) (by assumption) ?_
              rotate_left
              · intro w hSw
                try dsimp only at hSw
                go_simp
                try with_reducible rfl
              simp only [Act.put, List.setIfInBounds_toArray, List.set_cons_zero, List.set_cons_succ]
              refine wpAnyH_take (i := 2) (oi := { dst := some 112, op := Go.Op.fieldAddr 26 (Go.Operand.tmp 5) 2, type := 0, pos := "ref.go:193", after := #[], guard := none }) (v := ?_) rfl (by kernel_rfl) (by kernel_rfl) (by kernel_rfl) (fun _ _ _ h => h) (Or.inl ⟨by rfl, ?_⟩) (by assumption) ?_
              rotate_left
              · intro w hSw
                try dsimp only at hSw
                go_simp
                try with_reducible rfl
              simp only [Act.put, List.setIfInBounds_toArray, List.set_cons_zero, List.set_cons_succ]
              refine wpAnyH_take (i := 3) (oi := { dst := some 113, op := Go.Op.load 24 (Go.Operand.tmp 112), type := 24, pos := "ref.go:193", after := #[{ on := 2, ground := Go.Ground.data }], guard := none }) (v := ?_) rfl (by kernel_rfl) (by kernel_rfl) (by kernel_rfl) (fun _ _ _ h => h) (Or.inl ⟨by rfl, ?_⟩) (by assumption) ?_
              rotate_left
              · intro w hSw
                try dsimp only at hSw
                go_simp
                try with_reducible rfl
              simp only [Act.put, List.setIfInBounds_toArray, List.set_cons_zero, List.set_cons_succ]
              refine wpAnyH_take (i := 4) (oi := { dst := some 114, op := Go.Op.move (Go.Operand.tmp 15), type := 3, pos := "ref.go:193", after := #[], guard := none }) (v := ?_) rfl (by kernel_rfl) (by kernel_rfl) (by kernel_rfl) (fun _ _ _ h => h) (Or.inl ⟨by rfl, ?_⟩) (by assumption) ?_
              rotate_left
              · intro w hSw
                try dsimp only at hSw
                go_simp
                try with_reducible rfl
              simp only [Act.put, List.setIfInBounds_toArray, List.set_cons_zero, List.set_cons_succ]
              refine wpAnyH_take (i := 5) (oi := { dst := some 115, op := Go.Op.indexAddr 24 (Go.Operand.tmp 113) (Go.Operand.tmp 114), type := 0, pos := "ref.go:193", after := #[{ on := 3, ground := Go.Ground.data }, { on := 4, ground := Go.Ground.data }], guard := none }) (v := ?_) rfl (by kernel_rfl) (by kernel_rfl) (by kernel_rfl) (fun _ _ _ h => h) (Or.inl ⟨by rfl, ?_⟩) (by assumption) ?_
              rotate_left
              · intro w hSw
                try dsimp only at hSw
                go_simp
                try with_reducible rfl
              simp only [Act.put, List.setIfInBounds_toArray, List.set_cons_zero, List.set_cons_succ]
              refine wpAnyH_take (i := 6) (oi := { dst := some 116, op := Go.Op.load 61 (Go.Operand.tmp 115), type := 61, pos := "ref.go:193", after := #[{ on := 5, ground := Go.Ground.data }], guard := none }) (v := ?_) rfl (by kernel_rfl) (by kernel_rfl) (by kernel_rfl) (fun _ _ _ h => h) (Or.inl ⟨by rfl, ?_⟩) (by assumption) ?_
              rotate_left
              · intro w hSw
                try dsimp only at hSw
                go_simp
                try with_reducible rfl
              simp only [Act.put, List.setIfInBounds_toArray, List.set_cons_zero, List.set_cons_succ]
              have m2 := HM0.out.bl.cell 2 _ rfl
              refine wpAnyH_ready (rs := [1, 7]) (by kernel_rfl) (by simp) ?_
              refine AllReadyH.cons (o := { dst := some 111, op := Go.Op.load 24 (Go.Operand.tmp 110), type := 24, pos := "ref.go:193", after := #[{ on := 0, ground := Go.Ground.data }], guard := none }) rfl (fun K hK => ?_) (AllReadyH.cons (o := { dst := some 117, op := Go.Op.buildSlice 24 1 #[(0, Go.Operand.tmp 116)], type := 24, pos := "ref.go:193", after := #[{ on := 6, ground := Go.Ground.data }], guard := none }) rfl (fun K hK => ?_) AllReadyH.nil)
              · go_simp
                try go_wp2_with fail
                refine hK.out _ _ (HCT.out _ C0.out) (fun hHeld2 => ?_)
                clear hK K hHeld
                have hHeld := hHeld2
                clear hHeld2
                try simp only [Act.put, List.setIfInBounds_toArray, List.set_cons_zero, List.set_cons_succ]
                refine wpAnyH_ready (rs := [7]) (by kernel_rfl) (by simp) ?_
                refine AllReadyH.cons (o := { dst := some 117, op := Go.Op.buildSlice 24 1 #[(0, Go.Operand.tmp 116)], type := 24, pos := "ref.go:193", after := #[{ on := 6, ground := Go.Ground.data }], guard := none }) rfl (fun K hK => ?_) (AllReadyH.nil)
                have XA := new_below Y0w (.cells #[.int .i64 y.proc, .int .i64 y.due] 61)
                have HMA := hide (HM0.out.below XA)
                have XBA := hide (XB0.out.below XZ0.out XA)
                have XZA : Hid (xb < (Y0w.alloc (.cells #[.int .i64 y.proc, .int .i64 y.due] 61)).heap.size) := Nat.lt_of_lt_of_le XZ0.out XA.size
                have BA := hide (C0.out.trans (XA.mono C0.out.size))
                have NA := hide (bl_alloc Y0w #[.int .i64 y.proc, .int .i64 y.due] 61)
                have ma2 := HMA.out.bl.cell 2 _ rfl
                clear XA
                go_simp
                try go_wp2_with fail
                refine hK.out _ _ (HCT.out _ BA.out) (fun hHeld2 => ?_)
                clear hK K hHeld
                have hHeld := hHeld2
                clear hHeld2
                try simp only [Act.put, List.setIfInBounds_toArray, List.set_cons_zero, List.set_cons_succ]
                generalize Y0w.alloc (.cells #[.int .i64 y.proc, .int .i64 y.due] 61) = Y1w at *
                generalize Y0w.heap.size = ya at *
                refine wpAnyH_ready (rs := [8]) (by kernel_rfl) (by simp) ?_
                refine AllReadyH.cons (o := { dst := some 118, op := Go.Op.call { callee := Go.Callee.builtin Go.Builtin.append, args := #[Go.Operand.tmp 111, Go.Operand.tmp 117], argTypes := #[24, 24] }, type := 24, pos := "ref.go:193", after := #[{ on := 1, ground := Go.Ground.data }, { on := 7, ground := Go.Ground.data }], guard := none }) rfl (fun K hK => ?_) (AllReadyH.nil)
                rw [if_pos (by rfl)]
                obtain ⟨i9, z9, h92, h93, h94, h95, h96⟩ := infoTimer
                refine wp_append_lies Y1w (.tmp 111) (.tmp 117) 24 rfl wc.heap.size 61 i9 z9 2 16 Tryz.underlying24 h92 h93 h94 h95 h96 (by decide) (.slice (some ⟨g7, 0, none⟩) (acc.length + 1) c7) acc2.length (acc2.flatMap Tm.cells) rfl HMA.out.tab.t ⟨ya, 0, none⟩ 1 1 y.cells rfl rfl (fun i u hu => by rw [add_lit', Nat.zero_add]; exact NA.out.cell i u hu) (fun u hu => tm_one [y] u (by simpa using hu)) (by decide) (by have := LO.out; unfold maxLen; omega) (by have := LO.out; omega) BA.out.size _ rfl ?_
                intro g8 c8 w8 ho8 hg8 hat8 hlt8
                have hat9 : (Value.slice (some ⟨g8, 0, none⟩) (acc2.length + 1) c8).ownBlock = (Value.slice (some ⟨g7, 0, none⟩) (acc.length + 1) c7).ownBlock ∨ (Value.slice (some ⟨g8, 0, none⟩) (acc2.length + 1) c8).ownBlock = some Y1w.heap.size := hat8.elim (fun e => .inl e.symm) (fun e => .inr (congrArg some e))
                have ho9 : TOwn w8 wc.heap.size (.slice (some ⟨g8, 0, none⟩) (acc2.length + 1) c8) (acc2 ++ [y]) := by
                  unfold TOwn
                  rw [List.length_append, List.flatMap_append]
                  simpa using ho8
                have HR := hide (HMA.out.times hg8 ho9 hat9)
                have FX9 : Hid ((Value.slice (some ⟨g8, 0, none⟩) (acc2.length + 1) c8).ownBlock ≠ some xb) := by
                  rcases hat9 with e | e
                  · rw [e]; exact HFX.out
                  · rw [e]
                    intro e'
                    have := Option.some.inj e'
                    have := XZA.out
                    omega
                have XB9 := hide ((XBA.out.grown XZA.out hg8 (fun e => HFX.out e.symm)).far (g' := mb) (k := 2) (u := .slice (some ⟨g8, 0, none⟩) (acc2.length + 1) c8) XNE.out)
                have XZ9 : Hid (xb < (w8.setCell ⟨mb, 2, none⟩ (.slice (some ⟨g8, 0, none⟩) (acc2.length + 1) c8)).heap.size) := by
                  have h1 := XZA.out
                  have h2 := hg8.size
                  unfold Hid
                  simp [World.setCell]
                  omega
                have GB := HMA.out.bl.grown HMA.out.lt hg8 (fun e => HMA.out.f3 e.symm)
                have s2 := GB.cell 2 _ rfl
                have sf := GB.free 2
                have B8 := hide (BA.out.grown hg8 BA.out.size (fun i e => (HMA.out.tab.t.lt i e).1))
                have B9 := hide (BA.out.trans HR.out.2)
                clear ho8 hat8 hat9 ho9 GB hg8 hlt8 h92 h93 h94 h95 h96
                refine hK.out _ _ (HCT.out _ B8.out) (fun hHeld2 => ?_)
                clear hK K hHeld
                have hHeld := hHeld2
                clear hHeld2
                try simp only [Act.put, List.setIfInBounds_toArray, List.set_cons_zero, List.set_cons_succ]
                refine wpAnyH_take (i := 9) (oi := { dst := some 119, op := Go.Op.fieldAddr 26 (Go.Operand.tmp 12) 2, type := 0, pos := "ref.go:193", after := #[{ on := 0, ground := Go.Ground.phase }, { on := 1, ground := Go.Ground.phase }, { on := 2, ground := Go.Ground.phase }, { on := 3, ground := Go.Ground.phase }, { on := 4, ground := Go.Ground.phase }, { on := 5, ground := Go.Ground.phase }, { on := 6, ground := Go.Ground.phase }, { on := 7, ground := Go.Ground.phase }, { on := 8, ground := Go.Ground.phase }], guard := none }) (v := ?_) rfl (by kernel_rfl) (by kernel_rfl) (by kernel_rfl) (fun _ _ _ h => h) (Or.inl ⟨by rfl, ?_⟩) (by assumption) ?_
                rotate_left
                · intro w hSw
                  try dsimp only at hSw
                  go_simp
                  try with_reducible rfl
                simp only [Act.put, List.setIfInBounds_toArray, List.set_cons_zero, List.set_cons_succ]
                refine wpAnyH_ready (rs := [10]) (by kernel_rfl) (by simp) ?_
                refine AllReadyH.cons (o := { dst := none, op := Go.Op.store 24 (Go.Operand.tmp 119) (Go.Operand.tmp 118), type := 0, pos := "ref.go:193", after := #[{ on := 9, ground := Go.Ground.data }, { on := 8, ground := Go.Ground.data }, { on := 8, ground := Go.Ground.chain }, { on := 0, ground := Go.Ground.phase }, { on := 1, ground := Go.Ground.phase }, { on := 2, ground := Go.Ground.phase }, { on := 3, ground := Go.Ground.phase }, { on := 4, ground := Go.Ground.phase }, { on := 5, ground := Go.Ground.phase }, { on := 6, ground := Go.Ground.phase }, { on := 7, ground := Go.Ground.phase }, { on := 8, ground := Go.Ground.phase }], guard := none }) rfl (fun K hK => ?_) (AllReadyH.nil)
                go_simp
                try go_wp2_with fail
                refine hK.out _ _ (HCT.out _ B9.out) (fun hHeld2 => ?_)
                clear hK K hHeld
                have hHeld := hHeld2
                clear hHeld2
                try simp only [Act.put, List.setIfInBounds_toArray, List.set_cons_zero, List.set_cons_succ]
                have M9 := hide HR.out.1
                clear HR s2 sf
                generalize w8.setCell ⟨mb, 2, none⟩ (.slice (some ⟨g8, 0, none⟩) (acc2.length + 1) c8) = W9 at *
                refine wpAnyH_done (by kernel_rfl) ?_ _
                go_wp2
                go_roundw
                case rel => exact ⟨j + 1, true, _, _, _, _, by omega, rfl, by go_num, M9.out, (by unfold Hid; rw [HA2.out]; exact hI.out.yes HY.out hlt9 HO2.out), FX9.out, XB9.out, XZ9.out, B9.out⟩
                case measure => simp [intOf]; omega
              · have XA := new_below Y0w (.cells #[.int .i64 y.proc, .int .i64 y.due] 61)
                have HMA := hide (HM0.out.below XA)
                have XBA := hide (XB0.out.below XZ0.out XA)
                have XZA : Hid (xb < (Y0w.alloc (.cells #[.int .i64 y.proc, .int .i64 y.due] 61)).heap.size) := Nat.lt_of_lt_of_le XZ0.out XA.size
                have BA := hide (C0.out.trans (XA.mono C0.out.size))
                have NA := hide (bl_alloc Y0w #[.int .i64 y.proc, .int .i64 y.due] 61)
                have ma2 := HMA.out.bl.cell 2 _ rfl
                clear XA
                go_simp
                try go_wp2_with fail
                refine hK.out _ _ (HCT.out _ BA.out) (fun hHeld2 => ?_)
                clear hK K hHeld
                have hHeld := hHeld2
                clear hHeld2
                try simp only [Act.put, List.setIfInBounds_toArray, List.set_cons_zero, List.set_cons_succ]
                generalize Y0w.alloc (.cells #[.int .i64 y.proc, .int .i64 y.due] 61) = Y1w at *
                generalize Y0w.heap.size = ya at *
                refine wpAnyH_ready (rs := [1]) (by kernel_rfl) (by simp) ?_
                refine AllReadyH.cons (o := { dst := some 111, op := Go.Op.load 24 (Go.Operand.tmp 110), type := 24, pos := "ref.go:193", after := #[{ on := 0, ground := Go.Ground.data }], guard := none }) rfl (fun K hK => ?_) (AllReadyH.nil)
                go_simp
                try go_wp2_with fail
                refine hK.out _ _ (HCT.out _ BA.out) (fun hHeld2 => ?_)
                clear hK K hHeld
                have hHeld := hHeld2
                clear hHeld2
                try simp only [Act.put, List.setIfInBounds_toArray, List.set_cons_zero, List.set_cons_succ]
                refine wpAnyH_ready (rs := [8]) (by kernel_rfl) (by simp) ?_
                refine AllReadyH.cons (o := { dst := some 118, op := Go.Op.call { callee := Go.Callee.builtin Go.Builtin.append, args := #[Go.Operand.tmp 111, Go.Operand.tmp 117], argTypes := #[24, 24] }, type := 24, pos := "ref.go:193", after := #[{ on := 1, ground := Go.Ground.data }, { on := 7, ground := Go.Ground.data }], guard := none }) rfl (fun K hK => ?_) (AllReadyH.nil)
                rw [if_pos (by rfl)]
                obtain ⟨i9, z9, h92, h93, h94, h95, h96⟩ := infoTimer
                refine wp_append_lies Y1w (.tmp 111) (.tmp 117) 24 rfl wc.heap.size 61 i9 z9 2 16 Tryz.underlying24 h92 h93 h94 h95 h96 (by decide) (.slice (some ⟨g7, 0, none⟩) (acc.length + 1) c7) acc2.length (acc2.flatMap Tm.cells) rfl HMA.out.tab.t ⟨ya, 0, none⟩ 1 1 y.cells rfl rfl (fun i u hu => by rw [add_lit', Nat.zero_add]; exact NA.out.cell i u hu) (fun u hu => tm_one [y] u (by simpa using hu)) (by decide) (by have := LO.out; unfold maxLen; omega) (by have := LO.out; omega) BA.out.size _ rfl ?_
                intro g8 c8 w8 ho8 hg8 hat8 hlt8
                have hat9 : (Value.slice (some ⟨g8, 0, none⟩) (acc2.length + 1) c8).ownBlock = (Value.slice (some ⟨g7, 0, none⟩) (acc.length + 1) c7).ownBlock ∨ (Value.slice (some ⟨g8, 0, none⟩) (acc2.length + 1) c8).ownBlock = some Y1w.heap.size := hat8.elim (fun e => .inl e.symm) (fun e => .inr (congrArg some e))
                have ho9 : TOwn w8 wc.heap.size (.slice (some ⟨g8, 0, none⟩) (acc2.length + 1) c8) (acc2 ++ [y]) := by
                  unfold TOwn
                  rw [List.length_append, List.flatMap_append]
                  simpa using ho8
                have HR := hide (HMA.out.times hg8 ho9 hat9)
                have FX9 : Hid ((Value.slice (some ⟨g8, 0, none⟩) (acc2.length + 1) c8).ownBlock ≠ some xb) := by
                  rcases hat9 with e | e
                  · rw [e]; exact HFX.out
                  · rw [e]
                    intro e'
                    have := Option.some.inj e'
                    have := XZA.out
                    omega
                have XB9 := hide ((XBA.out.grown XZA.out hg8 (fun e => HFX.out e.symm)).far (g' := mb) (k := 2) (u := .slice (some ⟨g8, 0, none⟩) (acc2.length + 1) c8) XNE.out)
                have XZ9 : Hid (xb < (w8.setCell ⟨mb, 2, none⟩ (.slice (some ⟨g8, 0, none⟩) (acc2.length + 1) c8)).heap.size) := by
                  have h1 := XZA.out
                  have h2 := hg8.size
                  unfold Hid
                  simp [World.setCell]
                  omega
                have GB := HMA.out.bl.grown HMA.out.lt hg8 (fun e => HMA.out.f3 e.symm)
                have s2 := GB.cell 2 _ rfl
                have sf := GB.free 2
                have B8 := hide (BA.out.grown hg8 BA.out.size (fun i e => (HMA.out.tab.t.lt i e).1))
                have B9 := hide (BA.out.trans HR.out.2)
                clear ho8 hat8 hat9 ho9 GB hg8 hlt8 h92 h93 h94 h95 h96
                refine hK.out _ _ (HCT.out _ B8.out) (fun hHeld2 => ?_)
                clear hK K hHeld
                have hHeld := hHeld2
                clear hHeld2
                try simp only [Act.put, List.setIfInBounds_toArray, List.set_cons_zero, List.set_cons_succ]
                refine wpAnyH_take (i := 9) (oi := { dst := some 119, op := Go.Op.fieldAddr 26 (Go.Operand.tmp 12) 2, type := 0, pos := "ref.go:193", after := #[{ on := 0, ground := Go.Ground.phase }, { on := 1, ground := Go.Ground.phase }, { on := 2, ground := Go.Ground.phase }, { on := 3, ground := Go.Ground.phase }, { on := 4, ground := Go.Ground.phase }, { on := 5, ground := Go.Ground.phase }, { on := 6, ground := Go.Ground.phase }, { on := 7, ground := Go.Ground.phase }, { on := 8, ground := Go.Ground.phase }], guard := none }) (v := ?_) rfl (by kernel_rfl) (by kernel_rfl) (by kernel_rfl) (fun _ _ _ h => h) (Or.inl ⟨by rfl, ?_⟩) (by assumption) ?_
                rotate_left
                · intro w hSw
                  try dsimp only at hSw
                  go_simp
                  try with_reducible rfl
                simp only [Act.put, List.setIfInBounds_toArray, List.set_cons_zero, List.set_cons_succ]
                refine wpAnyH_ready (rs := [10]) (by kernel_rfl) (by simp) ?_
                refine AllReadyH.cons (o := { dst := none, op := Go.Op.store 24 (Go.Operand.tmp 119) (Go.Operand.tmp 118), type := 0, pos := "ref.go:193", after := #[{ on := 9, ground := Go.Ground.data }, { on := 8, ground := Go.Ground.data }, { on := 8, ground := Go.Ground.chain }, { on := 0, ground := Go.Ground.phase }, { on := 1, ground := Go.Ground.phase }, { on := 2, ground := Go.Ground.phase }, { on := 3, ground := Go.Ground.phase }, { on := 4, ground := Go.Ground.phase }, { on := 5, ground := Go.Ground.phase }, { on := 6, ground := Go.Ground.phase }, { on := 7, ground := Go.Ground.phase }, { on := 8, ground := Go.Ground.phase }], guard := none }) rfl (fun K hK => ?_) (AllReadyH.nil)
                go_simp
                try go_wp2_with fail
                refine hK.out _ _ (HCT.out _ B9.out) (fun hHeld2 => ?_)
                clear hK K hHeld
                have hHeld := hHeld2
                clear hHeld2
                try simp only [Act.put, List.setIfInBounds_toArray, List.set_cons_zero, List.set_cons_succ]
                have M9 := hide HR.out.1
                clear HR s2 sf
                generalize w8.setCell ⟨mb, 2, none⟩ (.slice (some ⟨g8, 0, none⟩) (acc2.length + 1) c8) = W9 at *
                refine wpAnyH_done (by kernel_rfl) ?_ _
                go_wp2
                go_roundw
                case rel => exact ⟨j + 1, true, _, _, _, _, by omega, rfl, by go_num, M9.out, (by unfold Hid; rw [HA2.out]; exact hI.out.yes HY.out hlt9 HO2.out), FX9.out, XB9.out, XZ9.out, B9.out⟩
                case measure => simp [intOf]; omega
          · --
            go_upto_region 19 with fail
            clear b2
            go_quiet (fail)
            have HMX := hide (hM.out.below (drewN_below (Below.refl _ _) nq))
            have XBC := hide (hX.out.below hXZ.out (drewN_below (Below.refl _ _) nq))
            have YC := hide (drewN_below hb.out nq)
            have XZC : Hid (xb < (wr.drewN nq).heap.size) := hXZ.out
            go_upto_region 22 with fail
            generalize wr.drewN nq = wa at *
            clear hM hX hXZ hb
            have C0 : Hid (Below wc.heap.size wc wa.drew) := YC.out.drew
            have HM0 := hide (HMX.out.below (Below.refl _ _).drew)
            have XB0 := hide (XBC.out.below XZC.out (Below.refl _ _).drew)
            have XZ0 : Hid (xb < wa.drew.heap.size) := XZC.out
            refine wp_region_held_drew (S := fun wz => wz.cell? ⟨w.heap.size, 2, none⟩ = some (.slice (some ⟨b, off, none⟩) tn tc) ∧ wz.cell? ⟨b, off + j * 2, none⟩ = some (.int .i64 y.proc) ∧ wz.cell? ⟨b, off + j * 2 + 1, none⟩ = some (.int .i64 y.due)) (by kernel_rfl) (HCT.out _ C0.out) (fun hHeld => ?_)
            generalize wa.drew = Y0w at *
            refine wpAnyH_take (i := 0) (oi := { dst := some 110, op := Go.Op.fieldAddr 26 (Go.Operand.tmp 12) 2, type := 0, pos := "ref.go:193", after := #[], guard := none }) (v := ?_) rfl (by kernel_rfl) (by kernel_rfl) (by kernel_rfl) (fun _ _ _ h => h) (Or.inl ⟨by rfl, ?_⟩) (by assumption) ?_
            rotate_left
            · intro w hSw
              try dsimp only at hSw
              go_simp
              try with_reducible rfl
            simp only [Act.put, List.setIfInBounds_toArray, List.set_cons_zero, List.set_cons_succ]
            refine wpAnyH_take (i := 2) (oi := { dst := some 112, op := Go.Op.fieldAddr 26 (Go.Operand.tmp 5) 2, type := 0, pos := "ref.go:193", after := #[], guard := none }) (v := ?_) rfl (by kernel_rfl) (by kernel_rfl) (by kernel_rfl) (fun _ _ _ h => h) (Or.inl ⟨by rfl, ?_⟩) (by assumption) ?_
            rotate_left
            · intro w hSw
              try dsimp only at hSw
              go_simp
              try with_reducible rfl
            simp only [Act.put, List.setIfInBounds_toArray, List.set_cons_zero, List.set_cons_succ]
            refine wpAnyH_take (i := 3) (oi := { dst := some 113, op := Go.Op.load 24 (Go.Operand.tmp 112), type := 24, pos := "ref.go:193", after := #[{ on := 2, ground := Go.Ground.data }], guard := none }) (v := ?_) rfl (by kernel_rfl) (by kernel_rfl) (by kernel_rfl) (fun _ _ _ h => h) (Or.inl ⟨by rfl, ?_⟩) (by assumption) ?_
            rotate_left
            · intro w hSw
              try dsimp only at hSw
              go_simp
              try with_reducible rfl
            simp only [Act.put, List.setIfInBounds_toArray, List.set_cons_zero, List.set_cons_succ]
            refine wpAnyH_take (i := 4) (oi := { dst := some 114, op := Go.Op.move (Go.Operand.tmp 15), type := 3, pos := "ref.go:193", after := #[], guard := none }) (v := ?_) rfl (by kernel_rfl) (by kernel_rfl) (by kernel_rfl) (fun _ _ _ h => h) (Or.inl ⟨by rfl, ?_⟩) (by assumption) ?_
            rotate_left
            · intro w hSw
              try dsimp only at hSw
              go_simp
              try with_reducible rfl
            simp only [Act.put, List.setIfInBounds_toArray, List.set_cons_zero, List.set_cons_succ]
            refine wpAnyH_take (i := 5) (oi := { dst := some 115, op := Go.Op.indexAddr 24 (Go.Operand.tmp 113) (Go.Operand.tmp 114), type := 0, pos := "ref.go:193", after := #[{ on := 3, ground := Go.Ground.data }, { on := 4, ground := Go.Ground.data }], guard := none }) (v := ?_) rfl (by kernel_rfl) (by kernel_rfl) (by kernel_rfl) (fun _ _ _ h => h) (Or.inl ⟨by rfl, ?_⟩) (by assumption) ?_
            rotate_left
            · intro w hSw
              try dsimp only at hSw
              go_simp
              try with_reducible rfl
            simp only [Act.put, List.setIfInBounds_toArray, List.set_cons_zero, List.set_cons_succ]
            refine wpAnyH_take (i := 6) (oi := { dst := some 116, op := Go.Op.load 61 (Go.Operand.tmp 115), type := 61, pos := "ref.go:193", after := #[{ on := 5, ground := Go.Ground.data }], guard := none }) (v := ?_) rfl (by kernel_rfl) (by kernel_rfl) (by kernel_rfl) (fun _ _ _ h => h) (Or.inl ⟨by rfl, ?_⟩) (by assumption) ?_
            rotate_left
            · intro w hSw
              try dsimp only at hSw
              go_simp
              try with_reducible rfl
            simp only [Act.put, List.setIfInBounds_toArray, List.set_cons_zero, List.set_cons_succ]
            have m2 := HM0.out.bl.cell 2 _ rfl
            refine wpAnyH_ready (rs := [1, 7]) (by kernel_rfl) (by simp) ?_
            refine AllReadyH.cons (o := { dst := some 111, op := Go.Op.load 24 (Go.Operand.tmp 110), type := 24, pos := "ref.go:193", after := #[{ on := 0, ground := Go.Ground.data }], guard := none }) rfl (fun K hK => ?_) (AllReadyH.cons (o := { dst := some 117, op := Go.Op.buildSlice 24 1 #[(0, Go.Operand.tmp 116)], type := 24, pos := "ref.go:193", after := #[{ on := 6, ground := Go.Ground.data }], guard := none }) rfl (fun K hK => ?_) AllReadyH.nil)
            · go_simp
              try go_wp2_with fail
              refine hK.out _ _ (HCT.out _ C0.out) (fun hHeld2 => ?_)
              clear hK K hHeld
              have hHeld := hHeld2
              clear hHeld2
              try simp only [Act.put, List.setIfInBounds_toArray, List.set_cons_zero, List.set_cons_succ]
              refine wpAnyH_ready (rs := [7]) (by kernel_rfl) (by simp) ?_
              refine AllReadyH.cons (o := { dst := some 117, op := Go.Op.buildSlice 24 1 #[(0, Go.Operand.tmp 116)], type := 24, pos := "ref.go:193", after := #[{ on := 6, ground := Go.Ground.data }], guard := none }) rfl (fun K hK => ?_) (AllReadyH.nil)
              have XA := new_below Y0w (.cells #[.int .i64 y.proc, .int .i64 y.due] 61)
              have HMA := hide (HM0.out.below XA)
              have XBA := hide (XB0.out.below XZ0.out XA)
              have XZA : Hid (xb < (Y0w.alloc (.cells #[.int .i64 y.proc, .int .i64 y.due] 61)).heap.size) := Nat.lt_of_lt_of_le XZ0.out XA.size
              have BA := hide (C0.out.trans (XA.mono C0.out.size))
              have NA := hide (bl_alloc Y0w #[.int .i64 y.proc, .int .i64 y.due] 61)
              have ma2 := HMA.out.bl.cell 2 _ rfl
              clear XA
              go_simp
              try go_wp2_with fail
              refine hK.out _ _ (HCT.out _ BA.out) (fun hHeld2 => ?_)
              clear hK K hHeld
              have hHeld := hHeld2
              clear hHeld2
              try simp only [Act.put, List.setIfInBounds_toArray, List.set_cons_zero, List.set_cons_succ]
              generalize Y0w.alloc (.cells #[.int .i64 y.proc, .int .i64 y.due] 61) = Y1w at *
              generalize Y0w.heap.size = ya at *
              refine wpAnyH_ready (rs := [8]) (by kernel_rfl) (by simp) ?_
              refine AllReadyH.cons (o := { dst := some 118, op := Go.Op.call { callee := Go.Callee.builtin Go.Builtin.append, args := #[Go.Operand.tmp 111, Go.Operand.tmp 117], argTypes := #[24, 24] }, type := 24, pos := "ref.go:193", after := #[{ on := 1, ground := Go.Ground.data }, { on := 7, ground := Go.Ground.data }], guard := none }) rfl (fun K hK => ?_) (AllReadyH.nil)
              rw [if_pos (by rfl)]
              obtain ⟨i9, z9, h92, h93, h94, h95, h96⟩ := infoTimer
              refine wp_append_lies Y1w (.tmp 111) (.tmp 117) 24 rfl wc.heap.size 61 i9 z9 2 16 Tryz.underlying24 h92 h93 h94 h95 h96 (by decide) (.slice a n c) acc.length (acc.flatMap Tm.cells) rfl HMA.out.tab.t ⟨ya, 0, none⟩ 1 1 y.cells rfl rfl (fun i u hu => by rw [add_lit', Nat.zero_add]; exact NA.out.cell i u hu) (fun u hu => tm_one [y] u (by simpa using hu)) (by decide) (by have := LO.out; unfold maxLen; omega) (by have := LO.out; omega) BA.out.size _ rfl ?_
              intro g8 c8 w8 ho8 hg8 hat8 hlt8
              have hat9 : (Value.slice (some ⟨g8, 0, none⟩) (acc.length + 1) c8).ownBlock = (Value.slice a n c).ownBlock ∨ (Value.slice (some ⟨g8, 0, none⟩) (acc.length + 1) c8).ownBlock = some Y1w.heap.size := hat8.elim (fun e => .inl e.symm) (fun e => .inr (congrArg some e))
              have ho9 : TOwn w8 wc.heap.size (.slice (some ⟨g8, 0, none⟩) (acc.length + 1) c8) (acc ++ [y]) := by
                unfold TOwn
                rw [List.length_append, List.flatMap_append]
                simpa using ho8
              have HR := hide (HMA.out.times hg8 ho9 hat9)
              have FX9 : Hid ((Value.slice (some ⟨g8, 0, none⟩) (acc.length + 1) c8).ownBlock ≠ some xb) := by
                rcases hat9 with e | e
                · rw [e]; exact HFX.out
                · rw [e]
                  intro e'
                  have := Option.some.inj e'
                  have := XZA.out
                  omega
              have XB9 := hide ((XBA.out.grown XZA.out hg8 (fun e => HFX.out e.symm)).far (g' := mb) (k := 2) (u := .slice (some ⟨g8, 0, none⟩) (acc.length + 1) c8) XNE.out)
              have XZ9 : Hid (xb < (w8.setCell ⟨mb, 2, none⟩ (.slice (some ⟨g8, 0, none⟩) (acc.length + 1) c8)).heap.size) := by
                have h1 := XZA.out
                have h2 := hg8.size
                unfold Hid
                simp [World.setCell]
                omega
              have GB := HMA.out.bl.grown HMA.out.lt hg8 (fun e => HMA.out.f3 e.symm)
              have s2 := GB.cell 2 _ rfl
              have sf := GB.free 2
              have B8 := hide (BA.out.grown hg8 BA.out.size (fun i e => (HMA.out.tab.t.lt i e).1))
              have B9 := hide (BA.out.trans HR.out.2)
              clear ho8 hat8 hat9 ho9 GB hg8 hlt8 h92 h93 h94 h95 h96
              refine hK.out _ _ (HCT.out _ B8.out) (fun hHeld2 => ?_)
              clear hK K hHeld
              have hHeld := hHeld2
              clear hHeld2
              try simp only [Act.put, List.setIfInBounds_toArray, List.set_cons_zero, List.set_cons_succ]
              refine wpAnyH_take (i := 9) (oi := { dst := some 119, op := Go.Op.fieldAddr 26 (Go.Operand.tmp 12) 2, type := 0, pos := "ref.go:193", after := #[{ on := 0, ground := Go.Ground.phase }, { on := 1, ground := Go.Ground.phase }, { on := 2, ground := Go.Ground.phase }, { on := 3, ground := Go.Ground.phase }, { on := 4, ground := Go.Ground.phase }, { on := 5, ground := Go.Ground.phase }, { on := 6, ground := Go.Ground.phase }, { on := 7, ground := Go.Ground.phase }, { on := 8, ground := Go.Ground.phase }], guard := none }) (v := ?_) rfl (by kernel_rfl) (by kernel_rfl) (by kernel_rfl) (fun _ _ _ h => h) (Or.inl ⟨by rfl, ?_⟩) (by assumption) ?_
              rotate_left
              · intro w hSw
                try dsimp only at hSw
                go_simp
                try with_reducible rfl
              simp only [Act.put, List.setIfInBounds_toArray, List.set_cons_zero, List.set_cons_succ]
              refine wpAnyH_ready (rs := [10]) (by kernel_rfl) (by simp) ?_
              refine AllReadyH.cons (o := { dst := none, op := Go.Op.store 24 (Go.Operand.tmp 119) (Go.Operand.tmp 118), type := 0, pos := "ref.go:193", after := #[{ on := 9, ground := Go.Ground.data }, { on := 8, ground := Go.Ground.data }, { on := 8, ground := Go.Ground.chain }, { on := 0, ground := Go.Ground.phase }, { on := 1, ground := Go.Ground.phase }, { on := 2, ground := Go.Ground.phase }, { on := 3, ground := Go.Ground.phase }, { on := 4, ground := Go.Ground.phase }, { on := 5, ground := Go.Ground.phase }, { on := 6, ground := Go.Ground.phase }, { on := 7, ground := Go.Ground.phase }, { on := 8, ground := Go.Ground.phase }], guard := none }) rfl (fun K hK => ?_) (AllReadyH.nil)
              go_simp
              try go_wp2_with fail
              refine hK.out _ _ (HCT.out _ B9.out) (fun hHeld2 => ?_)
              clear hK K hHeld
              have hHeld := hHeld2
              clear hHeld2
              try simp only [Act.put, List.setIfInBounds_toArray, List.set_cons_zero, List.set_cons_succ]
              have M9 := hide HR.out.1
              clear HR s2 sf
              generalize w8.setCell ⟨mb, 2, none⟩ (.slice (some ⟨g8, 0, none⟩) (acc.length + 1) c8) = W9 at *
              refine wpAnyH_done (by kernel_rfl) ?_ _
              go_wp2
              go_roundw
              case rel => exact ⟨j + 1, true, _, _, _, _, by omega, rfl, by go_num, M9.out, hI.out.more HY.out, FX9.out, XB9.out, XZ9.out, B9.out⟩
              case measure => simp [intOf]; omega
            · have XA := new_below Y0w (.cells #[.int .i64 y.proc, .int .i64 y.due] 61)
              have HMA := hide (HM0.out.below XA)
              have XBA := hide (XB0.out.below XZ0.out XA)
              have XZA : Hid (xb < (Y0w.alloc (.cells #[.int .i64 y.proc, .int .i64 y.due] 61)).heap.size) := Nat.lt_of_lt_of_le XZ0.out XA.size
              have BA := hide (C0.out.trans (XA.mono C0.out.size))
              have NA := hide (bl_alloc Y0w #[.int .i64 y.proc, .int .i64 y.due] 61)
              have ma2 := HMA.out.bl.cell 2 _ rfl
              clear XA
              go_simp
              try go_wp2_with fail
              refine hK.out _ _ (HCT.out _ BA.out) (fun hHeld2 => ?_)
              clear hK K hHeld
              have hHeld := hHeld2
              clear hHeld2
              try simp only [Act.put, List.setIfInBounds_toArray, List.set_cons_zero, List.set_cons_succ]
              generalize Y0w.alloc (.cells #[.int .i64 y.proc, .int .i64 y.due] 61) = Y1w at *
              generalize Y0w.heap.size = ya at *
              refine wpAnyH_ready (rs := [1]) (by kernel_rfl) (by simp) ?_
              refine AllReadyH.cons (o := { dst := some 111, op := Go.Op.load 24 (Go.Operand.tmp 110), type := 24, pos := "ref.go:193", after := #[{ on := 0, ground := Go.Ground.data }], guard := none }) rfl (fun K hK => ?_) (AllReadyH.nil)
              go_simp
              try go_wp2_with fail
              refine hK.out _ _ (HCT.out _ BA.out) (fun hHeld2 => ?_)
              clear hK K hHeld
              have hHeld := hHeld2
              clear hHeld2
              try simp only [Act.put, List.setIfInBounds_toArray, List.set_cons_zero, List.set_cons_succ]
              refine wpAnyH_ready (rs := [8]) (by kernel_rfl) (by simp) ?_
              refine AllReadyH.cons (o := { dst := some 118, op := Go.Op.call { callee := Go.Callee.builtin Go.Builtin.append, args := #[Go.Operand.tmp 111, Go.Operand.tmp 117], argTypes := #[24, 24] }, type := 24, pos := "ref.go:193", after := #[{ on := 1, ground := Go.Ground.data }, { on := 7, ground := Go.Ground.data }], guard := none }) rfl (fun K hK => ?_) (AllReadyH.nil)
              rw [if_pos (by rfl)]
              obtain ⟨i9, z9, h92, h93, h94, h95, h96⟩ := infoTimer
              refine wp_append_lies Y1w (.tmp 111) (.tmp 117) 24 rfl wc.heap.size 61 i9 z9 2 16 Tryz.underlying24 h92 h93 h94 h95 h96 (by decide) (.slice a n c) acc.length (acc.flatMap Tm.cells) rfl HMA.out.tab.t ⟨ya, 0, none⟩ 1 1 y.cells rfl rfl (fun i u hu => by rw [add_lit', Nat.zero_add]; exact NA.out.cell i u hu) (fun u hu => tm_one [y] u (by simpa using hu)) (by decide) (by have := LO.out; unfold maxLen; omega) (by have := LO.out; omega) BA.out.size _ rfl ?_
              intro g8 c8 w8 ho8 hg8 hat8 hlt8
              have hat9 : (Value.slice (some ⟨g8, 0, none⟩) (acc.length + 1) c8).ownBlock = (Value.slice a n c).ownBlock ∨ (Value.slice (some ⟨g8, 0, none⟩) (acc.length + 1) c8).ownBlock = some Y1w.heap.size := hat8.elim (fun e => .inl e.symm) (fun e => .inr (congrArg some e))
              have ho9 : TOwn w8 wc.heap.size (.slice (some ⟨g8, 0, none⟩) (acc.length + 1) c8) (acc ++ [y]) := by
                unfold TOwn
                rw [List.length_append, List.flatMap_append]
                simpa using ho8
              have HR := hide (HMA.out.times hg8 ho9 hat9)
              have FX9 : Hid ((Value.slice (some ⟨g8, 0, none⟩) (acc.length + 1) c8).ownBlock ≠ some xb) := by
                rcases hat9 with e | e
                · rw [e]; exact HFX.out
                · rw [e]
                  intro e'
                  have := Option.some.inj e'
                  have := XZA.out
                  omega
              have XB9 := hide ((XBA.out.grown XZA.out hg8 (fun e => HFX.out e.symm)).far (g' := mb) (k := 2) (u := .slice (some ⟨g8, 0, none⟩) (acc.length + 1) c8) XNE.out)
              have XZ9 : Hid (xb < (w8.setCell ⟨mb, 2, none⟩ (.slice (some ⟨g8, 0, none⟩) (acc.length + 1) c8)).heap.size) := by
                have h1 := XZA.out
                have h2 := hg8.size
                unfold Hid
                simp [World.setCell]
                omega
              have GB := HMA.out.bl.grown HMA.out.lt hg8 (fun e => HMA.out.f3 e.symm)
              have s2 := GB.cell 2 _ rfl
              have sf := GB.free 2
              have B8 := hide (BA.out.grown hg8 BA.out.size (fun i e => (HMA.out.tab.t.lt i e).1))
              have B9 := hide (BA.out.trans HR.out.2)
              clear ho8 hat8 hat9 ho9 GB hg8 hlt8 h92 h93 h94 h95 h96
              refine hK.out _ _ (HCT.out _ B8.out) (fun hHeld2 => ?_)
              clear hK K hHeld
              have hHeld := hHeld2
              clear hHeld2
              try simp only [Act.put, List.setIfInBounds_toArray, List.set_cons_zero, List.set_cons_succ]
              refine wpAnyH_take (i := 9) (oi := { dst := some 119, op := Go.Op.fieldAddr 26 (Go.Operand.tmp 12) 2, type := 0, pos := "ref.go:193", after := #[{ on := 0, ground := Go.Ground.phase }, { on := 1, ground := Go.Ground.phase }, { on := 2, ground := Go.Ground.phase }, { on := 3, ground := Go.Ground.phase }, { on := 4, ground := Go.Ground.phase }, { on := 5, ground := Go.Ground.phase }, { on := 6, ground := Go.Ground.phase }, { on := 7, ground := Go.Ground.phase }, { on := 8, ground := Go.Ground.phase }], guard := none }) (v := ?_) rfl (by kernel_rfl) (by kernel_rfl) (by kernel_rfl) (fun _ _ _ h => h) (Or.inl ⟨by rfl, ?_⟩) (by assumption) ?_
              rotate_left
              · intro w hSw
                try dsimp only at hSw
                go_simp
                try with_reducible rfl
              simp only [Act.put, List.setIfInBounds_toArray, List.set_cons_zero, List.set_cons_succ]
              refine wpAnyH_ready (rs := [10]) (by kernel_rfl) (by simp) ?_
              refine AllReadyH.cons (o := { dst := none, op := Go.Op.store 24 (Go.Operand.tmp 119) (Go.Operand.tmp 118), type := 0, pos := "ref.go:193", after := #[{ on := 9, ground := Go.Ground.data }, { on := 8, ground := Go.Ground.data }, { on := 8, ground := Go.Ground.chain }, { on := 0, ground := Go.Ground.phase }, { on := 1, ground := Go.Ground.phase }, { on := 2, ground := Go.Ground.phase }, { on := 3, ground := Go.Ground.phase }, { on := 4, ground := Go.Ground.phase }, { on := 5, ground := Go.Ground.phase }, { on := 6, ground := Go.Ground.phase }, { on := 7, ground := Go.Ground.phase }, { on := 8, ground := Go.Ground.phase }], guard := none }) rfl (fun K hK => ?_) (AllReadyH.nil)
              go_simp
              try go_wp2_with fail
              refine hK.out _ _ (HCT.out _ B9.out) (fun hHeld2 => ?_)
              clear hK K hHeld
              have hHeld := hHeld2
              clear hHeld2
              try simp only [Act.put, List.setIfInBounds_toArray, List.set_cons_zero, List.set_cons_succ]
              have M9 := hide HR.out.1
              clear HR s2 sf
              generalize w8.setCell ⟨mb, 2, none⟩ (.slice (some ⟨g8, 0, none⟩) (acc.length + 1) c8) = W9 at *
              refine wpAnyH_done (by kernel_rfl) ?_ _
              go_wp2
              go_roundw
              case rel => exact ⟨j + 1, true, _, _, _, _, by omega, rfl, by go_num, M9.out, hI.out.more HY.out, FX9.out, XB9.out, XZ9.out, B9.out⟩
              case measure => simp [intOf]; omega
        · obtain rfl : tn = j := by omega
          have HTK : Hid (t.take tn = t ∧ t.drop tn = []) := by unfold Hid; rw [← HLT.out]; exact ⟨List.take_length, List.drop_length⟩
          cases dn
          · have HFIN := hide (hI.out.last HLT.out HGD.out.2.2.2.1.2.2)
            have HMX := hide hM.out
            have Y7 := hide hb.out
            go_upto_region 24 with fail
            clear b2
            have HXM := hide infoTimer
            have x0 := hX.out.cell 0 _ rfl
            have x1 := hX.out.cell 1 _ rfl
            have c2 := HMX.out.bl.cell 2 _ rfl
            have X4 := new_below wr (.cells #[.int .i64 (k : Int), .int .i64 du] 61)
            have HMA := hide (HMX.out.below X4)
            have XBA := hide (hX.out.below hXZ.out X4)
            have XZA : Hid (xb < (wr.alloc (.cells #[.int .i64 (k : Int), .int .i64 du] 61)).heap.size) := Nat.lt_of_lt_of_le hXZ.out X4.size
            have YA := hide (Y7.out.trans (X4.mono Y7.out.size))
            clear X4
            go_upto_region 25 with (at_builtin; refine append_rec rfl (.tmp 123) (.tmp 125) 24 61 rfl Tryz.underlying24 HXM.out (by decide) wc.heap.size _ _ _ rfl HMA.out.tab.t wr.heap.size 1 [.int .i64 (k : Int), .int .i64 du] rfl rfl (fun i u hu => by rw [World.cell?_alloc_at _ _ _ _ (by simp)]; simpa using hu) (fun u hu => tm_one [⟨(k : Int), du⟩] u (by simpa [Tm.cells] using hu)) (by have := LO.out; unfold maxLen; omega) (by have := LO.out; omega) YA.out.size ?_; intro g7 c7 w7 ho7 hg7 hat7 hlt7; have G7 := hide hg7; have A7 := hide hat7; have O7 := hide ho7; have GB := HMA.out.bl.grown HMA.out.lt hg7 (fun e => HMA.out.f3 e.symm); have g2 := GB.cell 2 _ rfl; have f2 := GB.free 2; clear hg7 hat7 ho7 GB)
            clear x0 x1 c2 g2 f2
            have hg7 : (wr.alloc (.cells #[.int .i64 (k : Int), .int .i64 du] 61)).grownBy w7 (Value.slice a n c).ownBlock := G7.out
            have hat9 : (Value.slice (some ⟨g7, 0, none⟩) (acc.length + 1) c7).ownBlock = (Value.slice a n c).ownBlock ∨ (Value.slice (some ⟨g7, 0, none⟩) (acc.length + 1) c7).ownBlock = some (wr.alloc (.cells #[.int .i64 (k : Int), .int .i64 du] 61)).heap.size := A7.out.elim (fun e => .inl e.symm) (fun e => .inr (congrArg some e))
            have ho9 : TOwn w7 wc.heap.size (.slice (some ⟨g7, 0, none⟩) (acc.length + 1) c7) (acc ++ [⟨(k : Int), du⟩]) := by
              unfold TOwn
              rw [List.length_append, List.flatMap_append]
              simpa [Tm.cells] using O7.out
            have HR := hide (HMA.out.times hg7 ho9 hat9)
            have FXX : Hid ((Value.slice (some ⟨g7, 0, none⟩) (acc.length + 1) c7).ownBlock ≠ some xb) := by
              rcases hat9 with e | e
              · rw [e]; exact HFX.out
              · rw [e]
                intro e'
                have := Option.some.inj e'
                have := XZA.out
                omega
            have XBN := hide ((XBA.out.grown XZA.out hg7 (fun e => HFX.out e.symm)).far (g' := mb) (k := 2) (u := .slice (some ⟨g7, 0, none⟩) (acc.length + 1) c7) XNE.out)
            have XZN : Hid (xb < (w7.setCell ⟨mb, 2, none⟩ (.slice (some ⟨g7, 0, none⟩) (acc.length + 1) c7)).heap.size) := by
              have h1 := XZA.out
              have h2 := hg7.size
              unfold Hid
              simp [World.setCell]
              omega
            have YN := hide (YA.out.trans HR.out.2)
            have MN := hide HR.out.1
            clear HR hg7 hat9 ho9 G7 A7 O7 HMA XBA XZA YA hlt7
            generalize w7.setCell ⟨mb, 2, none⟩ (.slice (some ⟨g7, 0, none⟩) (acc.length + 1) c7) = WN at *
            have M8 := hide MN.out
            have Y8 := hide YN.out
            generalize WN = V8 at *
            rw [HFIN.out] at M8
            have BGF := hide (BG.out.below hl3.out Y8.out)
            have BW := hide (B1.out.trans (Y8.out.mono B1.out.size))
            have T1 := hide ((M8.out.tab.three (g := w.heap.size + 1) hl3.out (.slice (some ⟨g, 0, none⟩) l.length c1) (.slice oa (outOf r (k : Int)).length oc) (.slice (some ⟨g7, 0, none⟩) (acc.length + 1) c7)).weaken B1.out.size)
            have m0 := M8.out.bl.cell 0 _ rfl
            have m1 := M8.out.bl.cell 1 _ rfl
            have m2 := M8.out.bl.cell 2 _ rfl
            have G1 := hide (bl_three BGF.out (.slice (some ⟨g, 0, none⟩) l.length c1) (.slice oa (outOf r (k : Int)).length oc) (.slice (some ⟨g7, 0, none⟩) (acc.length + 1) c7))
            have BF := hide (below3 (g := w.heap.size + 1) (.slice (some ⟨g, 0, none⟩) l.length c1) (.slice oa (outOf r (k : Int)).length oc) (.slice (some ⟨g7, 0, none⟩) (acc.length + 1) c7) BW.out (by omega))
            have g0 := BGF.out.cell 0 _ rfl
            have g1 := BGF.out.cell 1 _ rfl
            have g2 := BGF.out.cell 2 _ rfl
            have f0 := BGF.out.free 0
            have f1 := BGF.out.free 1
            have f2 := BGF.out.free 2
            go_wp2
            generalize (((V8.setCell ⟨w.heap.size + 1, 0, none⟩ (.slice (some ⟨g, 0, none⟩) l.length c1)).setCell ⟨w.heap.size + 1, 1, none⟩ (.slice oa (outOf r (k : Int)).length oc)).setCell ⟨w.heap.size + 1, 2, none⟩ (.slice (some ⟨g7, 0, none⟩) (acc.length + 1) c7)) = W9 at *
            have e0 := G1.out.cell 0 _ rfl
            have e1 := G1.out.cell 1 _ rfl
            have e2 := G1.out.cell 2 _ rfl
            (try simp only [Exit.inBlock, Exit.then])
            refine bodyPost_ret (v := .tuple #[.agg #[.slice (some ⟨g, 0, none⟩) l.length c1, .slice oa (outOf r (k : Int)).length oc, .slice (some ⟨g7, 0, none⟩) (acc.length + 1) c7], .int .i64 0]) (by simp [results, Tryz.results6, go_sem, e0, e1, e2]) rfl ?_
            exact ⟨_, _, _, _, _, _, _, _, _, by rw [HO.out.1]; rfl, by rw [HO.out.2.1, HO.out.2.2.1, HO.out.2.2.2, setAt_of HKQ.out, HBL.out]; exact T1.out, BF.out⟩
          · have HFIN := hide (hI.out.full HLT.out)
            have M8 := hide hM.out
            rw [HFIN.out] at M8
            have Y8 := hide hb.out
            clear b2
            obtain ⟨V8, hv8⟩ : ∃ x, x = wr := ⟨_, rfl⟩
            subst hv8
            have BXX := hide (BX.out.below (Nat.lt_of_succ_lt hl3.out) Y8.out)
            have b2 := BXX.out.cell 2 _ rfl
            have BGF := hide (BG.out.below hl3.out Y8.out)
            have BW := hide (B1.out.trans (Y8.out.mono B1.out.size))
            have T1 := hide ((M8.out.tab.three (g := w.heap.size + 1) hl3.out (.slice (some ⟨g, 0, none⟩) l.length c1) (.slice oa (outOf r (k : Int)).length oc) (.slice a n c)).weaken B1.out.size)
            have m0 := M8.out.bl.cell 0 _ rfl
            have m1 := M8.out.bl.cell 1 _ rfl
            have m2 := M8.out.bl.cell 2 _ rfl
            have G1 := hide (bl_three BGF.out (.slice (some ⟨g, 0, none⟩) l.length c1) (.slice oa (outOf r (k : Int)).length oc) (.slice a n c))
            have BF := hide (below3 (g := w.heap.size + 1) (.slice (some ⟨g, 0, none⟩) l.length c1) (.slice oa (outOf r (k : Int)).length oc) (.slice a n c) BW.out (by omega))
            have g0 := BGF.out.cell 0 _ rfl
            have g1 := BGF.out.cell 1 _ rfl
            have g2 := BGF.out.cell 2 _ rfl
            have f0 := BGF.out.free 0
            have f1 := BGF.out.free 1
            have f2 := BGF.out.free 2
            go_wp2
            generalize (((V8.setCell ⟨w.heap.size + 1, 0, none⟩ (.slice (some ⟨g, 0, none⟩) l.length c1)).setCell ⟨w.heap.size + 1, 1, none⟩ (.slice oa (outOf r (k : Int)).length oc)).setCell ⟨w.heap.size + 1, 2, none⟩ (.slice a n c)) = W9 at *
            have e0 := G1.out.cell 0 _ rfl
            have e1 := G1.out.cell 1 _ rfl
            have e2 := G1.out.cell 2 _ rfl
            (try simp only [Exit.inBlock, Exit.then])
            refine bodyPost_ret (v := .tuple #[.agg #[.slice (some ⟨g, 0, none⟩) l.length c1, .slice oa (outOf r (k : Int)).length oc, .slice a n c], .int .i64 0]) (by simp [results, Tryz.results6, go_sem, e0, e1, e2]) rfl ?_
            exact ⟨_, _, _, _, _, _, _, _, _, by rw [HO.out.1]; rfl, by rw [HO.out.2.1, HO.out.2.2.1, HO.out.2.2.2, setAt_of HKQ.out, HBL.out]; exact T1.out, BF.out⟩
    · have do1 : (ob != 0) = true := by simp [hob]
      have hx : ¬ (OkP l p [1] ∧ (Rb.WaitOk wt ob du ∧ (du = -1 ∨ (0 ≤ du ∧ du ≤ 1010000)))) := fun h => hob (h.2.1.2.2.2.2 hw1).1
      clear hq0 hc0 hc1 hc2 hc3 hc4 hw1 hob
      have HO : Hid (ofE (Good l r t) (OkP l p [1] ∧ (Rb.WaitOk wt ob du ∧ (du = -1 ∨ (0 ≤ du ∧ du ≤ 1010000)))) = 12 ∧ ownT (Good l r t ∧ (OkP l p [1] ∧ (Rb.WaitOk wt ob du ∧ (du = -1 ∨ (0 ≤ du ∧ du ≤ 1010000))))) (setAt l p (fun q => Rb.blockP q wt ob)) = [] ∧ ownT (Good l r t ∧ (OkP l p [1] ∧ (Rb.WaitOk wt ob du ∧ (du = -1 ∨ (0 ≤ du ∧ du ≤ 1010000))))) (outOf r p) = [] ∧ ownT (Good l r t ∧ (OkP l p [1] ∧ (Rb.WaitOk wt ob du ∧ (du = -1 ∨ (0 ≤ du ∧ du ≤ 1010000))))) (Rb.blkT t p du) = []) := ⟨ofE_bad HGD.out hx, if_neg (fun h => hx h.2), if_neg (fun h => hx h.2), if_neg (fun h => hx h.2)⟩
      clear hx
      have G1 := hide (bl_three BG.out (.slice none 0 0) (.slice none 0 0) (.slice none 0 0))
      have BF := hide (below3 (g := w.heap.size + 1) (.slice none 0 0) (.slice none 0 0) (.slice none 0 0) B1.out (by omega))
      have g0 := BG.out.cell 0 _ rfl
      have g1 := BG.out.cell 1 _ rfl
      have g2 := BG.out.cell 2 _ rfl
      have f0 := BG.out.free 0
      have f1 := BG.out.free 1
      have f2 := BG.out.free 2
      go_wp2
      generalize (((wc.setCell ⟨w.heap.size + 1, 0, none⟩ (.slice none 0 0)).setCell ⟨w.heap.size + 1, 1, none⟩ (.slice none 0 0)).setCell ⟨w.heap.size + 1, 2, none⟩ (.slice none 0 0)) = W9 at *
      have e0 := G1.out.cell 0 _ rfl
      have e1 := G1.out.cell 1 _ rfl
      have e2 := G1.out.cell 2 _ rfl
      (try simp only [Exit.inBlock, Exit.then])
      refine bodyPost_ret (v := .tuple #[.agg #[.slice none 0 0, .slice none 0 0, .slice none 0 0], .int .i64 12]) (by simp [results, Tryz.results6, go_sem, e0, e1, e2]) rfl ?_
      exact ⟨_, _, _, _, _, _, _, _, _, by rw [HO.out.1]; rfl, by rw [HO.out.2.1, HO.out.2.2.1, HO.out.2.2.2]; exact tab_nil _ _, BF.out⟩
  · have dw : (wt == 1) = false := by simp [hw1]
    have hx : (OkP l p [1] ∧ (Rb.WaitOk wt ob du ∧ (du = -1 ∨ (0 ≤ du ∧ du ≤ 1010000)))) := ⟨hq0, ⟨by omega, by omega, by omega, by omega, fun e => absurd e hw1⟩, by omega⟩
    clear hq0 hc0 hc1 hc2 hc3 hc4 hw1
    have HO : Hid (ofE (Good l r t) (OkP l p [1] ∧ (Rb.WaitOk wt ob du ∧ (du = -1 ∨ (0 ≤ du ∧ du ≤ 1010000)))) = 0 ∧ ownT (Good l r t ∧ (OkP l p [1] ∧ (Rb.WaitOk wt ob du ∧ (du = -1 ∨ (0 ≤ du ∧ du ≤ 1010000))))) (setAt l p (fun q => Rb.blockP q wt ob)) = (setAt l p (fun q => Rb.blockP q wt ob)) ∧ ownT (Good l r t ∧ (OkP l p [1] ∧ (Rb.WaitOk wt ob du ∧ (du = -1 ∨ (0 ≤ du ∧ du ≤ 1010000))))) (outOf r p) = (outOf r p) ∧ ownT (Good l r t ∧ (OkP l p [1] ∧ (Rb.WaitOk wt ob du ∧ (du = -1 ∨ (0 ≤ du ∧ du ≤ 1010000))))) (Rb.blkT t p du) = (Rb.blkT t p du)) := ⟨ofE_ok HGD.out hx, if_pos ⟨HGD.out, hx⟩, if_pos ⟨HGD.out, hx⟩, if_pos ⟨HGD.out, hx⟩⟩
    have HKX := hide hx
    obtain ⟨k, q, rfl, hkq, hst⟩ := okP_at hx.1
    have HKQ := hide hkq
    have HKL : Hid (k < l.length) := (List.getElem?_eq_some_iff.1 hkq).1
    clear hkq
    have HST := hide (by simpa using hst : q.state = 1)
    clear hx hst
    have b0 := BX.out.cell 0 _ rfl
    have b1 := BX.out.cell 1 _ rfl
    have b2 := BX.out.cell 2 _ rfl
    go_wp2_with fail
    refine Calls.mono (rcopied_any wc pa pn pc l HS.out ra rn rc r HI.out ta tn tc t HT.out (by have := HP8.out; omega) (by have := HP8.out; omega) (by have := HP8.out; omega)) ?_
    rintro e w3 ⟨a1, c1, a2, c2, a3, c3, rfl, htab, x3⟩
    have X3 := new_below w3 (.cells #[.slice a1 l.length c1, .slice a2 r.length c2, .slice a3 t.length c3] 26)
    have Y0 := hide (chain x3 X3)
    have M0 := hide (mine_new htab x3.size 26)
    obtain ⟨g, rfl⟩ : ∃ g, a1 = some ⟨g, 0, none⟩ := by
      rcases htab.p.2 with ⟨e1, e2⟩ | ⟨g, cap, cur, e1, _⟩
      · have := HKL.out
        omega
      · simp only [Value.slice.injEq] at e1
        exact ⟨g, e1.1⟩
    have HGB : Hid (wc.heap.size ≤ g) := (htab.p.lt g rfl).1
    clear X3 x3 htab b0 b1 b2
    go_upto_region 8 with fail
    generalize w3.alloc (.cells #[.slice (some ⟨g, 0, none⟩) l.length c1, .slice a2 r.length c2, .slice a3 t.length c3] 26) = V0 at *
    generalize w3.heap.size = mb at *
    have hk1 : (k : Int) < (l.length : Int) := by have := HKL.out; omega
    have hk0 : (0 : Int) ≤ (k : Int) := by omega
    have b1 := (BX.out.below (Nat.lt_of_succ_lt hl3.out) Y0.out).cell 1 _ rfl
    go_wp2_with fail
    refine Calls.mono (rout_any V0 ra rn rc r (HI.out.below Y0.out) (k : Int) (by have := HP8.out; omega)) ?_
    rintro e w5 ⟨ov, rfl, ho, x5⟩
    obtain ⟨oa, oc, rfl, -⟩ := iown_is ho
    have HR := hide (M0.out.queue x5 ho)
    have MB5 := M0.out.bl.below M0.out.lt x5
    have g1 := MB5.cell 1 _ rfl
    have f1 := MB5.free 1
    clear b1 ho x5 MB5
    go_upto_region 9 with fail
    have M1 := hide HR.out.1
    have Y1 := hide (Y0.out.trans HR.out.2)
    clear g1 f1 HR
    generalize w5.setCell ⟨mb, 1, none⟩ (.slice oa (outOf r (k : Int)).length oc) = V1 at *
    have m0 := M1.out.bl.cell 0 _ rfl
    have qc : V1.cell? ⟨g, k * 21 + 17, none⟩ = some (.int .i64 q.state) := own_cellB M1.out.tab.p HKQ.out (by decide) rfl
    have fc : V1.frozen? ⟨g, k * 21 + 17, none⟩ = false := own_freeB M1.out.tab.p _
    go_upto_region 10 with fail
    have M2 : Hid (Mine (V1.setCell ⟨g, k * 21 + 17, none⟩ (.int .i64 2)) wc.heap.size mb (.slice (some ⟨g, 0, none⟩) l.length c1) (.slice oa (outOf r (k : Int)).length oc) (.slice a3 t.length c3) (l.set k { q with state := 2 }) (outOf r (k : Int)) t) := by
      have h := M1.out.put (j := 17) (q' := { q with state := 2 }) (u := .int .i64 2) HKQ.out (by decide) rfl
      skip
      exact h
    have Y2 := hide (Y1.out.setCell (p := ⟨g, k * 21 + 17, none⟩) HGB.out (.int .i64 2))
    clear qc fc m0
    generalize V1.setCell ⟨g, k * 21 + 17, none⟩ (.int .i64 2) = V2 at *
    have m0 := M2.out.bl.cell 0 _ rfl
    have qc : V2.cell? ⟨g, k * 21 + 19, none⟩ = some (.int .i64 q.wait) := own_cellB M2.out.tab.p (by rw [List.getElem?_set_self HKL.out] : (l.set k { q with state := 2 })[k]? = some { q with state := 2 }) (by decide) rfl
    have fc : V2.frozen? ⟨g, k * 21 + 19, none⟩ = false := own_freeB M2.out.tab.p _
    go_upto_region 11 with fail
    have M3 : Hid (Mine (V2.setCell ⟨g, k * 21 + 19, none⟩ (.int .i64 wt)) wc.heap.size mb (.slice (some ⟨g, 0, none⟩) l.length c1) (.slice oa (outOf r (k : Int)).length oc) (.slice a3 t.length c3) (l.set k { q with state := 2, wait := wt }) (outOf r (k : Int)) t) := by
      have h := M2.out.put (j := 19) (q' := { q with state := 2, wait := wt }) (u := .int .i64 wt) (by rw [List.getElem?_set_self HKL.out] : (l.set k { q with state := 2 })[k]? = some { q with state := 2 }) (by decide) rfl
      rw [List.set_set] at h
      exact h
    have Y3 := hide (Y2.out.setCell (p := ⟨g, k * 21 + 19, none⟩) HGB.out (.int .i64 wt))
    clear qc fc m0
    generalize V2.setCell ⟨g, k * 21 + 19, none⟩ (.int .i64 wt) = V3 at *
    have m0 := M3.out.bl.cell 0 _ rfl
    have qc : V3.cell? ⟨g, k * 21 + 20, none⟩ = some (.int .i64 q.obj) := own_cellB M3.out.tab.p (by rw [List.getElem?_set_self HKL.out] : (l.set k { q with state := 2, wait := wt })[k]? = some { q with state := 2, wait := wt }) (by decide) rfl
    have fc : V3.frozen? ⟨g, k * 21 + 20, none⟩ = false := own_freeB M3.out.tab.p _
    go_upto_region 12 with fail
    have M4 : Hid (Mine (V3.setCell ⟨g, k * 21 + 20, none⟩ (.int .i64 ob)) wc.heap.size mb (.slice (some ⟨g, 0, none⟩) l.length c1) (.slice oa (outOf r (k : Int)).length oc) (.slice a3 t.length c3) (l.set k (Rb.blockP q wt ob)) (outOf r (k : Int)) t) := by
      have h := M3.out.put (j := 20) (q' := (Rb.blockP q wt ob)) (u := .int .i64 ob) (by rw [List.getElem?_set_self HKL.out] : (l.set k { q with state := 2, wait := wt })[k]? = some { q with state := 2, wait := wt }) (by decide) rfl
      rw [List.set_set] at h
      exact h
    have Y4 := hide (Y3.out.setCell (p := ⟨g, k * 21 + 20, none⟩) HGB.out (.int .i64 ob))
    clear qc fc m0
    generalize V3.setCell ⟨g, k * 21 + 20, none⟩ (.int .i64 ob) = V4 at *
    have HNT := hide (Rb.no_timer HGD.out HKQ.out HST.out)
    by_cases hd : du = -1
    · have e0d : decide (0 ≤ du) = false := decide_eq_false (by omega)
      have HBL : Hid (Rb.blkT t (k : Int) du = t) := if_pos hd
      clear hd
      have BGF := hide (BG.out.below hl3.out Y4.out)
      have BW := hide (B1.out.trans (Y4.out.mono B1.out.size))
      have T1 := hide ((M4.out.tab.three (g := w.heap.size + 1) hl3.out (.slice (some ⟨g, 0, none⟩) l.length c1) (.slice oa (outOf r (k : Int)).length oc) (.slice a3 t.length c3)).weaken B1.out.size)
      have m0 := M4.out.bl.cell 0 _ rfl
      have m1 := M4.out.bl.cell 1 _ rfl
      have m2 := M4.out.bl.cell 2 _ rfl
      have G1 := hide (bl_three BGF.out (.slice (some ⟨g, 0, none⟩) l.length c1) (.slice oa (outOf r (k : Int)).length oc) (.slice a3 t.length c3))
      have BF := hide (below3 (g := w.heap.size + 1) (.slice (some ⟨g, 0, none⟩) l.length c1) (.slice oa (outOf r (k : Int)).length oc) (.slice a3 t.length c3) BW.out (by omega))
      have g0 := BGF.out.cell 0 _ rfl
      have g1 := BGF.out.cell 1 _ rfl
      have g2 := BGF.out.cell 2 _ rfl
      have f0 := BGF.out.free 0
      have f1 := BGF.out.free 1
      have f2 := BGF.out.free 2
      go_wp2
      generalize (((V4.setCell ⟨w.heap.size + 1, 0, none⟩ (.slice (some ⟨g, 0, none⟩) l.length c1)).setCell ⟨w.heap.size + 1, 1, none⟩ (.slice oa (outOf r (k : Int)).length oc)).setCell ⟨w.heap.size + 1, 2, none⟩ (.slice a3 t.length c3)) = W9 at *
      have e0 := G1.out.cell 0 _ rfl
      have e1 := G1.out.cell 1 _ rfl
      have e2 := G1.out.cell 2 _ rfl
      (try simp only [Exit.inBlock, Exit.then])
      refine bodyPost_ret (v := .tuple #[.agg #[.slice (some ⟨g, 0, none⟩) l.length c1, .slice oa (outOf r (k : Int)).length oc, .slice a3 t.length c3], .int .i64 0]) (by simp [results, Tryz.results6, go_sem, e0, e1, e2]) rfl ?_
      exact ⟨_, _, _, _, _, _, _, _, _, by rw [HO.out.1]; rfl, by rw [HO.out.2.1, HO.out.2.2.1, HO.out.2.2.2, setAt_of HKQ.out, HBL.out]; exact T1.out, BF.out⟩
    have hdu : 0 ≤ du := by
      have h0 := HKX.out.2.2
      omega
    have e0d : decide (0 ≤ du) = true := decide_eq_true hdu
    have HBL : Hid (Rb.blkT t (k : Int) du = srt (t ++ [(⟨(k : Int), du⟩ : Tm)])) := by
      unfold Hid Rb.blkT
      rw [if_neg hd, Rb.oth_self HNT.out]
    clear hd hdu
    have X5 := new_below V4 (.cells #[.int .i64 (k : Int), .int .i64 du] 61)
    have M5 := hide (M4.out.below X5)
    have XB5 : Hid (Bl (V4.alloc (.cells #[.int .i64 (k : Int), .int .i64 du] 61)) V4.heap.size [.int .i64 (k : Int), .int .i64 du]) := bl_alloc V4 #[.int .i64 (k : Int), .int .i64 du] 61
    have XZ5 : Hid (V4.heap.size < (V4.alloc (.cells #[.int .i64 (k : Int), .int .i64 du] 61)).heap.size) := by unfold Hid; simp
    have XNE : Hid (mb ≠ V4.heap.size) := by have := M4.out.lt; unfold Hid; omega
    have Y5 := hide (Y4.out.trans (X5.mono Y4.out.size))
    clear X5
    go_upto_region 14 with fail
    generalize V4.alloc (.cells #[.int .i64 (k : Int), .int .i64 du] 61) = V5 at *
    generalize V4.heap.size = xb at *
    have g2 := M5.out.bl.cell 2 _ rfl
    have f2 := M5.out.bl.free 2
    have M6 := hide (M5.out.timers (Below.refl _ _) (town_nil V5 V5.heap.size)).1
    have Y6 := hide (Y5.out.trans (M5.out.timers (Below.refl _ _) (town_nil V5 V5.heap.size)).2)
    have XB6 := hide (XB5.out.far (g' := mb) (k := 2) (u := .slice none 0 0) XNE.out)
    have XZ6 : Hid (xb < (V5.setCell ⟨mb, 2, none⟩ (.slice none 0 0)).heap.size) := by
      have := XZ5.out
      unfold Hid
      simpa [World.setCell] using this
    go_upto_region 15 with fail
    clear g2 f2
    generalize V5.setCell ⟨mb, 2, none⟩ (.slice none 0 0) = V6 at *
    clear M0 M1 M2 M3 M4 M5 Y0 Y1 Y2 Y3 Y4 Y5 XB5 XZ5 hk0 hk1 e0d
    go_wp2
    go_loopw [14, 15] (fun dv i wr => ∃ (j : Nat) (dn : Bool) (a : Option Addr) (n c : Nat) (acc : List Tm), j ≤ tn ∧ dv = .bool dn ∧ i = .int .i64 (j : Int) ∧ Hid (Mine wr wc.heap.size mb (.slice (some ⟨g, 0, none⟩) l.length c1) (.slice oa (outOf r (k : Int)).length oc) (.slice a n c) (l.set k (Rb.blockP q wt ob)) (outOf r (k : Int)) acc) ∧ Hid (Ins (⟨(k : Int), du⟩ : Tm) t j dn acc) ∧ Hid ((Value.slice a n c).ownBlock ≠ some xb) ∧ Hid (Bl wr xb [.int .i64 (k : Int), .int .i64 du]) ∧ Hid (xb < wr.heap.size) ∧ Hid (Below wc.heap.size wc wr)) (fun _ i _ => tn - (intOf i).toNat)
    case atStart => exact ⟨0, false, none, 0, 0, [], by omega, rfl, rfl, M6.out, ins_zero _ _, by unfold Hid; simp [Value.ownBlock], XB6.out, XZ6.out, Y6.out⟩
    case round =>
      clear M6 XB6 XZ6 Y6
      obtain ⟨j, dn, a, n, c, acc, hj, rfl, rfl, hM, hI, hF, hX, hXZ, hb⟩ := hrel
      have b2 := (BX.out.below (Nat.lt_of_succ_lt hl3.out) hb.out).cell 2 _ rfl
      have LO : Hid (acc.length ≤ 20) := by
        have h1 := hI.out.len
        have h2 := HLT.out
        have h3 := HP8.out
        unfold Hid
        omega
      have HFX := hide hF.out
      have ht8 : tn ≤ 8 := HP8.out.2.2
      by_cases hlt : j < tn
      · obtain ⟨y, hy⟩ : ∃ y, t[j]? = some y := ⟨_, List.getElem?_eq_getElem (by rw [HLT.out]; exact hlt)⟩
        obtain ⟨b, off, rfl, hr⟩ := HT.out.at tm2 (by decide) hy
        have HRG := hide hr
        have HBB : Hid (b < wc.heap.size) := block_lt_of_cell (hr 0 _ rfl)
        have HCT : Hid (∀ wz, Below wc.heap.size wc wz → (fun wz => wz.cell? ⟨w.heap.size, 2, none⟩ = some (.slice (some ⟨b, off, none⟩) tn tc) ∧ wz.cell? ⟨b, off + j * 2, none⟩ = some (.int .i64 y.proc) ∧ wz.cell? ⟨b, off + j * 2 + 1, none⟩ = some (.int .i64 y.due)) wz) := fun wz hz => by
          refine ⟨(BX.out.below (Nat.lt_of_succ_lt hl3.out) hz).cell 2 _ rfl, ?_, ?_⟩
          · rw [hz.cell (p := ⟨b, off + j * 2, none⟩) HBB.out]; exact HRG.out 0 _ rfl
          · rw [hz.cell (p := ⟨b, off + j * 2 + 1, none⟩) HBB.out]; exact HRG.out 1 _ rfl
        have hj1 : (j : Int) < (tn : Int) := by omega
        have HY := hide hy
        have HO2 := hide HGD.out.2.2.2.1.2.2
        clear hr hy
        cases dn
        · skip
          go_upto_region 19 with fail
          clear b2
          have HW := hide (Below.refl wr.heap.size wr)
          have HC9 : Hid (∀ wz, Below wr.heap.size wr wz → (fun wz => wz.cell? ⟨xb, 0, none⟩ = some (.int .i64 (k : Int)) ∧ wz.cell? ⟨xb, 1, none⟩ = some (.int .i64 du) ∧ wz.cell? ⟨w.heap.size, 2, none⟩ = some (.slice (some ⟨b, off, none⟩) tn tc) ∧ wz.cell? ⟨b, off + j * 2, none⟩ = some (.int .i64 y.proc) ∧ wz.cell? ⟨b, off + j * 2 + 1, none⟩ = some (.int .i64 y.due)) wz) := fun wz hz => by
            have h1 := hX.out.below hXZ.out hz
            exact ⟨h1.cell 0 _ rfl, h1.cell 1 _ rfl, HCT.out wz (hb.out.trans (hz.mono hb.out.size))⟩
          go_region_held3 (fun wz => wz.cell? ⟨xb, 0, none⟩ = some (.int .i64 (k : Int)) ∧ wz.cell? ⟨xb, 1, none⟩ = some (.int .i64 du) ∧ wz.cell? ⟨w.heap.size, 2, none⟩ = some (.slice (some ⟨b, off, none⟩) tn tc) ∧ wz.cell? ⟨b, off + j * 2, none⟩ = some (.int .i64 y.proc) ∧ wz.cell? ⟨b, off + j * 2 + 1, none⟩ = some (.int .i64 y.due))
            (first | exact HC9.out _ HW.out | exact HC9.out _ HW.out.drew)
            (first
              | (go_at_call 26; refine (rahead_any (⟨(k : Int), du⟩ : Tm) y _).mono ?_; rintro e wa ⟨rfl, bf⟩; have HW := hide (chain HW.out (by first | exact bf | exact undrewB bf)); clear bf)
              | fail)
          have HMW := hide (hM.out.below HW.out)
          have XBW := hide (hX.out.below hXZ.out HW.out)
          have XZW : Hid (xb < wa.heap.size) := Nat.lt_of_lt_of_le hXZ.out HW.out.size
          have YW := hide (hb.out.trans (HW.out.mono hb.out.size))
          clear HW HC9 hM hX hXZ hb
          cases hlt9 : Tm.lt (⟨(k : Int), du⟩ : Tm) y
          · go_upto_region 22 with fail
            have HMX := hide HMW.out
            have XBC := hide XBW.out
            have XZC := hide XZW.out
            have YC := hide YW.out
            have C0 : Hid (Below wc.heap.size wc wa.drew) := YC.out.drew
            have HM0 := hide (HMX.out.below (Below.refl _ _).drew)
            have XB0 := hide (XBC.out.below XZC.out (Below.refl _ _).drew)
            have XZ0 : Hid (xb < wa.drew.heap.size) := XZC.out
            refine wp_region_held_drew (S := fun wz => wz.cell? ⟨w.heap.size, 2, none⟩ = some (.slice (some ⟨b, off, none⟩) tn tc) ∧ wz.cell? ⟨b, off + j * 2, none⟩ = some (.int .i64 y.proc) ∧ wz.cell? ⟨b, off + j * 2 + 1, none⟩ = some (.int .i64 y.due)) (by kernel_rfl) (HCT.out _ C0.out) (fun hHeld => ?_)
            generalize wa.drew = Y0w at *
            refine wpAnyH_take (i := 0) (oi := { dst := some 110, op := Go.Op.fieldAddr 26 (Go.Operand.tmp 12) 2, type := 0, pos := "ref.go:193", after := #[], guard := none }) (v := ?_) rfl (by kernel_rfl) (by kernel_rfl) (by kernel_rfl) (fun _ _ _ h => h) (Or.inl ⟨by rfl, ?_⟩) (by assumption) ?_
            rotate_left
            · intro w hSw
              try dsimp only at hSw
              go_simp
              try with_reducible rfl
            simp only [Act.put, List.setIfInBounds_toArray, List.set_cons_zero, List.set_cons_succ]
            refine wpAnyH_take (i := 2) (oi := { dst := some 112, op := Go.Op.fieldAddr 26 (Go.Operand.tmp 5) 2, type := 0, pos := "ref.go:193", after := #[], guard := none }) (v := ?_) rfl (by kernel_rfl) (by kernel_rfl) (by kernel_rfl) (fun _ _ _ h => h) (Or.inl ⟨by rfl, ?_⟩) (by assumption) ?_
            rotate_left
            · intro w hSw
              try dsimp only at hSw
              go_simp
              try with_reducible rfl
            simp only [Act.put, List.setIfInBounds_toArray, List.set_cons_zero, List.set_cons_succ]
            refine wpAnyH_take (i := 3) (oi := { dst := some 113, op := Go.Op.load 24 (Go.Operand.tmp 112), type := 24, pos := "ref.go:193", after := #[{ on := 2, ground := Go.Ground.data }], guard := none }) (v := ?_) rfl (by kernel_rfl) (by kernel_rfl) (by kernel_rfl) (fun _ _ _ h => h) (Or.inl ⟨by rfl, ?_⟩) (by assumption) ?_
            rotate_left
            · intro w hSw
              try dsimp only at hSw
              go_simp
              try with_reducible rfl
            simp only [Act.put, List.setIfInBounds_toArray, List.set_cons_zero, List.set_cons_succ]
            refine wpAnyH_take (i := 4) (oi := { dst := some 114, op := Go.Op.move (Go.Operand.tmp 15), type := 3, pos := "ref.go:193", after := #[], guard := none }) (v := ?_) rfl (by kernel_rfl) (by kernel_rfl) (by kernel_rfl) (fun _ _ _ h => h) (Or.inl ⟨by rfl, ?_⟩) (by assumption) ?_
            rotate_left
            · intro w hSw
              try dsimp only at hSw
              go_simp
              try with_reducible rfl
            simp only [Act.put, List.setIfInBounds_toArray, List.set_cons_zero, List.set_cons_succ]
            refine wpAnyH_take (i := 5) (oi := { dst := some 115, op := Go.Op.indexAddr 24 (Go.Operand.tmp 113) (Go.Operand.tmp 114), type := 0, pos := "ref.go:193", after := #[{ on := 3, ground := Go.Ground.data }, { on := 4, ground := Go.Ground.data }], guard := none }) (v := ?_) rfl (by kernel_rfl) (by kernel_rfl) (by kernel_rfl) (fun _ _ _ h => h) (Or.inl ⟨by rfl, ?_⟩) (by assumption) ?_
            rotate_left
            · intro w hSw
              try dsimp only at hSw
              go_simp
              try with_reducible rfl
            simp only [Act.put, List.setIfInBounds_toArray, List.set_cons_zero, List.set_cons_succ]
            refine wpAnyH_take (i := 6) (oi := { dst := some 116, op := Go.Op.load 61 (Go.Operand.tmp 115), type := 61, pos := "ref.go:193", after := #[{ on := 5, ground := Go.Ground.data }], guard := none }) (v := ?_) rfl (by kernel_rfl) (by kernel_rfl) (by kernel_rfl) (fun _ _ _ h => h) (Or.inl ⟨by rfl, ?_⟩) (by assumption) ?_
            rotate_left
            · intro w hSw
              try dsimp only at hSw
              go_simp
              try with_reducible rfl
            simp only [Act.put, List.setIfInBounds_toArray, List.set_cons_zero, List.set_cons_succ]
            have m2 := HM0.out.bl.cell 2 _ rfl
            refine wpAnyH_ready (rs := [1, 7]) (by kernel_rfl) (by simp) ?_
            refine AllReadyH.cons (o := { dst := some 111, op := Go.Op.load 24 (Go.Operand.tmp 110), type := 24, pos := "ref.go:193", after := #[{ on := 0, ground := Go.Ground.data }], guard := none }) rfl (fun K hK => ?_) (AllReadyH.cons (o := { dst := some 117, op := Go.Op.buildSlice 24 1 #[(0, Go.Operand.tmp 116)], type := 24, pos := "ref.go:193", after := #[{ on := 6, ground := Go.Ground.data }], guard := none }) rfl (fun K hK => ?_) AllReadyH.nil)
            · go_simp
              try go_wp2_with fail
              refine hK.out _ _ (HCT.out _ C0.out) (fun hHeld2 => ?_)
              clear hK K hHeld
              have hHeld := hHeld2
              clear hHeld2
              try simp only [Act.put, List.setIfInBounds_toArray, List.set_cons_zero, List.set_cons_succ]
              refine wpAnyH_ready (rs := [7]) (by kernel_rfl) (by simp) ?_
              refine AllReadyH.cons (o := { dst := some 117, op := Go.Op.buildSlice 24 1 #[(0, Go.Operand.tmp 116)], type := 24, pos := "ref.go:193", after := #[{ on := 6, ground := Go.Ground.data }], guard := none }) rfl (fun K hK => ?_) (AllReadyH.nil)
              have XA := new_below Y0w (.cells #[.int .i64 y.proc, .int .i64 y.due] 61)
              have HMA := hide (HM0.out.below XA)
              have XBA := hide (XB0.out.below XZ0.out XA)
              have XZA : Hid (xb < (Y0w.alloc (.cells #[.int .i64 y.proc, .int .i64 y.due] 61)).heap.size) := Nat.lt_of_lt_of_le XZ0.out XA.size
              have BA := hide (C0.out.trans (XA.mono C0.out.size))
              have NA := hide (bl_alloc Y0w #[.int .i64 y.proc, .int .i64 y.due] 61)
              have ma2 := HMA.out.bl.cell 2 _ rfl
              clear XA
              go_simp
              try go_wp2_with fail
              refine hK.out _ _ (HCT.out _ BA.out) (fun hHeld2 => ?_)
              clear hK K hHeld
              have hHeld := hHeld2
              clear hHeld2
              try simp only [Act.put, List.setIfInBounds_toArray, List.set_cons_zero, List.set_cons_succ]
              generalize Y0w.alloc (.cells #[.int .i64 y.proc, .int .i64 y.due] 61) = Y1w at *
              generalize Y0w.heap.size = ya at *
              refine wpAnyH_ready (rs := [8]) (by kernel_rfl) (by simp) ?_
              refine AllReadyH.cons (o := { dst := some 118, op := Go.Op.call { callee := Go.Callee.builtin Go.Builtin.append, args := #[Go.Operand.tmp 111, Go.Operand.tmp 117], argTypes := #[24, 24] }, type := 24, pos := "ref.go:193", after := #[{ on := 1, ground := Go.Ground.data }, { on := 7, ground := Go.Ground.data }], guard := none }) rfl (fun K hK => ?_) (AllReadyH.nil)
              rw [if_pos (by rfl)]
              obtain ⟨i9, z9, h92, h93, h94, h95, h96⟩ := infoTimer
              refine wp_append_lies Y1w (.tmp 111) (.tmp 117) 24 rfl wc.heap.size 61 i9 z9 2 16 Tryz.underlying24 h92 h93 h94 h95 h96 (by decide) (.slice a n c) acc.length (acc.flatMap Tm.cells) rfl HMA.out.tab.t ⟨ya, 0, none⟩ 1 1 y.cells rfl rfl (fun i u hu => by rw [add_lit', Nat.zero_add]; exact NA.out.cell i u hu) (fun u hu => tm_one [y] u (by simpa using hu)) (by decide) (by have := LO.out; unfold maxLen; omega) (by have := LO.out; omega) BA.out.size _ rfl ?_
              intro g8 c8 w8 ho8 hg8 hat8 hlt8
              have hat9 : (Value.slice (some ⟨g8, 0, none⟩) (acc.length + 1) c8).ownBlock = (Value.slice a n c).ownBlock ∨ (Value.slice (some ⟨g8, 0, none⟩) (acc.length + 1) c8).ownBlock = some Y1w.heap.size := hat8.elim (fun e => .inl e.symm) (fun e => .inr (congrArg some e))
              have ho9 : TOwn w8 wc.heap.size (.slice (some ⟨g8, 0, none⟩) (acc.length + 1) c8) (acc ++ [y]) := by
                unfold TOwn
                rw [List.length_append, List.flatMap_append]
                simpa using ho8
              have HR := hide (HMA.out.times hg8 ho9 hat9)
              have FX9 : Hid ((Value.slice (some ⟨g8, 0, none⟩) (acc.length + 1) c8).ownBlock ≠ some xb) := by
                rcases hat9 with e | e
                · rw [e]; exact HFX.out
                · rw [e]
                  intro e'
                  have := Option.some.inj e'
                  have := XZA.out
                  omega
              have XB9 := hide ((XBA.out.grown XZA.out hg8 (fun e => HFX.out e.symm)).far (g' := mb) (k := 2) (u := .slice (some ⟨g8, 0, none⟩) (acc.length + 1) c8) XNE.out)
              have XZ9 : Hid (xb < (w8.setCell ⟨mb, 2, none⟩ (.slice (some ⟨g8, 0, none⟩) (acc.length + 1) c8)).heap.size) := by
                have h1 := XZA.out
                have h2 := hg8.size
                unfold Hid
                simp [World.setCell]
                omega
              have GB := HMA.out.bl.grown HMA.out.lt hg8 (fun e => HMA.out.f3 e.symm)
              have s2 := GB.cell 2 _ rfl
              have sf := GB.free 2
              have B8 := hide (BA.out.grown hg8 BA.out.size (fun i e => (HMA.out.tab.t.lt i e).1))
              have B9 := hide (BA.out.trans HR.out.2)
              clear ho8 hat8 hat9 ho9 GB hg8 hlt8 h92 h93 h94 h95 h96
              refine hK.out _ _ (HCT.out _ B8.out) (fun hHeld2 => ?_)
              clear hK K hHeld
              have hHeld := hHeld2
              clear hHeld2
              try simp only [Act.put, List.setIfInBounds_toArray, List.set_cons_zero, List.set_cons_succ]
              refine wpAnyH_take (i := 9) (oi := { dst := some 119, op := Go.Op.fieldAddr 26 (Go.Operand.tmp 12) 2, type := 0, pos := "ref.go:193", after := #[{ on := 0, ground := Go.Ground.phase }, { on := 1, ground := Go.Ground.phase }, { on := 2, ground := Go.Ground.phase }, { on := 3, ground := Go.Ground.phase }, { on := 4, ground := Go.Ground.phase }, { on := 5, ground := Go.Ground.phase }, { on := 6, ground := Go.Ground.phase }, { on := 7, ground := Go.Ground.phase }, { on := 8, ground := Go.Ground.phase }], guard := none }) (v := ?_) rfl (by kernel_rfl) (by kernel_rfl) (by kernel_rfl) (fun _ _ _ h => h) (Or.inl ⟨by rfl, ?_⟩) (by assumption) ?_
              rotate_left
              · intro w hSw
                try dsimp only at hSw
                go_simp
                try with_reducible rfl
              simp only [Act.put, List.setIfInBounds_toArray, List.set_cons_zero, List.set_cons_succ]
              refine wpAnyH_ready (rs := [10]) (by kernel_rfl) (by simp) ?_
              refine AllReadyH.cons (o := { dst := none, op := Go.Op.store 24 (Go.Operand.tmp 119) (Go.Operand.tmp 118), type := 0, pos := "ref.go:193", after := #[{ on := 9, ground := Go.Ground.data }, { on := 8, ground := Go.Ground.data }, { on := 8, ground := Go.Ground.chain }, { on := 0, ground := Go.Ground.phase }, { on := 1, ground := Go.Ground.phase }, { on := 2, ground := Go.Ground.phase }, { on := 3, ground := Go.Ground.phase }, { on := 4, ground := Go.Ground.phase }, { on := 5, ground := Go.Ground.phase }, { on := 6, ground := Go.Ground.phase }, { on := 7, ground := Go.Ground.phase }, { on := 8, ground := Go.Ground.phase }], guard := none }) rfl (fun K hK => ?_) (AllReadyH.nil)
              go_simp
              try go_wp2_with fail
              refine hK.out _ _ (HCT.out _ B9.out) (fun hHeld2 => ?_)
              clear hK K hHeld
              have hHeld := hHeld2
              clear hHeld2
              try simp only [Act.put, List.setIfInBounds_toArray, List.set_cons_zero, List.set_cons_succ]
              have M9 := hide HR.out.1
              clear HR s2 sf
              generalize w8.setCell ⟨mb, 2, none⟩ (.slice (some ⟨g8, 0, none⟩) (acc.length + 1) c8) = W9 at *
              refine wpAnyH_done (by kernel_rfl) ?_ _
              go_wp2
              go_roundw
              case rel => exact ⟨j + 1, false, _, _, _, _, by omega, rfl, by go_num, M9.out, hI.out.no HY.out hlt9, FX9.out, XB9.out, XZ9.out, B9.out⟩
              case measure => simp [intOf]; omega
            · have XA := new_below Y0w (.cells #[.int .i64 y.proc, .int .i64 y.due] 61)
              have HMA := hide (HM0.out.below XA)
              have XBA := hide (XB0.out.below XZ0.out XA)
              have XZA : Hid (xb < (Y0w.alloc (.cells #[.int .i64 y.proc, .int .i64 y.due] 61)).heap.size) := Nat.lt_of_lt_of_le XZ0.out XA.size
              have BA := hide (C0.out.trans (XA.mono C0.out.size))
              have NA := hide (bl_alloc Y0w #[.int .i64 y.proc, .int .i64 y.due] 61)
              have ma2 := HMA.out.bl.cell 2 _ rfl
              clear XA
              go_simp
              try go_wp2_with fail
              refine hK.out _ _ (HCT.out _ BA.out) (fun hHeld2 => ?_)
              clear hK K hHeld
              have hHeld := hHeld2
              clear hHeld2
              try simp only [Act.put, List.setIfInBounds_toArray, List.set_cons_zero, List.set_cons_succ]
              generalize Y0w.alloc (.cells #[.int .i64 y.proc, .int .i64 y.due] 61) = Y1w at *
              generalize Y0w.heap.size = ya at *
              refine wpAnyH_ready (rs := [1]) (by kernel_rfl) (by simp) ?_
              refine AllReadyH.cons (o := { dst := some 111, op := Go.Op.load 24 (Go.Operand.tmp 110), type := 24, pos := "ref.go:193", after := #[{ on := 0, ground := Go.Ground.data }], guard := none }) rfl (fun K hK => ?_) (AllReadyH.nil)
              go_simp
              try go_wp2_with fail
              refine hK.out _ _ (HCT.out _ BA.out) (fun hHeld2 => ?_)
              clear hK K hHeld
              have hHeld := hHeld2
              clear hHeld2
              try simp only [Act.put, List.setIfInBounds_toArray, List.set_cons_zero, List.set_cons_succ]
              refine wpAnyH_ready (rs := [8]) (by kernel_rfl) (by simp) ?_
              refine AllReadyH.cons (o := { dst := some 118, op := Go.Op.call { callee := Go.Callee.builtin Go.Builtin.append, args := #[Go.Operand.tmp 111, Go.Operand.tmp 117], argTypes := #[24, 24] }, type := 24, pos := "ref.go:193", after := #[{ on := 1, ground := Go.Ground.data }, { on := 7, ground := Go.Ground.data }], guard := none }) rfl (fun K hK => ?_) (AllReadyH.nil)
              rw [if_pos (by rfl)]
              obtain ⟨i9, z9, h92, h93, h94, h95, h96⟩ := infoTimer
              refine wp_append_lies Y1w (.tmp 111) (.tmp 117) 24 rfl wc.heap.size 61 i9 z9 2 16 Tryz.underlying24 h92 h93 h94 h95 h96 (by decide) (.slice a n c) acc.length (acc.flatMap Tm.cells) rfl HMA.out.tab.t ⟨ya, 0, none⟩ 1 1 y.cells rfl rfl (fun i u hu => by rw [add_lit', Nat.zero_add]; exact NA.out.cell i u hu) (fun u hu => tm_one [y] u (by simpa using hu)) (by decide) (by have := LO.out; unfold maxLen; omega) (by have := LO.out; omega) BA.out.size _ rfl ?_
              intro g8 c8 w8 ho8 hg8 hat8 hlt8
              have hat9 : (Value.slice (some ⟨g8, 0, none⟩) (acc.length + 1) c8).ownBlock = (Value.slice a n c).ownBlock ∨ (Value.slice (some ⟨g8, 0, none⟩) (acc.length + 1) c8).ownBlock = some Y1w.heap.size := hat8.elim (fun e => .inl e.symm) (fun e => .inr (congrArg some e))
              have ho9 : TOwn w8 wc.heap.size (.slice (some ⟨g8, 0, none⟩) (acc.length + 1) c8) (acc ++ [y]) := by
                unfold TOwn
                rw [List.length_append, List.flatMap_append]
                simpa using ho8
              have HR := hide (HMA.out.times hg8 ho9 hat9)
              have FX9 : Hid ((Value.slice (some ⟨g8, 0, none⟩) (acc.length + 1) c8).ownBlock ≠ some xb) := by
                rcases hat9 with e | e
                · rw [e]; exact HFX.out
                · rw [e]
                  intro e'
                  have := Option.some.inj e'
                  have := XZA.out
                  omega
              have XB9 := hide ((XBA.out.grown XZA.out hg8 (fun e => HFX.out e.symm)).far (g' := mb) (k := 2) (u := .slice (some ⟨g8, 0, none⟩) (acc.length + 1) c8) XNE.out)
              have XZ9 : Hid (xb < (w8.setCell ⟨mb, 2, none⟩ (.slice (some ⟨g8, 0, none⟩) (acc.length + 1) c8)).heap.size) := by
                have h1 := XZA.out
                have h2 := hg8.size
                unfold Hid
                simp [World.setCell]
                omega
              have GB := HMA.out.bl.grown HMA.out.lt hg8 (fun e => HMA.out.f3 e.symm)
              have s2 := GB.cell 2 _ rfl
              have sf := GB.free 2
              have B8 := hide (BA.out.grown hg8 BA.out.size (fun i e => (HMA.out.tab.t.lt i e).1))
              have B9 := hide (BA.out.trans HR.out.2)
              clear ho8 hat8 hat9 ho9 GB hg8 hlt8 h92 h93 h94 h95 h96
              refine hK.out _ _ (HCT.out _ B8.out) (fun hHeld2 => ?_)
              clear hK K hHeld
              have hHeld := hHeld2
              clear hHeld2
              try simp only [Act.put, List.setIfInBounds_toArray, List.set_cons_zero, List.set_cons_succ]
              refine wpAnyH_take (i := 9) (oi := { dst := some 119, op := Go.Op.fieldAddr 26 (Go.Operand.tmp 12) 2, type := 0, pos := "ref.go:193", after := #[{ on := 0, ground := Go.Ground.phase }, { on := 1, ground := Go.Ground.phase }, { on := 2, ground := Go.Ground.phase }, { on := 3, ground := Go.Ground.phase }, { on := 4, ground := Go.Ground.phase }, { on := 5, ground := Go.Ground.phase }, { on := 6, ground := Go.Ground.phase }, { on := 7, ground := Go.Ground.phase }, { on := 8, ground := Go.Ground.phase }], guard := none }) (v := ?_) rfl (by kernel_rfl) (by kernel_rfl) (by kernel_rfl) (fun _ _ _ h => h) (Or.inl ⟨by rfl, ?_⟩) (by assumption) ?_
              rotate_left
              · intro w hSw
                try dsimp only at hSw
                go_simp
                try with_reducible rfl
              simp only [Act.put, List.setIfInBounds_toArray, List.set_cons_zero, List.set_cons_succ]
              refine wpAnyH_ready (rs := [10]) (by kernel_rfl) (by simp) ?_
              refine AllReadyH.cons (o := { dst := none, op := Go.Op.store 24 (Go.Operand.tmp 119) (Go.Operand.tmp 118), type := 0, pos := "ref.go:193", after := #[{ on := 9, ground := Go.Ground.data }, { on := 8, ground := Go.Ground.data }, { on := 8, ground := Go.Ground.chain }, { on := 0, ground := Go.Ground.phase }, { on := 1, ground := Go.Ground.phase }, { on := 2, ground := Go.Ground.phase }, { on := 3, ground := Go.Ground.phase }, { on := 4, ground := Go.Ground.phase }, { on := 5, ground := Go.Ground.phase }, { on := 6, ground := Go.Ground.phase }, { on := 7, ground := Go.Ground.phase }, { on := 8, ground := Go.Ground.phase }], guard := none }) rfl (fun K hK => ?_) (AllReadyH.nil)
              go_simp
              try go_wp2_with fail
              refine hK.out _ _ (HCT.out _ B9.out) (fun hHeld2 => ?_)
              clear hK K hHeld
              have hHeld := hHeld2
              clear hHeld2
              try simp only [Act.put, List.setIfInBounds_toArray, List.set_cons_zero, List.set_cons_succ]
              have M9 := hide HR.out.1
              clear HR s2 sf
              generalize w8.setCell ⟨mb, 2, none⟩ (.slice (some ⟨g8, 0, none⟩) (acc.length + 1) c8) = W9 at *
              refine wpAnyH_done (by kernel_rfl) ?_ _
              go_wp2
              go_roundw
              case rel => exact ⟨j + 1, false, _, _, _, _, by omega, rfl, by go_num, M9.out, hI.out.no HY.out hlt9, FX9.out, XB9.out, XZ9.out, B9.out⟩
              case measure => simp [intOf]; omega
          · go_upto_region 20 with fail
            have HXM := hide infoTimer
            have x0 := XBW.out.cell 0 _ rfl
            have x1 := XBW.out.cell 1 _ rfl
            have c2 := HMW.out.bl.cell 2 _ rfl
            have X4 := new_below wa (.cells #[.int .i64 (k : Int), .int .i64 du] 61)
            have HMA := hide (HMW.out.below X4)
            have XBA := hide (XBW.out.below XZW.out X4)
            have XZA : Hid (xb < (wa.alloc (.cells #[.int .i64 (k : Int), .int .i64 du] 61)).heap.size) := Nat.lt_of_lt_of_le XZW.out X4.size
            have YA := hide (YW.out.trans (X4.mono YW.out.size))
            clear X4
            go_upto_region 21 with (at_builtin; refine append_rec rfl (.tmp 105) (.tmp 107) 24 61 rfl Tryz.underlying24 HXM.out (by decide) wc.heap.size _ _ _ rfl HMA.out.tab.t wa.heap.size 1 [.int .i64 (k : Int), .int .i64 du] rfl rfl (fun i u hu => by rw [World.cell?_alloc_at _ _ _ _ (by simp)]; simpa using hu) (fun u hu => tm_one [⟨(k : Int), du⟩] u (by simpa [Tm.cells] using hu)) (by have := LO.out; unfold maxLen; omega) (by have := LO.out; omega) YA.out.size ?_; intro g7 c7 w7 ho7 hg7 hat7 hlt7; have G7 := hide hg7; have A7 := hide hat7; have O7 := hide ho7; have GB := HMA.out.bl.grown HMA.out.lt hg7 (fun e => HMA.out.f3 e.symm); have g2 := GB.cell 2 _ rfl; have f2 := GB.free 2; clear hg7 hat7 ho7 GB)
            clear x0 x1 c2 g2 f2
            have hg7 : (wa.alloc (.cells #[.int .i64 (k : Int), .int .i64 du] 61)).grownBy w7 (Value.slice a n c).ownBlock := G7.out
            have hat9 : (Value.slice (some ⟨g7, 0, none⟩) (acc.length + 1) c7).ownBlock = (Value.slice a n c).ownBlock ∨ (Value.slice (some ⟨g7, 0, none⟩) (acc.length + 1) c7).ownBlock = some (wa.alloc (.cells #[.int .i64 (k : Int), .int .i64 du] 61)).heap.size := A7.out.elim (fun e => .inl e.symm) (fun e => .inr (congrArg some e))
            have ho9 : TOwn w7 wc.heap.size (.slice (some ⟨g7, 0, none⟩) (acc.length + 1) c7) (acc ++ [⟨(k : Int), du⟩]) := by
              unfold TOwn
              rw [List.length_append, List.flatMap_append]
              simpa [Tm.cells] using O7.out
            have HR := hide (HMA.out.times hg7 ho9 hat9)
            have FXX : Hid ((Value.slice (some ⟨g7, 0, none⟩) (acc.length + 1) c7).ownBlock ≠ some xb) := by
              rcases hat9 with e | e
              · rw [e]; exact HFX.out
              · rw [e]
                intro e'
                have := Option.some.inj e'
                have := XZA.out
                omega
            have XBN := hide ((XBA.out.grown XZA.out hg7 (fun e => HFX.out e.symm)).far (g' := mb) (k := 2) (u := .slice (some ⟨g7, 0, none⟩) (acc.length + 1) c7) XNE.out)
            have XZN : Hid (xb < (w7.setCell ⟨mb, 2, none⟩ (.slice (some ⟨g7, 0, none⟩) (acc.length + 1) c7)).heap.size) := by
              have h1 := XZA.out
              have h2 := hg7.size
              unfold Hid
              simp [World.setCell]
              omega
            have YN := hide (YA.out.trans HR.out.2)
            have MN := hide HR.out.1
            clear HR hg7 hat9 ho9 G7 A7 O7 HMA XBA XZA YA hlt7
            generalize w7.setCell ⟨mb, 2, none⟩ (.slice (some ⟨g7, 0, none⟩) (acc.length + 1) c7) = WN at *
            go_upto_region 22 with fail
            obtain ⟨acc2, ha2⟩ : ∃ z, z = acc ++ [(⟨(k : Int), du⟩ : Tm)] := ⟨_, rfl⟩
            rw [← ha2] at MN
            have HA2 := hide ha2
            have HMX := hide MN.out
            have XBC := hide XBN.out
            have XZC := hide XZN.out
            have YC := hide YN.out
            clear HFX
            have HFX := FXX
            have LO9 : Hid (acc2.length ≤ 30) := by have := LO.out; unfold Hid; rw [ha2, List.length_append]; simp; omega
            clear LO ha2 MN
            have LO := LO9
            clear LO9
            have C0 : Hid (Below wc.heap.size wc WN.drew) := YC.out.drew
            have HM0 := hide (HMX.out.below (Below.refl _ _).drew)
            have XB0 := hide (XBC.out.below XZC.out (Below.refl _ _).drew)
            have XZ0 : Hid (xb < WN.drew.heap.size) := XZC.out
            refine wp_region_held_drew (S := fun wz => wz.cell? ⟨w.heap.size, 2, none⟩ = some (.slice (some ⟨b, off, none⟩) tn tc) ∧ wz.cell? ⟨b, off + j * 2, none⟩ = some (.int .i64 y.proc) ∧ wz.cell? ⟨b, off + j * 2 + 1, none⟩ = some (.int .i64 y.due)) (by kernel_rfl) (HCT.out _ C0.out) (fun hHeld => ?_)
            generalize WN.drew = Y0w at *
            refine wpAnyH_take (i := 0) (oi := { dst := some 110, op := Go.Op.fieldAddr 26 (Go.Operand.tmp 12) 2, type := 0, pos := "ref.go:193", after := #[], guard := none }) (v := ?_) rfl (by kernel_rfl) (by kernel_rfl) (by kernel_rfl) (fun _ _ _ h => h) (Or.inl ⟨by rfl, ?_⟩) (by assumption) ?_
            rotate_left
            · intro w hSw
              try dsimp only at hSw
              go_simp
              try with_reducible rfl
            simp only [Act.put, List.setIfInBounds_toArray, List.set_cons_zero, List.set_cons_succ]
            refine wpAnyH_take (i := 2) (oi := { dst := some 112, op := Go.Op.fieldAddr 26 (Go.Operand.tmp 5) 2, type := 0, pos := "ref.go:193", after := #[], guard := none }) (v := ?_) rfl (by kernel_rfl) (by kernel_rfl) (by kernel_rfl) (fun _ _ _ h => h) (Or.inl ⟨by rfl, ?_⟩) (by assumption) ?_
            rotate_left
            · intro w hSw
              try dsimp only at hSw
              go_simp
              try with_reducible rfl
            simp only [Act.put, List.setIfInBounds_toArray, List.set_cons_zero, List.set_cons_succ]
            refine wpAnyH_take (i := 3) (oi := { dst := some 113, op := Go.Op.load 24 (Go.Operand.tmp 112), type := 24, pos := "ref.go:193", after := #[{ on := 2, ground := Go.Ground.data }], guard := none }) (v := ?_) rfl (by kernel_rfl) (by kernel_rfl) (by kernel_rfl) (fun _ _ _ h => h) (Or.inl ⟨by rfl, ?_⟩) (by assumption) ?_
            rotate_left
            · intro w hSw
              try dsimp only at hSw
              go_simp
              try with_reducible rfl
            simp only [Act.put, List.setIfInBounds_toArray, List.set_cons_zero, List.set_cons_succ]
            refine wpAnyH_take (i := 4) (oi := { dst := some 114, op := Go.Op.move (Go.Operand.tmp 15), type := 3, pos := "ref.go:193", after := #[], guard := none }) (v := ?_) rfl (by kernel_rfl) (by kernel_rfl) (by kernel_rfl) (fun _ _ _ h => h) (Or.inl ⟨by rfl, ?_⟩) (by assumption) ?_
            rotate_left
            · intro w hSw
              try dsimp only at hSw
              go_simp
              try with_reducible rfl
            simp only [Act.put, List.setIfInBounds_toArray, List.set_cons_zero, List.set_cons_succ]
            refine wpAnyH_take (i := 5) (oi := { dst := some 115, op := Go.Op.indexAddr 24 (Go.Operand.tmp 113) (Go.Operand.tmp 114), type := 0, pos := "ref.go:193", after := #[{ on := 3, ground := Go.Ground.data }, { on := 4, ground := Go.Ground.data }], guard := none }) (v := ?_) rfl (by kernel_rfl) (by kernel_rfl) (by kernel_rfl) (fun _ _ _ h => h) (Or.inl ⟨by rfl, ?_⟩) (by assumption) ?_
            rotate_left
            · intro w hSw
              try dsimp only at hSw
              go_simp
              try with_reducible rfl
            simp only [Act.put, List.setIfInBounds_toArray, List.set_cons_zero, List.set_cons_succ]
            refine wpAnyH_take (i := 6) (oi := { dst := some 116, op := Go.Op.load 61 (Go.Operand.tmp 115), type := 61, pos := "ref.go:193", after := #[{ on := 5, ground := Go.Ground.data }], guard := none }) (v := ?_) rfl (by kernel_rfl) (by kernel_rfl) (by kernel_rfl) (fun _ _ _ h => h) (Or.inl ⟨by rfl, ?_⟩) (by assumption) ?_
            rotate_left
            · intro w hSw
              try dsimp only at hSw
              go_simp
              try with_reducible rfl
            simp only [Act.put, List.setIfInBounds_toArray, List.set_cons_zero, List.set_cons_succ]
            have m2 := HM0.out.bl.cell 2 _ rfl
            refine wpAnyH_ready (rs := [1, 7]) (by kernel_rfl) (by simp) ?_
            refine AllReadyH.cons (o := { dst := some 111, op := Go.Op.load 24 (Go.Operand.tmp 110), type := 24, pos := "ref.go:193", after := #[{ on := 0, ground := Go.Ground.data }], guard := none }) rfl (fun K hK => ?_) (AllReadyH.cons (o := { dst := some 117, op := Go.Op.buildSlice 24 1 #[(0, Go.Operand.tmp 116)], type := 24, pos := "ref.go:193", after := #[{ on := 6, ground := Go.Ground.data }], guard := none }) rfl (fun K hK => ?_) AllReadyH.nil)
            · go_simp
              try go_wp2_with fail
              refine hK.out _ _ (HCT.out _ C0.out) (fun hHeld2 => ?_)
              clear hK K hHeld
              have hHeld := hHeld2
              clear hHeld2
              try simp only [Act.put, List.setIfInBounds_toArray, List.set_cons_zero, List.set_cons_succ]
              refine wpAnyH_ready (rs := [7]) (by kernel_rfl) (by simp) ?_
              refine AllReadyH.cons (o := { dst := some 117, op := Go.Op.buildSlice 24 1 #[(0, Go.Operand.tmp 116)], type := 24, pos := "ref.go:193", after := #[{ on := 6, ground := Go.Ground.data }], guard := none }) rfl (fun K hK => ?_) (AllReadyH.nil)
              have XA := new_below Y0w (.cells #[.int .i64 y.proc, .int .i64 y.due] 61)
              have HMA := hide (HM0.out.below XA)
              have XBA := hide (XB0.out.below XZ0.out XA)
              have XZA : Hid (xb < (Y0w.alloc (.cells #[.int .i64 y.proc, .int .i64 y.due] 61)).heap.size) := Nat.lt_of_lt_of_le XZ0.out XA.size
              have BA := hide (C0.out.trans (XA.mono C0.out.size))
              have NA := hide (bl_alloc Y0w #[.int .i64 y.proc, .int .i64 y.due] 61)
              have ma2 := HMA.out.bl.cell 2 _ rfl
              clear XA
              go_simp
              try go_wp2_with fail
              refine hK.out _ _ (HCT.out _ BA.out) (fun hHeld2 => ?_)
              clear hK K hHeld
              have hHeld := hHeld2
              clear hHeld2
              try simp only [Act.put, List.setIfInBounds_toArray, List.set_cons_zero, List.set_cons_succ]
              generalize Y0w.alloc (.cells #[.int .i64 y.proc, .int .i64 y.due] 61) = Y1w at *
              generalize Y0w.heap.size = ya at *
              refine wpAnyH_ready (rs := [8]) (by kernel_rfl) (by simp) ?_
              refine AllReadyH.cons (o := { dst := some 118, op := Go.Op.call { callee := Go.Callee.builtin Go.Builtin.append, args := #[Go.Operand.tmp 111, Go.Operand.tmp 117], argTypes := #[24, 24] }, type := 24, pos := "ref.go:193", after := #[{ on := 1, ground := Go.Ground.data }, { on := 7, ground := Go.Ground.data }], guard := none }) rfl (fun K hK => ?_) (AllReadyH.nil)
              rw [if_pos (by rfl)]
              obtain ⟨i9, z9, h92, h93, h94, h95, h96⟩ := infoTimer
              refine wp_append_lies Y1w (.tmp 111) (.tmp 117) 24 rfl wc.heap.size 61 i9 z9 2 16 Tryz.underlying24 h92 h93 h94 h95 h96 (by decide) (.slice (some ⟨g7, 0, none⟩) (acc.length + 1) c7) acc2.length (acc2.flatMap Tm.cells) rfl HMA.out.tab.t ⟨ya, 0, none⟩ 1 1 y.cells rfl rfl (fun i u hu => by rw [add_lit', Nat.zero_add]; exact NA.out.cell i u hu) (fun u hu => tm_one [y] u (by simpa using hu)) (by decide) (by have := LO.out; unfold maxLen; omega) (by have := LO.out; omega) BA.out.size _ rfl ?_
              intro g8 c8 w8 ho8 hg8 hat8 hlt8
              have hat9 : (Value.slice (some ⟨g8, 0, none⟩) (acc2.length + 1) c8).ownBlock = (Value.slice (some ⟨g7, 0, none⟩) (acc.length + 1) c7).ownBlock ∨ (Value.slice (some ⟨g8, 0, none⟩) (acc2.length + 1) c8).ownBlock = some Y1w.heap.size := hat8.elim (fun e => .inl e.symm) (fun e => .inr (congrArg some e))
              have ho9 : TOwn w8 wc.heap.size (.slice (some ⟨g8, 0, none⟩) (acc2.length + 1) c8) (acc2 ++ [y]) := by
                unfold TOwn
                rw [List.length_append, List.flatMap_append]
                simpa using ho8
              have HR := hide (HMA.out.times hg8 ho9 hat9)
              have FX9 : Hid ((Value.slice (some ⟨g8, 0, none⟩) (acc2.length + 1) c8).ownBlock ≠ some xb) := by
                rcases hat9 with e | e
                · rw [e]; exact HFX.out
                · rw [e]
                  intro e'
                  have := Option.some.inj e'
                  have := XZA.out
                  omega
              have XB9 := hide ((XBA.out.grown XZA.out hg8 (fun e => HFX.out e.symm)).far (g' := mb) (k := 2) (u := .slice (some ⟨g8, 0, none⟩) (acc2.length + 1) c8) XNE.out)
              have XZ9 : Hid (xb < (w8.setCell ⟨mb, 2, none⟩ (.slice (some ⟨g8, 0, none⟩) (acc2.length + 1) c8)).heap.size) := by
                have h1 := XZA.out
                have h2 := hg8.size
                unfold Hid
                simp [World.setCell]
                omega
              have GB := HMA.out.bl.grown HMA.out.lt hg8 (fun e => HMA.out.f3 e.symm)
              have s2 := GB.cell 2 _ rfl
              have sf := GB.free 2
              have B8 := hide (BA.out.grown hg8 BA.out.size (fun i e => (HMA.out.tab.t.lt i e).1))
              have B9 := hide (BA.out.trans HR.out.2)
              clear ho8 hat8 hat9 ho9 GB hg8 hlt8 h92 h93 h94 h95 h96
              refine hK.out _ _ (HCT.out _ B8.out) (fun hHeld2 => ?_)
              clear hK K hHeld
              have hHeld := hHeld2
              clear hHeld2
              try simp only [Act.put, List.setIfInBounds_toArray, List.set_cons_zero, List.set_cons_succ]
              refine wpAnyH_take (i := 9) (oi := { dst := some 119, op := Go.Op.fieldAddr 26 (Go.Operand.tmp 12) 2, type := 0, pos := "ref.go:193", after := #[{ on := 0, ground := Go.Ground.phase }, { on := 1, ground := Go.Ground.phase }, { on := 2, ground := Go.Ground.phase }, { on := 3, ground := Go.Ground.phase }, { on := 4, ground := Go.Ground.phase }, { on := 5, ground := Go.Ground.phase }, { on := 6, ground := Go.Ground.phase }, { on := 7, ground := Go.Ground.phase }, { on := 8, ground := Go.Ground.phase }], guard := none }) (v := ?_) rfl (by kernel_rfl) (by kernel_rfl) (by kernel_rfl) (fun _ _ _ h => h) (Or.inl ⟨by rfl, ?_⟩) (by assumption) ?_
              rotate_left
              · intro w hSw
                try dsimp only at hSw
                go_simp
                try with_reducible rfl
              simp only [Act.put, List.setIfInBounds_toArray, List.set_cons_zero, List.set_cons_succ]
              refine wpAnyH_ready (rs := [10]) (by kernel_rfl) (by simp) ?_
              refine AllReadyH.cons (o := { dst := none, op := Go.Op.store 24 (Go.Operand.tmp 119) (Go.Operand.tmp 118), type := 0, pos := "ref.go:193", after := #[{ on := 9, ground := Go.Ground.data }, { on := 8, ground := Go.Ground.data }, { on := 8, ground := Go.Ground.chain }, { on := 0, ground := Go.Ground.phase }, { on := 1, ground := Go.Ground.phase }, { on := 2, ground := Go.Ground.phase }, { on := 3, ground := Go.Ground.phase }, { on := 4, ground := Go.Ground.phase }, { on := 5, ground := Go.Ground.phase }, { on := 6, ground := Go.Ground.phase }, { on := 7, ground := Go.Ground.phase }, { on := 8, ground := Go.Ground.phase }], guard := none }) rfl (fun K hK => ?_) (AllReadyH.nil)
              go_simp
              try go_wp2_with fail
              refine hK.out _ _ (HCT.out _ B9.out) (fun hHeld2 => ?_)
              clear hK K hHeld
              have hHeld := hHeld2
              clear hHeld2
              try simp only [Act.put, List.setIfInBounds_toArray, List.set_cons_zero, List.set_cons_succ]
              have M9 := hide HR.out.1
              clear HR s2 sf
              generalize w8.setCell ⟨mb, 2, none⟩ (.slice (some ⟨g8, 0, none⟩) (acc2.length + 1) c8) = W9 at *
              refine wpAnyH_done (by kernel_rfl) ?_ _
              go_wp2
              go_roundw
              case rel => exact ⟨j + 1, true, _, _, _, _, by omega, rfl, by go_num, M9.out, (by unfold Hid; rw [HA2.out]; exact hI.out.yes HY.out hlt9 HO2.out), FX9.out, XB9.out, XZ9.out, B9.out⟩
              case measure => simp [intOf]; omega
            · have XA := new_below Y0w (.cells #[.int .i64 y.proc, .int .i64 y.due] 61)
              have HMA := hide (HM0.out.below XA)
              have XBA := hide (XB0.out.below XZ0.out XA)
              have XZA : Hid (xb < (Y0w.alloc (.cells #[.int .i64 y.proc, .int .i64 y.due] 61)).heap.size) := Nat.lt_of_lt_of_le XZ0.out XA.size
              have BA := hide (C0.out.trans (XA.mono C0.out.size))
              have NA := hide (bl_alloc Y0w #[.int .i64 y.proc, .int .i64 y.due] 61)
              have ma2 := HMA.out.bl.cell 2 _ rfl
              clear XA
              go_simp
              try go_wp2_with fail
              refine hK.out _ _ (HCT.out _ BA.out) (fun hHeld2 => ?_)
              clear hK K hHeld
              have hHeld := hHeld2
              clear hHeld2
              try simp only [Act.put, List.setIfInBounds_toArray, List.set_cons_zero, List.set_cons_succ]
              generalize Y0w.alloc (.cells #[.int .i64 y.proc, .int .i64 y.due] 61) = Y1w at *
              generalize Y0w.heap.size = ya at *
              refine wpAnyH_ready (rs := [1]) (by kernel_rfl) (by simp) ?_
              refine AllReadyH.cons (o := { dst := some 111, op := Go.Op.load 24 (Go.Operand.tmp 110), type := 24, pos := "ref.go:193", after := #[{ on := 0, ground := Go.Ground.data }], guard := none }) rfl (fun K hK => ?_) (AllReadyH.nil)
              go_simp
              try go_wp2_with fail
              refine hK.out _ _ (HCT.out _ BA.out) (fun hHeld2 => ?_)
              clear hK K hHeld
              have hHeld := hHeld2
              clear hHeld2
              try simp only [Act.put, List.setIfInBounds_toArray, List.set_cons_zero, List.set_cons_succ]
              refine wpAnyH_ready (rs := [8]) (by kernel_rfl) (by simp) ?_
              refine AllReadyH.cons (o := { dst := some 118, op := Go.Op.call { callee := Go.Callee.builtin Go.Builtin.append, args := #[Go.Operand.tmp 111, Go.Operand.tmp 117], argTypes := #[24, 24] }, type := 24, pos := "ref.go:193", after := #[{ on := 1, ground := Go.Ground.data }, { on := 7, ground := Go.Ground.data }], guard := none }) rfl (fun K hK => ?_) (AllReadyH.nil)
              rw [if_pos (by rfl)]
              obtain ⟨i9, z9, h92, h93, h94, h95, h96⟩ := infoTimer
              refine wp_append_lies Y1w (.tmp 111) (.tmp 117) 24 rfl wc.heap.size 61 i9 z9 2 16 Tryz.underlying24 h92 h93 h94 h95 h96 (by decide) (.slice (some ⟨g7, 0, none⟩) (acc.length + 1) c7) acc2.length (acc2.flatMap Tm.cells) rfl HMA.out.tab.t ⟨ya, 0, none⟩ 1 1 y.cells rfl rfl (fun i u hu => by rw [add_lit', Nat.zero_add]; exact NA.out.cell i u hu) (fun u hu => tm_one [y] u (by simpa using hu)) (by decide) (by have := LO.out; unfold maxLen; omega) (by have := LO.out; omega) BA.out.size _ rfl ?_
              intro g8 c8 w8 ho8 hg8 hat8 hlt8
              have hat9 : (Value.slice (some ⟨g8, 0, none⟩) (acc2.length + 1) c8).ownBlock = (Value.slice (some ⟨g7, 0, none⟩) (acc.length + 1) c7).ownBlock ∨ (Value.slice (some ⟨g8, 0, none⟩) (acc2.length + 1) c8).ownBlock = some Y1w.heap.size := hat8.elim (fun e => .inl e.symm) (fun e => .inr (congrArg some e))
              have ho9 : TOwn w8 wc.heap.size (.slice (some ⟨g8, 0, none⟩) (acc2.length + 1) c8) (acc2 ++ [y]) := by
                unfold TOwn
                rw [List.length_append, List.flatMap_append]
                simpa using ho8
              have HR := hide (HMA.out.times hg8 ho9 hat9)
              have FX9 : Hid ((Value.slice (some ⟨g8, 0, none⟩) (acc2.length + 1) c8).ownBlock ≠ some xb) := by
                rcases hat9 with e | e
                · rw [e]; exact HFX.out
                · rw [e]
                  intro e'
                  have := Option.some.inj e'
                  have := XZA.out
                  omega
              have XB9 := hide ((XBA.out.grown XZA.out hg8 (fun e => HFX.out e.symm)).far (g' := mb) (k := 2) (u := .slice (some ⟨g8, 0, none⟩) (acc2.length + 1) c8) XNE.out)
              have XZ9 : Hid (xb < (w8.setCell ⟨mb, 2, none⟩ (.slice (some ⟨g8, 0, none⟩) (acc2.length + 1) c8)).heap.size) := by
                have h1 := XZA.out
                have h2 := hg8.size
                unfold Hid
                simp [World.setCell]
                omega
              have GB := HMA.out.bl.grown HMA.out.lt hg8 (fun e => HMA.out.f3 e.symm)
              have s2 := GB.cell 2 _ rfl
              have sf := GB.free 2
              have B8 := hide (BA.out.grown hg8 BA.out.size (fun i e => (HMA.out.tab.t.lt i e).1))
              have B9 := hide (BA.out.trans HR.out.2)
              clear ho8 hat8 hat9 ho9 GB hg8 hlt8 h92 h93 h94 h95 h96
              refine hK.out _ _ (HCT.out _ B8.out) (fun hHeld2 => ?_)
              clear hK K hHeld
              have hHeld := hHeld2
              clear hHeld2
              try simp only [Act.put, List.setIfInBounds_toArray, List.set_cons_zero, List.set_cons_succ]
              refine wpAnyH_take (i := 9) (oi := { dst := some 119, op := Go.Op.fieldAddr 26 (Go.Operand.tmp 12) 2, type := 0, pos := "ref.go:193", after := #[{ on := 0, ground := Go.Ground.phase }, { on := 1, ground := Go.Ground.phase }, { on := 2, ground := Go.Ground.phase }, { on := 3, ground := Go.Ground.phase }, { on := 4, ground := Go.Ground.phase }, { on := 5, ground := Go.Ground.phase }, { on := 6, ground := Go.Ground.phase }, { on := 7, ground := Go.Ground.phase }, { on := 8, ground := Go.Ground.phase }], guard := none }) (v := ?_) rfl (by kernel_rfl) (by kernel_rfl) (by kernel_rfl) (fun _ _ _ h => h) (Or.inl ⟨by rfl, ?_⟩) (by assumption) ?_
              rotate_left
              · intro w hSw
                try dsimp only at hSw
                go_simp
                try with_reducible rfl
              simp only [Act.put, List.setIfInBounds_toArray, List.set_cons_zero, List.set_cons_succ]
              refine wpAnyH_ready (rs := [10]) (by kernel_rfl) (by simp) ?_
              refine AllReadyH.cons (o := { dst := none, op := Go.Op.store 24 (Go.Operand.tmp 119) (Go.Operand.tmp 118), type := 0, pos := "ref.go:193", after := #[{ on := 9, ground := Go.Ground.data }, { on := 8, ground := Go.Ground.data }, { on := 8, ground := Go.Ground.chain }, { on := 0, ground := Go.Ground.phase }, { on := 1, ground := Go.Ground.phase }, { on := 2, ground := Go.Ground.phase }, { on := 3, ground := Go.Ground.phase }, { on := 4, ground := Go.Ground.phase }, { on := 5, ground := Go.Ground.phase }, { on := 6, ground := Go.Ground.phase }, { on := 7, ground := Go.Ground.phase }, { on := 8, ground := Go.Ground.phase }], guard := none }) rfl (fun K hK => ?_) (AllReadyH.nil)
              go_simp
              try go_wp2_with fail
              refine hK.out _ _ (HCT.out _ B9.out) (fun hHeld2 => ?_)
              clear hK K hHeld
              have hHeld := hHeld2
              clear hHeld2
              try simp only [Act.put, List.setIfInBounds_toArray, List.set_cons_zero, List.set_cons_succ]
              have M9 := hide HR.out.1
              clear HR s2 sf
              generalize w8.setCell ⟨mb, 2, none⟩ (.slice (some ⟨g8, 0, none⟩) (acc2.length + 1) c8) = W9 at *
              refine wpAnyH_done (by kernel_rfl) ?_ _
              go_wp2
              go_roundw
              case rel => exact ⟨j + 1, true, _, _, _, _, by omega, rfl, by go_num, M9.out, (by unfold Hid; rw [HA2.out]; exact hI.out.yes HY.out hlt9 HO2.out), FX9.out, XB9.out, XZ9.out, B9.out⟩
              case measure => simp [intOf]; omega

        · skip
          go_upto_region 19 with fail
          clear b2
          go_quiet (fail)
          have HMX := hide (hM.out.below (drewN_below (Below.refl _ _) nq))
          have XBC := hide (hX.out.below hXZ.out (drewN_below (Below.refl _ _) nq))
          have YC := hide (drewN_below hb.out nq)
          have XZC : Hid (xb < (wr.drewN nq).heap.size) := hXZ.out
          go_upto_region 22 with fail
          generalize wr.drewN nq = wa at *
          clear hM hX hXZ hb
          have C0 : Hid (Below wc.heap.size wc wa.drew) := YC.out.drew
          have HM0 := hide (HMX.out.below (Below.refl _ _).drew)
          have XB0 := hide (XBC.out.below XZC.out (Below.refl _ _).drew)
          have XZ0 : Hid (xb < wa.drew.heap.size) := XZC.out
          refine wp_region_held_drew (S := fun wz => wz.cell? ⟨w.heap.size, 2, none⟩ = some (.slice (some ⟨b, off, none⟩) tn tc) ∧ wz.cell? ⟨b, off + j * 2, none⟩ = some (.int .i64 y.proc) ∧ wz.cell? ⟨b, off + j * 2 + 1, none⟩ = some (.int .i64 y.due)) (by kernel_rfl) (HCT.out _ C0.out) (fun hHeld => ?_)
          generalize wa.drew = Y0w at *
          refine wpAnyH_take (i := 0) (oi := { dst := some 110, op := Go.Op.fieldAddr 26 (Go.Operand.tmp 12) 2, type := 0, pos := "ref.go:193", after := #[], guard := none }) (v := ?_) rfl (by kernel_rfl) (by kernel_rfl) (by kernel_rfl) (fun _ _ _ h => h) (Or.inl ⟨by rfl, ?_⟩) (by assumption) ?_
          rotate_left
          · intro w hSw
            try dsimp only at hSw
            go_simp
            try with_reducible rfl
          simp only [Act.put, List.setIfInBounds_toArray, List.set_cons_zero, List.set_cons_succ]
          refine wpAnyH_take (i := 2) (oi := { dst := some 112, op := Go.Op.fieldAddr 26 (Go.Operand.tmp 5) 2, type := 0, pos := "ref.go:193", after := #[], guard := none }) (v := ?_) rfl (by kernel_rfl) (by kernel_rfl) (by kernel_rfl) (fun _ _ _ h => h) (Or.inl ⟨by rfl, ?_⟩) (by assumption) ?_
          rotate_left
          · intro w hSw
            try dsimp only at hSw
            go_simp
            try with_reducible rfl
          simp only [Act.put, List.setIfInBounds_toArray, List.set_cons_zero, List.set_cons_succ]
          refine wpAnyH_take (i := 3) (oi := { dst := some 113, op := Go.Op.load 24 (Go.Operand.tmp 112), type := 24, pos := "ref.go:193", after := #[{ on := 2, ground := Go.Ground.data }], guard := none }) (v := ?_) rfl (by kernel_rfl) (by kernel_rfl) (by kernel_rfl) (fun _ _ _ h => h) (Or.inl ⟨by rfl, ?_⟩) (by assumption) ?_
          rotate_left
          · intro w hSw
            try dsimp only at hSw
            go_simp
            try with_reducible rfl
          simp only [Act.put, List.setIfInBounds_toArray, List.set_cons_zero, List.set_cons_succ]
          refine wpAnyH_take (i := 4) (oi := { dst := some 114, op := Go.Op.move (Go.Operand.tmp 15), type := 3, pos := "ref.go:193", after := #[], guard := none }) (v := ?_) rfl (by kernel_rfl) (by kernel_rfl) (by kernel_rfl) (fun _ _ _ h => h) (Or.inl ⟨by rfl, ?_⟩) (by assumption) ?_
          rotate_left
          · intro w hSw
            try dsimp only at hSw
            go_simp
            try with_reducible rfl
          simp only [Act.put, List.setIfInBounds_toArray, List.set_cons_zero, List.set_cons_succ]
          refine wpAnyH_take (i := 5) (oi := { dst := some 115, op := Go.Op.indexAddr 24 (Go.Operand.tmp 113) (Go.Operand.tmp 114), type := 0, pos := "ref.go:193", after := #[{ on := 3, ground := Go.Ground.data }, { on := 4, ground := Go.Ground.data }], guard := none }) (v := ?_) rfl (by kernel_rfl) (by kernel_rfl) (by kernel_rfl) (fun _ _ _ h => h) (Or.inl ⟨by rfl, ?_⟩) (by assumption) ?_
          rotate_left
          · intro w hSw
            try dsimp only at hSw
            go_simp
            try with_reducible rfl
          simp only [Act.put, List.setIfInBounds_toArray, List.set_cons_zero, List.set_cons_succ]
          refine wpAnyH_take (i := 6) (oi := { dst := some 116, op := Go.Op.load 61 (Go.Operand.tmp 115), type := 61, pos := "ref.go:193", after := #[{ on := 5, ground := Go.Ground.data }], guard := none }) (v := ?_) rfl (by kernel_rfl) (by kernel_rfl) (by kernel_rfl) (fun _ _ _ h => h) (Or.inl ⟨by rfl, ?_⟩) (by assumption) ?_
          rotate_left
          · intro w hSw
            try dsimp only at hSw
            go_simp
            try with_reducible rfl
          simp only [Act.put, List.setIfInBounds_toArray, List.set_cons_zero, List.set_cons_succ]
          have m2 := HM0.out.bl.cell 2 _ rfl
          refine wpAnyH_ready (rs := [1, 7]) (by kernel_rfl) (by simp) ?_
          refine AllReadyH.cons (o := { dst := some 111, op := Go.Op.load 24 (Go.Operand.tmp 110), type := 24, pos := "ref.go:193", after := #[{ on := 0, ground := Go.Ground.data }], guard := none }) rfl (fun K hK => ?_) (AllReadyH.cons (o := { dst := some 117, op := Go.Op.buildSlice 24 1 #[(0, Go.Operand.tmp 116)], type := 24, pos := "ref.go:193", after := #[{ on := 6, ground := Go.Ground.data }], guard := none }) rfl (fun K hK => ?_) AllReadyH.nil)
          · go_simp
            try go_wp2_with fail
            refine hK.out _ _ (HCT.out _ C0.out) (fun hHeld2 => ?_)
            clear hK K hHeld
            have hHeld := hHeld2
            clear hHeld2
            try simp only [Act.put, List.setIfInBounds_toArray, List.set_cons_zero, List.set_cons_succ]
            refine wpAnyH_ready (rs := [7]) (by kernel_rfl) (by simp) ?_
            refine AllReadyH.cons (o := { dst := some 117, op := Go.Op.buildSlice 24 1 #[(0, Go.Operand.tmp 116)], type := 24, pos := "ref.go:193", after := #[{ on := 6, ground := Go.Ground.data }], guard := none }) rfl (fun K hK => ?_) (AllReadyH.nil)
            have XA := new_below Y0w (.cells #[.int .i64 y.proc, .int .i64 y.due] 61)
            have HMA := hide (HM0.out.below XA)
            have XBA := hide (XB0.out.below XZ0.out XA)
            have XZA : Hid (xb < (Y0w.alloc (.cells #[.int .i64 y.proc, .int .i64 y.due] 61)).heap.size) := Nat.lt_of_lt_of_le XZ0.out XA.size
            have BA := hide (C0.out.trans (XA.mono C0.out.size))
            have NA := hide (bl_alloc Y0w #[.int .i64 y.proc, .int .i64 y.due] 61)
            have ma2 := HMA.out.bl.cell 2 _ rfl
            clear XA
            go_simp
            try go_wp2_with fail
            refine hK.out _ _ (HCT.out _ BA.out) (fun hHeld2 => ?_)
            clear hK K hHeld
            have hHeld := hHeld2
            clear hHeld2
            try simp only [Act.put, List.setIfInBounds_toArray, List.set_cons_zero, List.set_cons_succ]
            generalize Y0w.alloc (.cells #[.int .i64 y.proc, .int .i64 y.due] 61) = Y1w at *
            generalize Y0w.heap.size = ya at *
            refine wpAnyH_ready (rs := [8]) (by kernel_rfl) (by simp) ?_
            refine AllReadyH.cons (o := { dst := some 118, op := Go.Op.call { callee := Go.Callee.builtin Go.Builtin.append, args := #[Go.Operand.tmp 111, Go.Operand.tmp 117], argTypes := #[24, 24] }, type := 24, pos := "ref.go:193", after := #[{ on := 1, ground := Go.Ground.data }, { on := 7, ground := Go.Ground.data }], guard := none }) rfl (fun K hK => ?_) (AllReadyH.nil)
            rw [if_pos (by rfl)]
            obtain ⟨i9, z9, h92, h93, h94, h95, h96⟩ := infoTimer
            refine wp_append_lies Y1w (.tmp 111) (.tmp 117) 24 rfl wc.heap.size 61 i9 z9 2 16 Tryz.underlying24 h92 h93 h94 h95 h96 (by decide) (.slice a n c) acc.length (acc.flatMap Tm.cells) rfl HMA.out.tab.t ⟨ya, 0, none⟩ 1 1 y.cells rfl rfl (fun i u hu => by rw [add_lit', Nat.zero_add]; exact NA.out.cell i u hu) (fun u hu => tm_one [y] u (by simpa using hu)) (by decide) (by have := LO.out; unfold maxLen; omega) (by have := LO.out; omega) BA.out.size _ rfl ?_
            intro g8 c8 w8 ho8 hg8 hat8 hlt8
            have hat9 : (Value.slice (some ⟨g8, 0, none⟩) (acc.length + 1) c8).ownBlock = (Value.slice a n c).ownBlock ∨ (Value.slice (some ⟨g8, 0, none⟩) (acc.length + 1) c8).ownBlock = some Y1w.heap.size := hat8.elim (fun e => .inl e.symm) (fun e => .inr (congrArg some e))
            have ho9 : TOwn w8 wc.heap.size (.slice (some ⟨g8, 0, none⟩) (acc.length + 1) c8) (acc ++ [y]) := by
              unfold TOwn
              rw [List.length_append, List.flatMap_append]
              simpa using ho8
            have HR := hide (HMA.out.times hg8 ho9 hat9)
            have FX9 : Hid ((Value.slice (some ⟨g8, 0, none⟩) (acc.length + 1) c8).ownBlock ≠ some xb) := by
              rcases hat9 with e | e
              · rw [e]; exact HFX.out
              · rw [e]
                intro e'
                have := Option.some.inj e'
                have := XZA.out
                omega
            have XB9 := hide ((XBA.out.grown XZA.out hg8 (fun e => HFX.out e.symm)).far (g' := mb) (k := 2) (u := .slice (some ⟨g8, 0, none⟩) (acc.length + 1) c8) XNE.out)
            have XZ9 : Hid (xb < (w8.setCell ⟨mb, 2, none⟩ (.slice (some ⟨g8, 0, none⟩) (acc.length + 1) c8)).heap.size) := by
              have h1 := XZA.out
              have h2 := hg8.size
              unfold Hid
              simp [World.setCell]
              omega
            have GB := HMA.out.bl.grown HMA.out.lt hg8 (fun e => HMA.out.f3 e.symm)
            have s2 := GB.cell 2 _ rfl
            have sf := GB.free 2
            have B8 := hide (BA.out.grown hg8 BA.out.size (fun i e => (HMA.out.tab.t.lt i e).1))
            have B9 := hide (BA.out.trans HR.out.2)
            clear ho8 hat8 hat9 ho9 GB hg8 hlt8 h92 h93 h94 h95 h96
            refine hK.out _ _ (HCT.out _ B8.out) (fun hHeld2 => ?_)
            clear hK K hHeld
            have hHeld := hHeld2
            clear hHeld2
            try simp only [Act.put, List.setIfInBounds_toArray, List.set_cons_zero, List.set_cons_succ]
            refine wpAnyH_take (i := 9) (oi := { dst := some 119, op := Go.Op.fieldAddr 26 (Go.Operand.tmp 12) 2, type := 0, pos := "ref.go:193", after := #[{ on := 0, ground := Go.Ground.phase }, { on := 1, ground := Go.Ground.phase }, { on := 2, ground := Go.Ground.phase }, { on := 3, ground := Go.Ground.phase }, { on := 4, ground := Go.Ground.phase }, { on := 5, ground := Go.Ground.phase }, { on := 6, ground := Go.Ground.phase }, { on := 7, ground := Go.Ground.phase }, { on := 8, ground := Go.Ground.phase }], guard := none }) (v := ?_) rfl (by kernel_rfl) (by kernel_rfl) (by kernel_rfl) (fun _ _ _ h => h) (Or.inl ⟨by rfl, ?_⟩) (by assumption) ?_
            rotate_left
            · intro w hSw
              try dsimp only at hSw
              go_simp
              try with_reducible rfl
            simp only [Act.put, List.setIfInBounds_toArray, List.set_cons_zero, List.set_cons_succ]
            refine wpAnyH_ready (rs := [10]) (by kernel_rfl) (by simp) ?_
            refine AllReadyH.cons (o := { dst := none, op := Go.Op.store 24 (Go.Operand.tmp 119) (Go.Operand.tmp 118), type := 0, pos := "ref.go:193", after := #[{ on := 9, ground := Go.Ground.data }, { on := 8, ground := Go.Ground.data }, { on := 8, ground := Go.Ground.chain }, { on := 0, ground := Go.Ground.phase }, { on := 1, ground := Go.Ground.phase }, { on := 2, ground := Go.Ground.phase }, { on := 3, ground := Go.Ground.phase }, { on := 4, ground := Go.Ground.phase }, { on := 5, ground := Go.Ground.phase }, { on := 6, ground := Go.Ground.phase }, { on := 7, ground := Go.Ground.phase }, { on := 8, ground := Go.Ground.phase }], guard := none }) rfl (fun K hK => ?_) (AllReadyH.nil)
            go_simp
            try go_wp2_with fail
            refine hK.out _ _ (HCT.out _ B9.out) (fun hHeld2 => ?_)
            clear hK K hHeld
            have hHeld := hHeld2
            clear hHeld2
            try simp only [Act.put, List.setIfInBounds_toArray, List.set_cons_zero, List.set_cons_succ]
            have M9 := hide HR.out.1
            clear HR s2 sf
            generalize w8.setCell ⟨mb, 2, none⟩ (.slice (some ⟨g8, 0, none⟩) (acc.length + 1) c8) = W9 at *
            refine wpAnyH_done (by kernel_rfl) ?_ _
            go_wp2
            go_roundw
            case rel => exact ⟨j + 1, true, _, _, _, _, by omega, rfl, by go_num, M9.out, hI.out.more HY.out, FX9.out, XB9.out, XZ9.out, B9.out⟩
            case measure => simp [intOf]; omega
          · have XA := new_below Y0w (.cells #[.int .i64 y.proc, .int .i64 y.due] 61)
            have HMA := hide (HM0.out.below XA)
            have XBA := hide (XB0.out.below XZ0.out XA)
            have XZA : Hid (xb < (Y0w.alloc (.cells #[.int .i64 y.proc, .int .i64 y.due] 61)).heap.size) := Nat.lt_of_lt_of_le XZ0.out XA.size
            have BA := hide (C0.out.trans (XA.mono C0.out.size))
            have NA := hide (bl_alloc Y0w #[.int .i64 y.proc, .int .i64 y.due] 61)
            have ma2 := HMA.out.bl.cell 2 _ rfl
            clear XA
            go_simp
            try go_wp2_with fail
            refine hK.out _ _ (HCT.out _ BA.out) (fun hHeld2 => ?_)
            clear hK K hHeld
            have hHeld := hHeld2
            clear hHeld2
            try simp only [Act.put, List.setIfInBounds_toArray, List.set_cons_zero, List.set_cons_succ]
            generalize Y0w.alloc (.cells #[.int .i64 y.proc, .int .i64 y.due] 61) = Y1w at *
            generalize Y0w.heap.size = ya at *
            refine wpAnyH_ready (rs := [1]) (by kernel_rfl) (by simp) ?_
            refine AllReadyH.cons (o := { dst := some 111, op := Go.Op.load 24 (Go.Operand.tmp 110), type := 24, pos := "ref.go:193", after := #[{ on := 0, ground := Go.Ground.data }], guard := none }) rfl (fun K hK => ?_) (AllReadyH.nil)
            go_simp
            try go_wp2_with fail
            refine hK.out _ _ (HCT.out _ BA.out) (fun hHeld2 => ?_)
            clear hK K hHeld
            have hHeld := hHeld2
            clear hHeld2
            try simp only [Act.put, List.setIfInBounds_toArray, List.set_cons_zero, List.set_cons_succ]
            refine wpAnyH_ready (rs := [8]) (by kernel_rfl) (by simp) ?_
            refine AllReadyH.cons (o := { dst := some 118, op := Go.Op.call { callee := Go.Callee.builtin Go.Builtin.append, args := #[Go.Operand.tmp 111, Go.Operand.tmp 117], argTypes := #[24, 24] }, type := 24, pos := "ref.go:193", after := #[{ on := 1, ground := Go.Ground.data }, { on := 7, ground := Go.Ground.data }], guard := none }) rfl (fun K hK => ?_) (AllReadyH.nil)
            rw [if_pos (by rfl)]
            obtain ⟨i9, z9, h92, h93, h94, h95, h96⟩ := infoTimer
            refine wp_append_lies Y1w (.tmp 111) (.tmp 117) 24 rfl wc.heap.size 61 i9 z9 2 16 Tryz.underlying24 h92 h93 h94 h95 h96 (by decide) (.slice a n c) acc.length (acc.flatMap Tm.cells) rfl HMA.out.tab.t ⟨ya, 0, none⟩ 1 1 y.cells rfl rfl (fun i u hu => by rw [add_lit', Nat.zero_add]; exact NA.out.cell i u hu) (fun u hu => tm_one [y] u (by simpa using hu)) (by decide) (by have := LO.out; unfold maxLen; omega) (by have := LO.out; omega) BA.out.size _ rfl ?_
            intro g8 c8 w8 ho8 hg8 hat8 hlt8
            have hat9 : (Value.slice (some ⟨g8, 0, none⟩) (acc.length + 1) c8).ownBlock = (Value.slice a n c).ownBlock ∨ (Value.slice (some ⟨g8, 0, none⟩) (acc.length + 1) c8).ownBlock = some Y1w.heap.size := hat8.elim (fun e => .inl e.symm) (fun e => .inr (congrArg some e))
            have ho9 : TOwn w8 wc.heap.size (.slice (some ⟨g8, 0, none⟩) (acc.length + 1) c8) (acc ++ [y]) := by
              unfold TOwn
              rw [List.length_append, List.flatMap_append]
              simpa using ho8
            have HR := hide (HMA.out.times hg8 ho9 hat9)
            have FX9 : Hid ((Value.slice (some ⟨g8, 0, none⟩) (acc.length + 1) c8).ownBlock ≠ some xb) := by
              rcases hat9 with e | e
              · rw [e]; exact HFX.out
              · rw [e]
                intro e'
                have := Option.some.inj e'
                have := XZA.out
                omega
            have XB9 := hide ((XBA.out.grown XZA.out hg8 (fun e => HFX.out e.symm)).far (g' := mb) (k := 2) (u := .slice (some ⟨g8, 0, none⟩) (acc.length + 1) c8) XNE.out)
            have XZ9 : Hid (xb < (w8.setCell ⟨mb, 2, none⟩ (.slice (some ⟨g8, 0, none⟩) (acc.length + 1) c8)).heap.size) := by
              have h1 := XZA.out
              have h2 := hg8.size
              unfold Hid
              simp [World.setCell]
              omega
            have GB := HMA.out.bl.grown HMA.out.lt hg8 (fun e => HMA.out.f3 e.symm)
            have s2 := GB.cell 2 _ rfl
            have sf := GB.free 2
            have B8 := hide (BA.out.grown hg8 BA.out.size (fun i e => (HMA.out.tab.t.lt i e).1))
            have B9 := hide (BA.out.trans HR.out.2)
            clear ho8 hat8 hat9 ho9 GB hg8 hlt8 h92 h93 h94 h95 h96
            refine hK.out _ _ (HCT.out _ B8.out) (fun hHeld2 => ?_)
            clear hK K hHeld
            have hHeld := hHeld2
            clear hHeld2
            try simp only [Act.put, List.setIfInBounds_toArray, List.set_cons_zero, List.set_cons_succ]
            refine wpAnyH_take (i := 9) (oi := { dst := some 119, op := Go.Op.fieldAddr 26 (Go.Operand.tmp 12) 2, type := 0, pos := "ref.go:193", after := #[{ on := 0, ground := Go.Ground.phase }, { on := 1, ground := Go.Ground.phase }, { on := 2, ground := Go.Ground.phase }, { on := 3, ground := Go.Ground.phase }, { on := 4, ground := Go.Ground.phase }, { on := 5, ground := Go.Ground.phase }, { on := 6, ground := Go.Ground.phase }, { on := 7, ground := Go.Ground.phase }, { on := 8, ground := Go.Ground.phase }], guard := none }) (v := ?_) rfl (by kernel_rfl) (by kernel_rfl) (by kernel_rfl) (fun _ _ _ h => h) (Or.inl ⟨by rfl, ?_⟩) (by assumption) ?_
            rotate_left
            · intro w hSw
              try dsimp only at hSw
              go_simp
              try with_reducible rfl
            simp only [Act.put, List.setIfInBounds_toArray, List.set_cons_zero, List.set_cons_succ]
            refine wpAnyH_ready (rs := [10]) (by kernel_rfl) (by simp) ?_
            refine AllReadyH.cons (o := { dst := none, op := Go.Op.store 24 (Go.Operand.tmp 119) (Go.Operand.tmp 118), type := 0, pos := "ref.go:193", after := #[{ on := 9, ground := Go.Ground.data }, { on := 8, ground := Go.Ground.data }, { on := 8, ground := Go.Ground.chain }, { on := 0, ground := Go.Ground.phase }, { on := 1, ground := Go.Ground.phase }, { on := 2, ground := Go.Ground.phase }, { on := 3, ground := Go.Ground.phase }, { on := 4, ground := Go.Ground.phase }, { on := 5, ground := Go.Ground.phase }, { on := 6, ground := Go.Ground.phase }, { on := 7, ground := Go.Ground.phase }, { on := 8, ground := Go.Ground.phase }], guard := none }) rfl (fun K hK => ?_) (AllReadyH.nil)
            go_simp
            try go_wp2_with fail
            refine hK.out _ _ (HCT.out _ B9.out) (fun hHeld2 => ?_)
            clear hK K hHeld
            have hHeld := hHeld2
            clear hHeld2
            try simp only [Act.put, List.setIfInBounds_toArray, List.set_cons_zero, List.set_cons_succ]
            have M9 := hide HR.out.1
            clear HR s2 sf
            generalize w8.setCell ⟨mb, 2, none⟩ (.slice (some ⟨g8, 0, none⟩) (acc.length + 1) c8) = W9 at *
            refine wpAnyH_done (by kernel_rfl) ?_ _
            go_wp2
            go_roundw
            case rel => exact ⟨j + 1, true, _, _, _, _, by omega, rfl, by go_num, M9.out, hI.out.more HY.out, FX9.out, XB9.out, XZ9.out, B9.out⟩
            case measure => simp [intOf]; omega

      · obtain rfl : tn = j := by omega

        have HTK : Hid (t.take tn = t ∧ t.drop tn = []) := by unfold Hid; rw [← HLT.out]; exact ⟨List.take_length, List.drop_length⟩
        cases dn
        · have HFIN := hide (hI.out.last HLT.out HGD.out.2.2.2.1.2.2)
          have HMX := hide hM.out
          have Y7 := hide hb.out
          go_upto_region 24 with fail
          clear b2
          have HXM := hide infoTimer
          have x0 := hX.out.cell 0 _ rfl
          have x1 := hX.out.cell 1 _ rfl
          have c2 := HMX.out.bl.cell 2 _ rfl
          have X4 := new_below wr (.cells #[.int .i64 (k : Int), .int .i64 du] 61)
          have HMA := hide (HMX.out.below X4)
          have XBA := hide (hX.out.below hXZ.out X4)
          have XZA : Hid (xb < (wr.alloc (.cells #[.int .i64 (k : Int), .int .i64 du] 61)).heap.size) := Nat.lt_of_lt_of_le hXZ.out X4.size
          have YA := hide (Y7.out.trans (X4.mono Y7.out.size))
          clear X4
          go_upto_region 25 with (at_builtin; refine append_rec rfl (.tmp 123) (.tmp 125) 24 61 rfl Tryz.underlying24 HXM.out (by decide) wc.heap.size _ _ _ rfl HMA.out.tab.t wr.heap.size 1 [.int .i64 (k : Int), .int .i64 du] rfl rfl (fun i u hu => by rw [World.cell?_alloc_at _ _ _ _ (by simp)]; simpa using hu) (fun u hu => tm_one [⟨(k : Int), du⟩] u (by simpa [Tm.cells] using hu)) (by have := LO.out; unfold maxLen; omega) (by have := LO.out; omega) YA.out.size ?_; intro g7 c7 w7 ho7 hg7 hat7 hlt7; have G7 := hide hg7; have A7 := hide hat7; have O7 := hide ho7; have GB := HMA.out.bl.grown HMA.out.lt hg7 (fun e => HMA.out.f3 e.symm); have g2 := GB.cell 2 _ rfl; have f2 := GB.free 2; clear hg7 hat7 ho7 GB)
          clear x0 x1 c2 g2 f2
          have hg7 : (wr.alloc (.cells #[.int .i64 (k : Int), .int .i64 du] 61)).grownBy w7 (Value.slice a n c).ownBlock := G7.out
          have hat9 : (Value.slice (some ⟨g7, 0, none⟩) (acc.length + 1) c7).ownBlock = (Value.slice a n c).ownBlock ∨ (Value.slice (some ⟨g7, 0, none⟩) (acc.length + 1) c7).ownBlock = some (wr.alloc (.cells #[.int .i64 (k : Int), .int .i64 du] 61)).heap.size := A7.out.elim (fun e => .inl e.symm) (fun e => .inr (congrArg some e))
          have ho9 : TOwn w7 wc.heap.size (.slice (some ⟨g7, 0, none⟩) (acc.length + 1) c7) (acc ++ [⟨(k : Int), du⟩]) := by
            unfold TOwn
            rw [List.length_append, List.flatMap_append]
            simpa [Tm.cells] using O7.out
          have HR := hide (HMA.out.times hg7 ho9 hat9)
          have FXX : Hid ((Value.slice (some ⟨g7, 0, none⟩) (acc.length + 1) c7).ownBlock ≠ some xb) := by
            rcases hat9 with e | e
            · rw [e]; exact HFX.out
            · rw [e]
              intro e'
              have := Option.some.inj e'
              have := XZA.out
              omega
          have XBN := hide ((XBA.out.grown XZA.out hg7 (fun e => HFX.out e.symm)).far (g' := mb) (k := 2) (u := .slice (some ⟨g7, 0, none⟩) (acc.length + 1) c7) XNE.out)
          have XZN : Hid (xb < (w7.setCell ⟨mb, 2, none⟩ (.slice (some ⟨g7, 0, none⟩) (acc.length + 1) c7)).heap.size) := by
            have h1 := XZA.out
            have h2 := hg7.size
            unfold Hid
            simp [World.setCell]
            omega
          have YN := hide (YA.out.trans HR.out.2)
          have MN := hide HR.out.1
          clear HR hg7 hat9 ho9 G7 A7 O7 HMA XBA XZA YA hlt7
          generalize w7.setCell ⟨mb, 2, none⟩ (.slice (some ⟨g7, 0, none⟩) (acc.length + 1) c7) = WN at *
          have M8 := hide MN.out
          have Y8 := hide YN.out
          generalize WN = V8 at *
          rw [HFIN.out] at M8
          have BGF := hide (BG.out.below hl3.out Y8.out)
          have BW := hide (B1.out.trans (Y8.out.mono B1.out.size))
          have T1 := hide ((M8.out.tab.three (g := w.heap.size + 1) hl3.out (.slice (some ⟨g, 0, none⟩) l.length c1) (.slice oa (outOf r (k : Int)).length oc) (.slice (some ⟨g7, 0, none⟩) (acc.length + 1) c7)).weaken B1.out.size)
          have m0 := M8.out.bl.cell 0 _ rfl
          have m1 := M8.out.bl.cell 1 _ rfl
          have m2 := M8.out.bl.cell 2 _ rfl
          have G1 := hide (bl_three BGF.out (.slice (some ⟨g, 0, none⟩) l.length c1) (.slice oa (outOf r (k : Int)).length oc) (.slice (some ⟨g7, 0, none⟩) (acc.length + 1) c7))
          have BF := hide (below3 (g := w.heap.size + 1) (.slice (some ⟨g, 0, none⟩) l.length c1) (.slice oa (outOf r (k : Int)).length oc) (.slice (some ⟨g7, 0, none⟩) (acc.length + 1) c7) BW.out (by omega))
          have g0 := BGF.out.cell 0 _ rfl
          have g1 := BGF.out.cell 1 _ rfl
          have g2 := BGF.out.cell 2 _ rfl
          have f0 := BGF.out.free 0
          have f1 := BGF.out.free 1
          have f2 := BGF.out.free 2
          go_wp2
          generalize (((V8.setCell ⟨w.heap.size + 1, 0, none⟩ (.slice (some ⟨g, 0, none⟩) l.length c1)).setCell ⟨w.heap.size + 1, 1, none⟩ (.slice oa (outOf r (k : Int)).length oc)).setCell ⟨w.heap.size + 1, 2, none⟩ (.slice (some ⟨g7, 0, none⟩) (acc.length + 1) c7)) = W9 at *
          have e0 := G1.out.cell 0 _ rfl
          have e1 := G1.out.cell 1 _ rfl
          have e2 := G1.out.cell 2 _ rfl
          (try simp only [Exit.inBlock, Exit.then])
          refine bodyPost_ret (v := .tuple #[.agg #[.slice (some ⟨g, 0, none⟩) l.length c1, .slice oa (outOf r (k : Int)).length oc, .slice (some ⟨g7, 0, none⟩) (acc.length + 1) c7], .int .i64 0]) (by simp [results, Tryz.results6, go_sem, e0, e1, e2]) rfl ?_
          exact ⟨_, _, _, _, _, _, _, _, _, by rw [HO.out.1]; rfl, by rw [HO.out.2.1, HO.out.2.2.1, HO.out.2.2.2, setAt_of HKQ.out, HBL.out]; exact T1.out, BF.out⟩
        · have HFIN := hide (hI.out.full HLT.out)
          have M8 := hide hM.out
          rw [HFIN.out] at M8
          have Y8 := hide hb.out
          clear b2
          obtain ⟨V8, hv8⟩ : ∃ x, x = wr := ⟨_, rfl⟩
          subst hv8
          have BXX := hide (BX.out.below (Nat.lt_of_succ_lt hl3.out) Y8.out)
          have b2 := BXX.out.cell 2 _ rfl
          have BGF := hide (BG.out.below hl3.out Y8.out)
          have BW := hide (B1.out.trans (Y8.out.mono B1.out.size))
          have T1 := hide ((M8.out.tab.three (g := w.heap.size + 1) hl3.out (.slice (some ⟨g, 0, none⟩) l.length c1) (.slice oa (outOf r (k : Int)).length oc) (.slice a n c)).weaken B1.out.size)
          have m0 := M8.out.bl.cell 0 _ rfl
          have m1 := M8.out.bl.cell 1 _ rfl
          have m2 := M8.out.bl.cell 2 _ rfl
          have G1 := hide (bl_three BGF.out (.slice (some ⟨g, 0, none⟩) l.length c1) (.slice oa (outOf r (k : Int)).length oc) (.slice a n c))
          have BF := hide (below3 (g := w.heap.size + 1) (.slice (some ⟨g, 0, none⟩) l.length c1) (.slice oa (outOf r (k : Int)).length oc) (.slice a n c) BW.out (by omega))
          have g0 := BGF.out.cell 0 _ rfl
          have g1 := BGF.out.cell 1 _ rfl
          have g2 := BGF.out.cell 2 _ rfl
          have f0 := BGF.out.free 0
          have f1 := BGF.out.free 1
          have f2 := BGF.out.free 2
          go_wp2
          generalize (((V8.setCell ⟨w.heap.size + 1, 0, none⟩ (.slice (some ⟨g, 0, none⟩) l.length c1)).setCell ⟨w.heap.size + 1, 1, none⟩ (.slice oa (outOf r (k : Int)).length oc)).setCell ⟨w.heap.size + 1, 2, none⟩ (.slice a n c)) = W9 at *
          have e0 := G1.out.cell 0 _ rfl
          have e1 := G1.out.cell 1 _ rfl
          have e2 := G1.out.cell 2 _ rfl
          (try simp only [Exit.inBlock, Exit.then])
          refine bodyPost_ret (v := .tuple #[.agg #[.slice (some ⟨g, 0, none⟩) l.length c1, .slice oa (outOf r (k : Int)).length oc, .slice a n c], .int .i64 0]) (by simp [results, Tryz.results6, go_sem, e0, e1, e2]) rfl ?_
          exact ⟨_, _, _, _, _, _, _, _, _, by rw [HO.out.1]; rfl, by rw [HO.out.2.1, HO.out.2.2.1, HO.out.2.2.2, setAt_of HKQ.out, HBL.out]; exact T1.out, BF.out⟩
end Go.Proofs.YtgbckpojoagbnaaGreatDoor
