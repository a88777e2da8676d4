/-
  ready's ownOf and Yield.
-/
import Derived.Test.YtcfkngkenkbkaaaDoorRyMine
namespace Go.Proofs.YtcfkngkenkbkaaaDoor
open Classical
open Go.RowKit
set_option linter.unusedVariables false
set_option linter.unusedSimpArgs false

def stateAt (l : List Pro) (p : Int) : Int := (l[p.toNat]?.map Pro.state).getD (-1)
theorem stateAt_of {l : List Pro} {k : Nat} {q : Pro} (h : l[k]? = some q) : stateAt l (k : Int) = q.state := by
  unfold stateAt
  rw [Int.toNat_natCast, h]
  rfl
/-- Is it a process in one of these states? -/
def OkP (l : List Pro) (p : Int) (st : List Int) : Prop := 0 ≤ p ∧ p < (l.length : Int) ∧ stateAt l p ∈ st
def ofE (g k : Prop) [Decidable g] [Decidable k] : Nat := if g then (if k then 0 else 12) else 9
/-- A struct of three slices that goes into the answer's block: what a world shows behind it. -/
theorem mine_new {w : World} {base : Nat} {v1 v2 v3 : Value} {l : List Pro} {r : List Int} {t : List Tm} (h : Tab w base v1 v2 v3 l r t) (hb : base ≤ w.heap.size) (ty : TypeId) : Mine (w.alloc (.cells #[v1, v2, v3] ty)) base w.heap.size v1 v2 v3 l r t :=
  ⟨bl_alloc w #[v1, v2, v3] ty, h.below (new_below w _), fun e => by have := (h.p.lt _ e).2; omega, fun e => by have := (h.r.lt _ e).2; omega, fun e => by have := (h.t.lt _ e).2; omega, hb, by simp⟩

set_option maxRecDepth 100000 in
set_option maxHeartbeats 4000000 in
theorem ownOf_any {w : World} {E : Nat → Addr} (he : Er9 w E) (pa : Option Addr) (pn pc : Nat) (l : List Pro) (hp : Pros w pa pn pc l) (ra : Option Addr) (rn rc : Nat) (r : List Int) (hr : Is w ra rn rc r) (ta : Option Addr) (tn tc : Nat) (t : List Tm) (ht : Tms w ta tn tc t) (hmp : pn ≤ 9223372036854775807) (hmr : rn ≤ 9223372036854775807) (hmt : tn ≤ 9223372036854775807)
    (p : Int) (sa : Option Addr) (sn sc : Nat) (st : List Int) (hst : Is w sa sn sc st) (hms : sn ≤ 9223372036854775807) :
    Calls Tryd.prog 45 #[.agg #[.slice pa pn pc, .slice ra rn rc, .slice ta tn tc], .int .i64 p, .slice sa sn sc] w fun e w' => ∃ a1 n1 c1 a2 n2 c2 a3 n3 c3 v, e = .returned (.tuple #[.agg #[.slice a1 n1 c1, .slice a2 n2 c2, .slice a3 n3 c3], v]) ∧ Bare E v (ofE (Good l r t) (OkP l p st)) ∧ Tab w' w.heap.size (.slice a1 n1 c1) (.slice a2 n2 c2) (.slice a3 n3 c3) (ownT (Good l r t ∧ OkP l p st) l) (ownT (Good l r t ∧ OkP l p st) r) (ownT (Good l r t ∧ OkP l p st) t) ∧ Below w.heap.size w w' := by
  have X1 := new_below w (.cells #[.slice pa pn pc, .slice ra rn rc, .slice ta tn tc] 29)
  have X2 := new_below (w.alloc (.cells #[.slice pa pn pc, .slice ra rn rc, .slice ta tn tc] 29)) (.cells #[.slice none 0 0, .slice none 0 0, .slice none 0 0] 29)
  have BX0 : Bl (w.alloc (.cells #[.slice pa pn pc, .slice ra rn rc, .slice ta tn tc] 29)) w.heap.size [.slice pa pn pc, .slice ra rn rc, .slice ta tn tc] := bl_alloc w #[.slice pa pn pc, .slice ra rn rc, .slice ta tn tc] 29
  have BX := hide (BX0.below (by simp) X2)
  have BG : Hid (Bl ((w.alloc (.cells #[.slice pa pn pc, .slice ra rn rc, .slice ta tn tc] 29)).alloc (.cells #[.slice none 0 0, .slice none 0 0, .slice none 0 0] 29)) (w.heap.size + 1) [.slice none 0 0, .slice none 0 0, .slice none 0 0]) := by
    have := bl_alloc (w.alloc (.cells #[.slice pa pn pc, .slice ra rn rc, .slice ta tn tc] 29)) #[.slice none 0 0, .slice none 0 0, .slice none 0 0] 29
    rw [show (w.alloc (.cells #[.slice pa pn pc, .slice ra rn rc, .slice ta tn tc] 29)).heap.size = w.heap.size + 1 by simp] at this
    exact this
  have HB0 := hide (chain X1 X2)
  have hz : ((w.alloc (.cells #[.slice pa pn pc, .slice ra rn rc, .slice ta tn tc] 29)).alloc (.cells #[.slice none 0 0, .slice none 0 0, .slice none 0 0] 29)).heap.size = w.heap.size + 2 := by simp
  have HS := hide (hp.below HB0.out)
  have HI := hide (hr.below HB0.out)
  have HT := hide (ht.below HB0.out)
  have HE := hide (he.below HB0.out)
  have HST := hide (hst.below HB0.out)
  have HG12 := hide (block_lt_of_cell he.v12)
  have HL : Hid (l.length = pn) := hp.size
  clear X1 X2 BX0 hp hr ht he hst
  go_enter Tryd.func45, Tryd.ntmps45
  go_upto_region 1 with fail
  generalize (w.alloc (.cells #[.slice pa pn pc, .slice ra rn rc, .slice ta tn tc] 29)).alloc (.cells #[.slice none 0 0, .slice none 0 0, .slice none 0 0] 29) = W0 at *
  have HZ := hide hz
  clear hz
  have hl2 : Hid (w.heap.size + 1 < W0.heap.size) := by unfold Hid; rw [HZ.out]; omega
  have b0 := BX.out.cell 0 _ rfl
  have b1 := BX.out.cell 1 _ rfl
  have b2 := BX.out.cell 2 _ rfl
  go_wp2_with fail
  refine Calls.mono (own_any HE.out pa pn pc l HS.out ra rn rc r HI.out ta tn tc t HT.out hmp hmr hmt) ?_
  rintro e w1 ⟨a1, n1, c1, a2, n2, c2, a3, n3, c3, v, rfl, hv, htab, x1⟩
  have X3 := new_below w1 (.cells #[.slice a1 n1 c1, .slice a2 n2 c2, .slice a3 n3 c3] 29)
  have x2 := chain x1 X3
  have HM := hide (mine_new htab x1.size 29)
  have BG1 := hide (BG.out.below hl2.out x2)
  have B1 := hide (HB0.out.trans (x2.mono HB0.out.size))
  have HE1 := hide (HE.out.below x2)
  have HST1 := hide (HST.out.below x2)
  have hb1 : Hid (w.heap.size + 1 < w1.heap.size) := Nat.lt_of_lt_of_le hl2.out x1.size
  clear htab x1 x2 X3 b0 b1 b2
  by_cases hg : Good l r t
  case neg =>
    have hE : ownE (Good l r t) = 9 := if_neg hg
    have HO : Hid (ofE (Good l r t) (OkP l p st) = 9 ∧ ownT (Good l r t ∧ OkP l p st) l = [] ∧ ownT (Good l r t ∧ OkP l p st) r = [] ∧ ownT (Good l r t ∧ OkP l p st) t = []) := ⟨if_neg hg, if_neg (fun h => hg h.1), if_neg (fun h => hg h.1), if_neg (fun h => hg h.1)⟩
    rw [hE] at hv
    obtain rfl := bare_ne hv (by decide)
    have B2 := hide (below3 (g := w.heap.size + 1) (.slice none 0 0) (.slice none 0 0) (.slice none 0 0) B1.out (by omega))
    have G1 := hide (bl_three BG1.out (.slice none 0 0) (.slice none 0 0) (.slice none 0 0))
    clear hg hE hv
    go_upto_region 2 with fail
    generalize w1.alloc (.cells #[.slice a1 n1 c1, .slice a2 n2 c2, .slice a3 n3 c3] 29) = W1 at *
    have g0 := BG1.out.cell 0 _ rfl
    have g1 := BG1.out.cell 1 _ rfl
    have g2 := BG1.out.cell 2 _ rfl
    have f0 := BG1.out.free 0
    have f1 := BG1.out.free 1
    have f2 := BG1.out.free 2
    unfold sent
    go_wp2
    generalize ((W1.setCell ⟨w.heap.size + 1, 0, none⟩ (.slice none 0 0)).setCell ⟨w.heap.size + 1, 1, none⟩ (.slice none 0 0)).setCell ⟨w.heap.size + 1, 2, none⟩ (.slice none 0 0) = W9 at *
    have e0 := G1.out.cell 0 _ rfl
    have e1 := G1.out.cell 1 _ rfl
    have e2 := G1.out.cell 2 _ rfl
    (try simp only [Exit.inBlock, Exit.then])
    refine bodyPost_ret (v := .tuple #[.agg #[.slice none 0 0, .slice none 0 0, .slice none 0 0], sent (E 9)]) (by simp [results, Tryd.results45, go_sem, e0, e1, e2, sent]) rfl ?_
    exact ⟨_, _, _, _, _, _, _, _, _, _, rfl, by rw [HO.out.1]; exact bare_sent E 9 (by decide) (by decide), by rw [HO.out.2.1, HO.out.2.2.1, HO.out.2.2.2]; exact tab_nil _ _, B2.out⟩
  have hE : ownE (Good l r t) = 0 := if_pos hg
  have hT1 : ownT (Good l r t) l = l := if_pos hg
  have hT2 : ownT (Good l r t) r = r := if_pos hg
  have hT3 : ownT (Good l r t) t = t := if_pos hg
  rw [hE] at hv
  rw [hT1, hT2, hT3] at HM
  obtain rfl := bare0 hv
  have HG := hide hg
  clear hE hT1 hT2 hT3 hv hg
  obtain ⟨a0, c0, e0, hps⟩ := prown_pros HM.out.tab.p
  simp only [Value.slice.injEq] at e0
  obtain ⟨rfl, hn1, rfl⟩ := e0
  rw [HL.out] at hn1 hps
  have HPS := hide hps
  subst hn1
  clear hps
  go_upto_region 2 with fail
  generalize w1.alloc (.cells #[.slice a1 n1 c1, .slice a2 n2 c2, .slice a3 n3 c3] 29) = W1 at *
  have g0 := BG1.out.cell 0 _ rfl
  have g1 := BG1.out.cell 1 _ rfl
  have g2 := BG1.out.cell 2 _ rfl
  have f0 := BG1.out.free 0
  have f1 := BG1.out.free 1
  have f2 := BG1.out.free 2
  have m0 := HM.out.bl.cell 0 _ rfl
  have m1 := HM.out.bl.cell 1 _ rfl
  have m2 := HM.out.bl.cell 2 _ rfl
  have HMB := hide HM.out.tab
  generalize w1.heap.size = mb at *
  go_upto_region 4 with fail
  go_cut [38] from 19 to 38 (fun v wx => v = .bool (!decide (OkP l p st)) ∧ wx = W1)
  case first =>
    clear HS HI HT HE HST BX BG HM BG1 B1 HE1 HMB HB0 HG12
    by_cases h0 : p < 0
    · have d0 : decide (p < 0) = true := decide_eq_true h0
      have HR : Hid (decide (OkP l p st) = false) := decide_eq_false (fun h => by have := h.1; omega)
      clear h0
      go_wp2
      go_meet
      exact ⟨by rw [HR.out]; rfl, rfl⟩
    have d0 : decide (p < 0) = false := decide_eq_false h0
    by_cases h1 : (n1 : Int) ≤ p
    · have d1 : decide ((n1 : Int) ≤ p) = true := decide_eq_true h1
      have HR : Hid (decide (OkP l p st) = false) := decide_eq_false (fun h => by have := h.2.1; rw [HL.out] at this; omega)
      clear h0 h1
      go_wp2
      go_meet
      exact ⟨by rw [HR.out]; rfl, rfl⟩
    obtain ⟨k, rfl⟩ : ∃ k : Nat, p = (k : Int) := ⟨p.toNat, by omega⟩
    have d1 : decide ((n1 : Int) ≤ (k : Int)) = false := decide_eq_false h1
    have d1n : decide (n1 ≤ k) = false := decide_eq_false (by omega)
    have hk : k < n1 := by omega
    have hk1 : (k : Int) < (n1 : Int) := by omega
    obtain ⟨q, hq⟩ : ∃ q, l[k]? = some q := ⟨_, List.getElem?_eq_getElem (by rw [HL.out]; exact hk)⟩
    obtain ⟨b, off, rfl, hrp⟩ := HPS.out.at pro21 (by decide) hq
    have p17 := hrp 17 _ rfl
    have HR : Hid (decide (OkP l (k : Int) st) = decide (q.state ∈ st)) := by
      unfold Hid
      refine decide_eq_decide.2 ⟨fun h => by have := h.2.2; rw [stateAt_of hq] at this; exact this, fun h => ⟨by omega, by rw [HL.out]; omega, by rw [stateAt_of hq]; exact h⟩⟩
    clear h0 h1 hrp hq
    go_wp2_with fail
    refine Calls.mono (contains_any W1 sa sn sc st HST1.out q.state hms) ?_
    rintro e w5 ⟨rfl, rfl⟩
    generalize decide (q.state ∈ st) = bb at *
    go_wp2
    go_meet
    exact ⟨by rw [HR.out], rfl⟩
  case rest =>
    obtain ⟨rfl, rfl⟩ := hcut
    by_cases hk : OkP l p st
    · rw [decide_eq_true hk]
      have HO : Hid (ofE (Good l r t) (OkP l p st) = 0 ∧ ownT (Good l r t ∧ OkP l p st) l = l ∧ ownT (Good l r t ∧ OkP l p st) r = r ∧ ownT (Good l r t ∧ OkP l p st) t = t) := ⟨by unfold ofE; rw [if_pos HG.out, if_pos hk], if_pos ⟨HG.out, hk⟩, if_pos ⟨HG.out, hk⟩, if_pos ⟨HG.out, hk⟩⟩
      have B2 := hide (below3 (g := w.heap.size + 1) (.slice a1 n1 c1) (.slice a2 n2 c2) (.slice a3 n3 c3) B1.out (by omega))
      have G1 := hide (bl_three BG1.out (.slice a1 n1 c1) (.slice a2 n2 c2) (.slice a3 n3 c3))
      have T1 := hide ((HMB.out.three (g := w.heap.size + 1) hl2.out (.slice a1 n1 c1) (.slice a2 n2 c2) (.slice a3 n3 c3)).weaken HB0.out.size)
      clear hk
      go_wp2
      generalize ((wc.setCell ⟨w.heap.size + 1, 0, none⟩ (.slice a1 n1 c1)).setCell ⟨w.heap.size + 1, 1, none⟩ (.slice a2 n2 c2)).setCell ⟨w.heap.size + 1, 2, none⟩ (.slice a3 n3 c3) = W9 at *
      have e0 := G1.out.cell 0 _ rfl
      have e1 := G1.out.cell 1 _ rfl
      have e2 := G1.out.cell 2 _ rfl
      (try simp only [Exit.inBlock, Exit.then])
      refine bodyPost_ret (v := .tuple #[.agg #[.slice a1 n1 c1, .slice a2 n2 c2, .slice a3 n3 c3], .nilIface]) (by simp [results, Tryd.results45, go_sem, e0, e1, e2]) rfl ?_
      exact ⟨_, _, _, _, _, _, _, _, _, _, rfl, by rw [HO.out.1]; exact bare_nil E, by rw [HO.out.2.1, HO.out.2.2.1, HO.out.2.2.2]; exact T1.out, B2.out⟩
    · rw [decide_eq_false hk]
      have HO : Hid (ofE (Good l r t) (OkP l p st) = 12 ∧ ownT (Good l r t ∧ OkP l p st) l = [] ∧ ownT (Good l r t ∧ OkP l p st) r = [] ∧ ownT (Good l r t ∧ OkP l p st) t = []) := ⟨by unfold ofE; rw [if_pos HG.out, if_neg hk], if_neg (fun h => hk h.2), if_neg (fun h => hk h.2), if_neg (fun h => hk h.2)⟩
      have v12 := HE1.out.v12
      have hne : 1 ≠ w.heap.size + 1 := by have h9 : 1 < w.heap.size := HG12.out; omega
      have v12s := glob3 v12 hne (.slice none 0 0) (.slice none 0 0) (.slice none 0 0)
      have B2 := hide (below3 (g := w.heap.size + 1) (.slice none 0 0) (.slice none 0 0) (.slice none 0 0) B1.out (by omega))
      have G1 := hide (bl_three BG1.out (.slice none 0 0) (.slice none 0 0) (.slice none 0 0))
      clear hk m0 m1 m2
      go_wp2
      go_region_held3 (fun wz => wz.cell? ⟨1, 0, none⟩ = some (sent (E 12))) (first | exact v12 | exact v12s) (fail)
      generalize ((wc.setCell ⟨w.heap.size + 1, 0, none⟩ (.slice none 0 0)).setCell ⟨w.heap.size + 1, 1, none⟩ (.slice none 0 0)).setCell ⟨w.heap.size + 1, 2, none⟩ (.slice none 0 0) = W9 at *
      go_wp2
      have e0 : W9.drew.cell? ⟨w.heap.size + 1, 0, none⟩ = _ := G1.out.cell 0 _ rfl
      have e1 : W9.drew.cell? ⟨w.heap.size + 1, 1, none⟩ = _ := G1.out.cell 1 _ rfl
      have e2 : W9.drew.cell? ⟨w.heap.size + 1, 2, none⟩ = _ := G1.out.cell 2 _ rfl
      (try simp only [Exit.inBlock, Exit.then])
      refine bodyPost_ret (v := .tuple #[.agg #[.slice none 0 0, .slice none 0 0, .slice none 0 0], sent (E 12)]) (by simp [results, Tryd.results45, go_sem, e0, e1, e2]) rfl ?_
      exact ⟨_, _, _, _, _, _, _, _, _, _, rfl, by rw [HO.out.1]; exact bare_sent E 12 (by decide) (by decide), by rw [HO.out.2.1, HO.out.2.2.1, HO.out.2.2.2]; exact tab_nil _ _, B2.out.drew⟩

/-- What Yield answers: the queue. -/
def yldR (r : List Int) (p : Int) : List Int := outOf r p ++ [p]
theorem out_len (r : List Int) (p : Int) : (outOf r p).length ≤ r.length := List.length_filter_le _ _

set_option maxRecDepth 100000 in
set_option maxHeartbeats 4000000 in
theorem yield_any {w : World} {E : Nat → Addr} (he : Er9 w E) (pa : Option Addr) (pn pc : Nat) (l : List Pro) (hp : Pros w pa pn pc l) (ra : Option Addr) (rn rc : Nat) (r : List Int) (hr : Is w ra rn rc r) (ta : Option Addr) (tn tc : Nat) (t : List Tm) (ht : Tms w ta tn tc t) (hmp : pn ≤ 9223372036854775807) (hmr : rn ≤ 9223372036854775807) (hmt : tn ≤ 9223372036854775807) (p : Int) :
    Calls Tryd.prog 26 #[.agg #[.slice pa pn pc, .slice ra rn rc, .slice ta tn tc], .int .i64 p] w fun e w' => ∃ a1 n1 c1 a2 n2 c2 a3 n3 c3 v, e = .returned (.tuple #[.agg #[.slice a1 n1 c1, .slice a2 n2 c2, .slice a3 n3 c3], v]) ∧ Bare E v (ofE (Good l r t) (OkP l p [1])) ∧ Tab w' w.heap.size (.slice a1 n1 c1) (.slice a2 n2 c2) (.slice a3 n3 c3) (ownT (Good l r t ∧ OkP l p [1]) l) (ownT (Good l r t ∧ OkP l p [1]) (yldR r p)) (ownT (Good l r t ∧ OkP l p [1]) t) ∧ Below w.heap.size w w' := by
  have X1 := new_below w (.cells #[.slice pa pn pc, .slice ra rn rc, .slice ta tn tc] 29)
  have X2 := new_below (w.alloc (.cells #[.slice pa pn pc, .slice ra rn rc, .slice ta tn tc] 29)) (.cells #[.slice none 0 0, .slice none 0 0, .slice none 0 0] 29)
  have BX0 : Bl (w.alloc (.cells #[.slice pa pn pc, .slice ra rn rc, .slice ta tn tc] 29)) w.heap.size [.slice pa pn pc, .slice ra rn rc, .slice ta tn tc] := bl_alloc w #[.slice pa pn pc, .slice ra rn rc, .slice ta tn tc] 29
  have BX := hide (BX0.below (by simp) X2)
  have BG : Hid (Bl ((w.alloc (.cells #[.slice pa pn pc, .slice ra rn rc, .slice ta tn tc] 29)).alloc (.cells #[.slice none 0 0, .slice none 0 0, .slice none 0 0] 29)) (w.heap.size + 1) [.slice none 0 0, .slice none 0 0, .slice none 0 0]) := by
    have := bl_alloc (w.alloc (.cells #[.slice pa pn pc, .slice ra rn rc, .slice ta tn tc] 29)) #[.slice none 0 0, .slice none 0 0, .slice none 0 0] 29
    rw [show (w.alloc (.cells #[.slice pa pn pc, .slice ra rn rc, .slice ta tn tc] 29)).heap.size = w.heap.size + 1 by simp] at this
    exact this
  have HB0 := hide (chain X1 X2)
  have hz : ((w.alloc (.cells #[.slice pa pn pc, .slice ra rn rc, .slice ta tn tc] 29)).alloc (.cells #[.slice none 0 0, .slice none 0 0, .slice none 0 0] 29)).heap.size = w.heap.size + 2 := by simp
  have HS := hide (hp.below HB0.out)
  have HI := hide (hr.below HB0.out)
  have HT := hide (ht.below HB0.out)
  have HE := hide (he.below HB0.out)
  have HL : Hid (l.length = pn) := hp.size
  have HLR : Hid (r.length = rn) := hr.size
  clear X1 X2 BX0 hp hr ht he
  go_enter Tryd.func26, Tryd.ntmps26
  go_upto_region 1 with fail
  generalize (w.alloc (.cells #[.slice pa pn pc, .slice ra rn rc, .slice ta tn tc] 29)).alloc (.cells #[.slice none 0 0, .slice none 0 0, .slice none 0 0] 29) = W0 at *
  have HZ := hide hz
  clear hz
  have hl2 : Hid (w.heap.size + 1 < W0.heap.size) := by unfold Hid; rw [HZ.out]; omega
  have b0 := BX.out.cell 0 _ rfl
  have b1 := BX.out.cell 1 _ rfl
  have b2 := BX.out.cell 2 _ rfl
  have Y1 := new_below W0 (.cells #[.int .i64 1] 3)
  have HST : Hid (Is (W0.alloc (.cells #[.int .i64 1] 3)) (some ⟨W0.heap.size, 0, none⟩) 1 1 [1]) := by
    refine ⟨rfl, ⟨rfl, by decide, fun e => by simp at e, fun j v hv => ⟨_, _, rfl, ?_⟩⟩⟩
    rw [World.cell?_alloc_at _ _ _ _ rfl]
    simpa [ci] using hv
  have HSY := hide (HS.out.below Y1)
  have HIY := hide (HI.out.below Y1)
  have HTY := hide (HT.out.below Y1)
  have HEY := hide (HE.out.below Y1)
  have BGY := hide (BG.out.below hl2.out Y1)
  have HBY := hide (HB0.out.trans (Y1.mono HB0.out.size))
  have hl3 : Hid (w.heap.size + 1 < (W0.alloc (.cells #[.int .i64 1] 3)).heap.size) := Nat.lt_of_lt_of_le hl2.out Y1.size
  clear Y1
  go_wp2_with fail
  generalize W0.alloc (.cells #[.int .i64 1] 3) = WY at *
  refine Calls.mono (ownOf_any HEY.out pa pn pc l HSY.out ra rn rc r HIY.out ta tn tc t HTY.out hmp hmr hmt p (some ⟨W0.heap.size, 0, none⟩) 1 1 [1] HST.out (by decide)) ?_
  rintro e w1 ⟨a1, n1, c1, a2, n2, c2, a3, n3, c3, v, rfl, hv, htab, x1⟩
  have X3 := new_below w1 (.cells #[.slice a1 n1 c1, .slice a2 n2 c2, .slice a3 n3 c3] 29)
  have x2 := chain x1 X3
  have HM := hide (mine_new htab x1.size 29)
  have BG1 := hide (BGY.out.below hl3.out x2)
  have B1 := hide (HBY.out.trans (x2.mono HBY.out.size))
  have hb1 : Hid (w.heap.size + 1 < WY.heap.size) := hl3.out
  have hb2 : Hid (w.heap.size ≤ WY.heap.size) := HBY.out.size
  clear htab x1 x2 X3 b0 b1 b2
  by_cases hk : Good l r t ∧ OkP l p [1]
  case neg =>
    have hne : ofE (Good l r t) (OkP l p [1]) ≠ 0 := by
      unfold ofE
      by_cases hg : Good l r t
      · rw [if_pos hg, if_neg (fun h => hk ⟨hg, h⟩)]; decide
      · rw [if_neg hg]; decide
    have HO : Hid (ownT (Good l r t ∧ OkP l p [1]) l = [] ∧ ownT (Good l r t ∧ OkP l p [1]) (yldR r p) = [] ∧ ownT (Good l r t ∧ OkP l p [1]) t = []) := ⟨if_neg hk, if_neg hk, if_neg hk⟩
    obtain ⟨ee, hee⟩ : ∃ ee, ofE (Good l r t) (OkP l p [1]) = ee := ⟨_, rfl⟩
    rw [hee] at hv hne
    have HV := hide hv
    have HEE := hide hee
    obtain rfl := bare_ne hv hne
    clear hee
    have B2 := hide (below3 (g := w.heap.size + 1) (.slice none 0 0) (.slice none 0 0) (.slice none 0 0) B1.out (by omega))
    have G1 := hide (bl_three BG1.out (.slice none 0 0) (.slice none 0 0) (.slice none 0 0))
    clear hk hne hv
    go_upto_region 2 with fail
    generalize w1.alloc (.cells #[.slice a1 n1 c1, .slice a2 n2 c2, .slice a3 n3 c3] 29) = W1 at *
    have g0 := BG1.out.cell 0 _ rfl
    have g1 := BG1.out.cell 1 _ rfl
    have g2 := BG1.out.cell 2 _ rfl
    have f0 := BG1.out.free 0
    have f1 := BG1.out.free 1
    have f2 := BG1.out.free 2
    unfold sent
    go_wp2
    generalize ((W1.setCell ⟨w.heap.size + 1, 0, none⟩ (.slice none 0 0)).setCell ⟨w.heap.size + 1, 1, none⟩ (.slice none 0 0)).setCell ⟨w.heap.size + 1, 2, none⟩ (.slice none 0 0) = W9 at *
    have e0 := G1.out.cell 0 _ rfl
    have e1 := G1.out.cell 1 _ rfl
    have e2 := G1.out.cell 2 _ rfl
    (try simp only [Exit.inBlock, Exit.then])
    refine bodyPost_ret (v := .tuple #[.agg #[.slice none 0 0, .slice none 0 0, .slice none 0 0], sent (E ee)]) (by simp [results, Tryd.results26, go_sem, e0, e1, e2, sent]) rfl ?_
    exact ⟨_, _, _, _, _, _, _, _, _, _, rfl, by rw [HEE.out]; exact HV.out, by rw [HO.out.1, HO.out.2.1, HO.out.2.2]; exact tab_nil _ _, B2.out⟩
  have hE : ofE (Good l r t) (OkP l p [1]) = 0 := by unfold ofE; rw [if_pos hk.1, if_pos hk.2]
  have hT1 : ownT (Good l r t ∧ OkP l p [1]) l = l := if_pos hk
  have hT2 : ownT (Good l r t ∧ OkP l p [1]) r = r := if_pos hk
  have hT3 : ownT (Good l r t ∧ OkP l p [1]) t = t := if_pos hk
  have HO : Hid (ofE (Good l r t) (OkP l p [1]) = 0 ∧ ownT (Good l r t ∧ OkP l p [1]) l = l ∧ ownT (Good l r t ∧ OkP l p [1]) (yldR r p) = yldR r p ∧ ownT (Good l r t ∧ OkP l p [1]) t = t) := ⟨hE, hT1, if_pos hk, hT3⟩
  have hr8 := goodR_few hk.1.2.2.1 hk.1.1
  have hr9 : (outOf r p).length ≤ 8 := Nat.le_trans (out_len r p) hr8
  rw [hE] at hv
  rw [hT1, hT2, hT3] at HM
  obtain rfl := bare0 hv
  have HR8 := hide hr8
  have HR9 := hide hr9
  clear hE hT1 hT2 hT3 hv hk hr8 hr9
  go_upto_region 2 with fail
  generalize w1.alloc (.cells #[.slice a1 n1 c1, .slice a2 n2 c2, .slice a3 n3 c3] 29) = W1 at *
  generalize w1.heap.size = mb at *
  go_wp2_with fail
  refine Calls.mono (leave_any W1 WY.heap.size mb a1 n1 c1 a2 n2 c2 a3 n3 c3 l r t HM.out p HR8.out) ?_
  rintro e w2 ⟨rfl, ⟨a4, n4, c4, hm2⟩, y2⟩
  have HM2 := hide hm2
  have Y2 := hide y2
  clear hm2 y2
  go_wp2_with fail
  refine Calls.mono (join_any w2 WY.heap.size mb a1 n1 c1 a4 n4 c4 a3 n3 c3 l (outOf r p) t HM2.out p HR9.out) ?_
  rintro e w3 ⟨rfl, ⟨a5, n5, c5, hm3⟩, y3⟩
  have HM3 := hide hm3
  have Y3 := hide (Y2.out.trans y3)
  have hbase : Hid (WY.heap.size ≤ W1.heap.size) := Nat.le_trans HM.out.hb (Nat.le_of_lt HM.out.lt)
  have BG3 : Hid (Bl w3 (w.heap.size + 1) [.slice none 0 0, .slice none 0 0, .slice none 0 0]) :=
    ⟨fun j v hv => by rw [Y3.out.cell (p := ⟨w.heap.size + 1, j, none⟩) hb1.out]; exact BG1.out.cell j v hv, fun j => by rw [Y3.out.frozen (p := ⟨w.heap.size + 1, j, none⟩) hb1.out]; exact BG1.out.free j⟩
  have B3 := hide (B1.out.trans (Y3.out.mono hb2.out))
  have B4 := hide (below3 (g := w.heap.size + 1) (.slice a1 n1 c1) (.slice a5 n5 c5) (.slice a3 n3 c3) B3.out (by omega))
  have G1 := hide (bl_three BG3.out (.slice a1 n1 c1) (.slice a5 n5 c5) (.slice a3 n3 c3))
  have T1 := hide ((HM3.out.tab.three (g := w.heap.size + 1) hb1.out (.slice a1 n1 c1) (.slice a5 n5 c5) (.slice a3 n3 c3)).weaken hb2.out)
  clear hm3 y3
  have g0 := BG3.out.cell 0 _ rfl
  have g1 := BG3.out.cell 1 _ rfl
  have g2 := BG3.out.cell 2 _ rfl
  have f0 := BG3.out.free 0
  have f1 := BG3.out.free 1
  have f2 := BG3.out.free 2
  have m0 := HM3.out.bl.cell 0 _ rfl
  have m1 := HM3.out.bl.cell 1 _ rfl
  have m2 := HM3.out.bl.cell 2 _ rfl
  go_wp2
  generalize ((w3.setCell ⟨w.heap.size + 1, 0, none⟩ (.slice a1 n1 c1)).setCell ⟨w.heap.size + 1, 1, none⟩ (.slice a5 n5 c5)).setCell ⟨w.heap.size + 1, 2, none⟩ (.slice a3 n3 c3) = W9 at *
  have e0 := G1.out.cell 0 _ rfl
  have e1 := G1.out.cell 1 _ rfl
  have e2 := G1.out.cell 2 _ rfl
  (try simp only [Exit.inBlock, Exit.then])
  refine bodyPost_ret (v := .tuple #[.agg #[.slice a1 n1 c1, .slice a5 n5 c5, .slice a3 n3 c3], .nilIface]) (by simp [results, Tryd.results26, go_sem, e0, e1, e2]) rfl ?_
  exact ⟨_, _, _, _, _, _, _, _, _, _, rfl, by rw [HO.out.1]; exact bare_nil E, by rw [HO.out.2.1, HO.out.2.2.1, HO.out.2.2.2]; exact T1.out, B4.out⟩
end Go.Proofs.YtcfkngkenkbkaaaDoor
