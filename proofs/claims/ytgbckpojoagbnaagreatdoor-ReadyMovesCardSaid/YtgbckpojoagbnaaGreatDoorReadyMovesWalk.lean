/-
  The law ReadyMoves, walked.
-/
import Derived.Test.YtgbckpojoagbnaaGreatDoorRdCalls
import Derived.Test.YtgbckpojoagbnaaGreatDoorRdBlock
import Derived.Test.YtgbckpojoagbnaaGreatDoorMvCalls
import Derived.Test.YtgbckpojoagbnaaGreatDoorTmSet
import Derived.Test.YtgbckpojoagbnaaGreatDoorWkFrom
namespace Go.Proofs.YtgbckpojoagbnaaGreatDoor.readyMoves
open Classical
open Go.RowKit
set_option linter.unusedVariables false
set_option linter.unusedSimpArgs false

theorem tab_far3 {w : World} {base g : Nat} {v1 v2 v3 : Value} {l : List Pro} {r : List Int} {t : List Tm} (h : Tab w base v1 v2 v3 l r t) (f1 : v1.ownBlock ≠ some g) (f2 : v2.ownBlock ≠ some g) (f3 : v3.ownBlock ≠ some g) (x y z : Value) : Tab (((w.setCell ⟨g, 0, none⟩ x).setCell ⟨g, 1, none⟩ y).setCell ⟨g, 2, none⟩ z) base v1 v2 v3 l r t :=
  ⟨ownsRow_far (ownsRow_far (ownsRow_far h.p (p := ⟨g, 0, none⟩) f1 x) (p := ⟨g, 1, none⟩) f1 y) (p := ⟨g, 2, none⟩) f1 z, ownsRow_far (ownsRow_far (ownsRow_far h.r (p := ⟨g, 0, none⟩) f2 x) (p := ⟨g, 1, none⟩) f2 y) (p := ⟨g, 2, none⟩) f2 z, ownsRow_far (ownsRow_far (ownsRow_far h.t (p := ⟨g, 0, none⟩) f3 x) (p := ⟨g, 1, none⟩) f3 y) (p := ⟨g, 2, none⟩) f3 z, h.s12, h.s13, h.s23⟩
theorem blkT_len (t : List Tm) (p d : Int) : (Rb.blkT t p d).length ≤ t.length + 1 := by
  unfold Rb.blkT
  split
  · omega
  · rw [srt_len, List.length_append]
    have : (Rb.oth t p).length ≤ t.length := List.length_filter_le _ _
    simp
    omega
set_option maxRecDepth 100000 in
set_option maxHeartbeats 4000000 in
theorem same_any {w : World} {E : Nat → Addr} (he : Errs w E) (v : Value) (i : Nat) (hv : Bare E v i) (pa : Option Addr) (pn pc : Nat) (l : List Pro) (hp : Pros w pa pn pc l) (ra : Option Addr) (rn rc : Nat) (r : List Int) (hr : Is w ra rn rc r) (ta : Option Addr) (tn tc : Nat) (t : List Tm) (ht : Tms w ta tn tc t)
    (pa' : Option Addr) (pc' : Nat) (hp' : Pros w pa' pn pc' l) (ra' : Option Addr) (rc' : Nat) (hr' : Is w ra' rn rc' r) (ta' : Option Addr) (tc' : Nat) (ht' : Tms w ta' tn tc' t) (hmp : pn ≤ 1000) (hmr : rn ≤ 1000) (hmt : tn ≤ 1000) :
    Calls Tryz.prog 13 #[.agg #[.slice pa pn pc, .slice ra rn rc, .slice ta tn tc], v, .agg #[.slice pa' pn pc', .slice ra' rn rc', .slice ta' tn tc'], .int .i64 (i : Int)] w fun e w' => e = .returned (.bool true) ∧ Below w.heap.size w w' := by
  have X1 := new_below w (.cells #[.slice pa pn pc, .slice ra rn rc, .slice ta tn tc] 37)
  have X2 := new_below (w.alloc (.cells #[.slice pa pn pc, .slice ra rn rc, .slice ta tn tc] 37)) (.cells #[.slice pa' pn pc', .slice ra' rn rc', .slice ta' tn tc'] 26)
  have BX0 : Bl (w.alloc (.cells #[.slice pa pn pc, .slice ra rn rc, .slice ta tn tc] 37)) w.heap.size [.slice pa pn pc, .slice ra rn rc, .slice ta tn tc] := bl_alloc w #[.slice pa pn pc, .slice ra rn rc, .slice ta tn tc] 37
  have BX := hide (BX0.below (by simp) X2)
  have BG : Hid (Bl ((w.alloc (.cells #[.slice pa pn pc, .slice ra rn rc, .slice ta tn tc] 37)).alloc (.cells #[.slice pa' pn pc', .slice ra' rn rc', .slice ta' tn tc'] 26)) (w.heap.size + 1) [.slice pa' pn pc', .slice ra' rn rc', .slice ta' tn tc']) := by
    have := bl_alloc (w.alloc (.cells #[.slice pa pn pc, .slice ra rn rc, .slice ta tn tc] 37)) #[.slice pa' pn pc', .slice ra' rn rc', .slice ta' tn tc'] 26
    rw [show (w.alloc (.cells #[.slice pa pn pc, .slice ra rn rc, .slice ta tn tc] 37)).heap.size = w.heap.size + 1 by simp] at this
    exact this
  have HB0 := hide (chain X1 X2)
  have hz : Hid (w.heap.size + 1 < ((w.alloc (.cells #[.slice pa pn pc, .slice ra rn rc, .slice ta tn tc] 37)).alloc (.cells #[.slice pa' pn pc', .slice ra' rn rc', .slice ta' tn tc'] 26)).heap.size) := by unfold Hid; simp
  have HP := hide (hp.below HB0.out)
  have HR := hide (hr.below HB0.out)
  have HT := hide (ht.below HB0.out)
  have HP' := hide (hp'.below HB0.out)
  have HR' := hide (hr'.below HB0.out)
  have HT' := hide (ht'.below HB0.out)
  have HE := hide (he.below HB0.out)
  have HV := hide hv
  clear X1 X2 BX0 hp hr ht hp' hr' ht' he hv
  go_enter Tryz.func13, Tryz.ntmps13
  go_upto_region 1 with fail
  generalize (w.alloc (.cells #[.slice pa pn pc, .slice ra rn rc, .slice ta tn tc] 37)).alloc (.cells #[.slice pa' pn pc', .slice ra' rn rc', .slice ta' tn tc'] 26) = W0 at *
  have HW := hide (Below.refl W0.heap.size W0)
  have hl1 : Hid (w.heap.size < W0.heap.size) := Nat.lt_of_succ_lt hz.out
  go_region_held3 (fun wz => wz.cell? ⟨w.heap.size, 0, none⟩ = some (.slice pa pn pc) ∧ wz.cell? ⟨w.heap.size, 1, none⟩ = some (.slice ra rn rc) ∧ wz.cell? ⟨w.heap.size, 2, none⟩ = some (.slice ta tn tc) ∧ wz.cell? ⟨w.heap.size + 1, 0, none⟩ = some (.slice pa' pn pc') ∧ wz.cell? ⟨w.heap.size + 1, 1, none⟩ = some (.slice ra' rn rc') ∧ wz.cell? ⟨w.heap.size + 1, 2, none⟩ = some (.slice ta' tn tc'))
    (first | exact held6 BX.out hl1.out BG.out hz.out HW.out | exact held6 BX.out hl1.out BG.out hz.out HW.out.drew)
    (first
      | (go_at_call 31; refine (plain_any (HE.out.below (by first | exact HW.out | exact HW.out.drew)) v i HV.out (i : Int)).mono ?_; rintro e wp ⟨rfl, bp⟩; rw [beq_self_eq_true]; have HW := hide (chain HW.out (by first | exact bp | exact undrewB bp)); clear bp)
      | (go_at_call 33; refine (from_any _ _ _ _ ⟨_, _, _, rfl⟩ ⟨_, _, _, rfl⟩ ⟨_, _, _, rfl⟩).mono ?_; rintro e wf ⟨rfl, bf⟩; have HW := hide (chain HW.out (by first | exact bf | exact undrewB bf)); clear bf)
      | (go_at_call 32; refine (requal_same _ pa pn pc _ (HP.out.below HW.out) ra rn rc _ (HR.out.below HW.out) ta tn tc _ (HT.out.below HW.out) pa' pc' (HP'.out.below HW.out) ra' rc' (HR'.out.below HW.out) ta' tc' (HT'.out.below HW.out) (by omega) (by omega) (by omega)).mono ?_; rintro e wq ⟨rfl, bf⟩; have HW := hide (chain HW.out (by first | exact bf | exact undrewB bf)); clear bf)
      | fail)
  have B9 := hide (HB0.out.trans (HW.out.mono HB0.out.size))
  go_wp2
  go_ret
  exact ⟨rfl, B9.out⟩
theorem mv_few0 (l : List Pro) (r : List Int) (t : List Tm) (p  : Int) : (ownT (Good l r t ∧ (OkP l p [1])) l).length ≤ 1000 ∧ (ownT (Good l r t ∧ (OkP l p [1])) (yldR r p)).length ≤ 1000 ∧ (ownT (Good l r t ∧ (OkP l p [1])) t).length ≤ 1000 := by
  by_cases h : Good l r t ∧ (OkP l p [1])
  · have h1 := h.1.1
    have h2 := goodR_few h.1.2.2.1 h.1.1
    have h3 := h.1.tfew
    have h4 : (outOf r p).length ≤ r.length := List.length_filter_le _ _
    have h5 : (others t p).length ≤ t.length := List.length_filter_le _ _
    have h6 : (Rb.blkT t p 0).length ≤ t.length + 1 := blkT_len t p 0
    skip
    simp only [ownT, if_pos h]
    refine ⟨?_, ?_, ?_⟩
    · first | omega | (unfold setAt; rw [List.length_set]; omega)
    · first | omega | (unfold yldR; rw [List.length_append]; simp; omega) | (rw [List.length_append]; simp; omega)
    · omega
  · simp [ownT, h]
theorem mv_few1 (l : List Pro) (r : List Int) (t : List Tm) (p wt ob du : Int) : (ownT (Good l r t ∧ (OkP l p [1] ∧ (Rb.WaitOk wt ob du ∧ (du = -1 ∨ (0 ≤ du ∧ du ≤ 1010000))))) (setAt l p (fun q => Rb.blockP q wt ob))).length ≤ 1000 ∧ (ownT (Good l r t ∧ (OkP l p [1] ∧ (Rb.WaitOk wt ob du ∧ (du = -1 ∨ (0 ≤ du ∧ du ≤ 1010000))))) (outOf r p)).length ≤ 1000 ∧ (ownT (Good l r t ∧ (OkP l p [1] ∧ (Rb.WaitOk wt ob du ∧ (du = -1 ∨ (0 ≤ du ∧ du ≤ 1010000))))) (Rb.blkT t p du)).length ≤ 1000 := by
  by_cases h : Good l r t ∧ (OkP l p [1] ∧ (Rb.WaitOk wt ob du ∧ (du = -1 ∨ (0 ≤ du ∧ du ≤ 1010000))))
  · have h1 := h.1.1
    have h2 := goodR_few h.1.2.2.1 h.1.1
    have h3 := h.1.tfew
    have h4 : (outOf r p).length ≤ r.length := List.length_filter_le _ _
    have h5 : (others t p).length ≤ t.length := List.length_filter_le _ _
    have h6 : (Rb.blkT t p 0).length ≤ t.length + 1 := blkT_len t p 0
    have h7 := blkT_len t p du
    simp only [ownT, if_pos h]
    refine ⟨?_, ?_, ?_⟩
    · first | omega | (unfold setAt; rw [List.length_set]; omega)
    · first | omega | (unfold yldR; rw [List.length_append]; simp; omega) | (rw [List.length_append]; simp; omega)
    · omega
  · simp [ownT, h]
theorem mv_few2 (l : List Pro) (r : List Int) (t : List Tm) (p x : Int) : (ownT (Good l r t ∧ (OkP l p [2])) (setAt l p (fun q => wokenP q x))).length ≤ 1000 ∧ (ownT (Good l r t ∧ (OkP l p [2])) (r ++ [p])).length ≤ 1000 ∧ (ownT (Good l r t ∧ (OkP l p [2])) (others t p)).length ≤ 1000 := by
  by_cases h : Good l r t ∧ (OkP l p [2])
  · have h1 := h.1.1
    have h2 := goodR_few h.1.2.2.1 h.1.1
    have h3 := h.1.tfew
    have h4 : (outOf r p).length ≤ r.length := List.length_filter_le _ _
    have h5 : (others t p).length ≤ t.length := List.length_filter_le _ _
    have h6 : (Rb.blkT t p 0).length ≤ t.length + 1 := blkT_len t p 0
    skip
    simp only [ownT, if_pos h]
    refine ⟨?_, ?_, ?_⟩
    · first | omega | (unfold setAt; rw [List.length_set]; omega)
    · first | omega | (unfold yldR; rw [List.length_append]; simp; omega) | (rw [List.length_append]; simp; omega)
    · omega
  · simp [ownT, h]
theorem mv_few3 (l : List Pro) (r : List Int) (t : List Tm) (p st : Int) : (ownT (Good l r t ∧ (OkP l p [1] ∧ (st = 0 ∨ st = 3))) (setAt l p (fun q => { q with state := st }))).length ≤ 1000 ∧ (ownT (Good l r t ∧ (OkP l p [1] ∧ (st = 0 ∨ st = 3))) (outOf r p)).length ≤ 1000 ∧ (ownT (Good l r t ∧ (OkP l p [1] ∧ (st = 0 ∨ st = 3))) t).length ≤ 1000 := by
  by_cases h : Good l r t ∧ (OkP l p [1] ∧ (st = 0 ∨ st = 3))
  · have h1 := h.1.1
    have h2 := goodR_few h.1.2.2.1 h.1.1
    have h3 := h.1.tfew
    have h4 : (outOf r p).length ≤ r.length := List.length_filter_le _ _
    have h5 : (others t p).length ≤ t.length := List.length_filter_le _ _
    have h6 : (Rb.blkT t p 0).length ≤ t.length + 1 := blkT_len t p 0
    skip
    simp only [ownT, if_pos h]
    refine ⟨?_, ?_, ?_⟩
    · first | omega | (unfold setAt; rw [List.length_set]; omega)
    · first | omega | (unfold yldR; rw [List.length_append]; simp; omega) | (rw [List.length_append]; simp; omega)
    · omega
  · simp [ownT, h]
theorem mv_few4 (l : List Pro) (r : List Int) (t : List Tm) (p x pr : Int) : (ownT (Good l r t ∧ (OkP l p [0, 3] ∧ (0 ≤ pr ∧ pr ≤ 255))) (setAt l p (fun _ => newP x pr))).length ≤ 1000 ∧ (ownT (Good l r t ∧ (OkP l p [0, 3] ∧ (0 ≤ pr ∧ pr ≤ 255))) (r ++ [p])).length ≤ 1000 ∧ (ownT (Good l r t ∧ (OkP l p [0, 3] ∧ (0 ≤ pr ∧ pr ≤ 255))) t).length ≤ 1000 := by
  by_cases h : Good l r t ∧ (OkP l p [0, 3] ∧ (0 ≤ pr ∧ pr ≤ 255))
  · have h1 := h.1.1
    have h2 := goodR_few h.1.2.2.1 h.1.1
    have h3 := h.1.tfew
    have h4 : (outOf r p).length ≤ r.length := List.length_filter_le _ _
    have h5 : (others t p).length ≤ t.length := List.length_filter_le _ _
    have h6 : (Rb.blkT t p 0).length ≤ t.length + 1 := blkT_len t p 0
    skip
    simp only [ownT, if_pos h]
    refine ⟨?_, ?_, ?_⟩
    · first | omega | (unfold setAt; rw [List.length_set]; omega)
    · first | omega | (unfold yldR; rw [List.length_append]; simp; omega) | (rw [List.length_append]; simp; omega)
    · omega
  · simp [ownT, h]
theorem mv_few5 (l : List Pro) (r : List Int) (t : List Tm) (p pr : Int) : (ownT (Good l r t ∧ (OkP l p [0, 1, 2, 3] ∧ (0 ≤ pr ∧ pr ≤ 255))) (setAt l p (fun q => { q with prio := pr }))).length ≤ 1000 ∧ (ownT (Good l r t ∧ (OkP l p [0, 1, 2, 3] ∧ (0 ≤ pr ∧ pr ≤ 255))) r).length ≤ 1000 ∧ (ownT (Good l r t ∧ (OkP l p [0, 1, 2, 3] ∧ (0 ≤ pr ∧ pr ≤ 255))) t).length ≤ 1000 := by
  by_cases h : Good l r t ∧ (OkP l p [0, 1, 2, 3] ∧ (0 ≤ pr ∧ pr ≤ 255))
  · have h1 := h.1.1
    have h2 := goodR_few h.1.2.2.1 h.1.1
    have h3 := h.1.tfew
    have h4 : (outOf r p).length ≤ r.length := List.length_filter_le _ _
    have h5 : (others t p).length ≤ t.length := List.length_filter_le _ _
    have h6 : (Rb.blkT t p 0).length ≤ t.length + 1 := blkT_len t p 0
    skip
    simp only [ownT, if_pos h]
    refine ⟨?_, ?_, ?_⟩
    · first | omega | (unfold setAt; rw [List.length_set]; omega)
    · first | omega | (unfold yldR; rw [List.length_append]; simp; omega) | (rw [List.length_append]; simp; omega)
    · omega
  · simp [ownT, h]

set_option maxRecDepth 100000 in
set_option maxHeartbeats 16000000 in
theorem law (pa : Option Addr) (pn pc : Nat) (l : List Pro) (ra : Option Addr) (rn rc : Nat) (r : List Int) (ta : Option Addr) (tn tc : Nat) (t : List Tm) (p wt ob du pr st nw x : Int) (w : World) {E : Nat → Addr} (he : Errs w E) (hp : Pros w pa pn pc l) (hr : Is w ra rn rc r) (ht : Tms w ta tn tc t) (hmp : pn ≤ 1353245080400) (hmr : rn ≤ 9223372036854775807) (hmt : tn ≤ 9223372036854775807) :
    Calls Tryz.prog 3 #[.agg #[.slice pa pn pc, .slice ra rn rc, .slice ta tn tc, .int .i64 p, .int .i64 wt, .int .i64 ob, .int .i64 du, .int .i64 pr, .int .i64 st, .int .i64 nw, .int .u32 x]] w fun e w' => e = .returned (.bool true) ∧ Below w.heap.size w w' := by
  have X := new_below w (.cells #[.slice pa pn pc, .slice ra rn rc, .slice ta tn tc, .int .i64 p, .int .i64 wt, .int .i64 ob, .int .i64 du, .int .i64 pr, .int .i64 st, .int .i64 nw, .int .u32 x] 29)
  have BX : Hid (Bl (w.alloc (.cells #[.slice pa pn pc, .slice ra rn rc, .slice ta tn tc, .int .i64 p, .int .i64 wt, .int .i64 ob, .int .i64 du, .int .i64 pr, .int .i64 st, .int .i64 nw, .int .u32 x] 29)) w.heap.size [.slice pa pn pc, .slice ra rn rc, .slice ta tn tc, .int .i64 p, .int .i64 wt, .int .i64 ob, .int .i64 du, .int .i64 pr, .int .i64 st, .int .i64 nw, .int .u32 x]) := bl_alloc w #[.slice pa pn pc, .slice ra rn rc, .slice ta tn tc, .int .i64 p, .int .i64 wt, .int .i64 ob, .int .i64 du, .int .i64 pr, .int .i64 st, .int .i64 nw, .int .u32 x] 29
  have hz : Hid (w.heap.size < (w.alloc (.cells #[.slice pa pn pc, .slice ra rn rc, .slice ta tn tc, .int .i64 p, .int .i64 wt, .int .i64 ob, .int .i64 du, .int .i64 pr, .int .i64 st, .int .i64 nw, .int .u32 x] 29)).heap.size) := by unfold Hid; simp
  have B := hide X
  have HE := hide he
  have HS := hide hp
  have HI := hide hr
  have HT := hide ht
  clear X he hp hr ht
  go_enter Tryz.func3, Tryz.ntmps3
  go_upto_region 1 with fail
  generalize w.alloc (.cells #[.slice pa pn pc, .slice ra rn rc, .slice ta tn tc, .int .i64 p, .int .i64 wt, .int .i64 ob, .int .i64 du, .int .i64 pr, .int .i64 st, .int .i64 nw, .int .u32 x] 29) = W0 at *
  go_wp2_with fail
  refine Calls.mono (awake_any (HE.out.below B.out).er9) ?_
  rintro e w1 ⟨rfl, x1⟩
  replace BX := hide (BX.out.below hz.out x1)
  replace hz : Hid (w.heap.size < w1.heap.size) := Nat.lt_of_lt_of_le hz.out x1.size
  replace B := hide (chain B.out x1)
  clear x1
  have y0 := BX.out.cell 0 _ rfl
  have y1 := BX.out.cell 1 _ rfl
  have y2 := BX.out.cell 2 _ rfl
  have y3 := BX.out.cell 3 _ rfl
  go_wp2_with fail
  refine Calls.mono (ryield_any w1 pa pn pc l (HS.out.below B.out) ra rn rc r (HI.out.below B.out) ta tn tc t (HT.out.below B.out) p ) ?_
  rintro e v0 ⟨da0, dn0, dc0, ea0, en0, ec0, ga0, gn0, gc0, rfl, hdt, x3⟩
  have XA := new_below v0 (.cells #[.slice da0 dn0 dc0, .slice ea0 en0 ec0, .slice ga0 gn0 gc0] 26)
  have x4 := chain x3 XA
  have DL0 := hide (hdt.below XA)
  have DB0 : Hid (Bl (v0.alloc (.cells #[.slice da0 dn0 dc0, .slice ea0 en0 ec0, .slice ga0 gn0 gc0] 26)) v0.heap.size [.slice da0 dn0 dc0, .slice ea0 en0 ec0, .slice ga0 gn0 gc0]) := bl_alloc v0 #[.slice da0 dn0 dc0, .slice ea0 en0 ec0, .slice ga0 gn0 gc0] 26
  have DZ0 : Hid (v0.heap.size < (v0.alloc (.cells #[.slice da0 dn0 dc0, .slice ea0 en0 ec0, .slice ga0 gn0 gc0] 26)).heap.size) := by unfold Hid; simp
  replace BX := hide (BX.out.below hz.out x4)
  replace hz : Hid (w.heap.size < (v0.alloc (.cells #[.slice da0 dn0 dc0, .slice ea0 en0 ec0, .slice ga0 gn0 gc0] 26)).heap.size) := Nat.lt_of_lt_of_le hz.out x4.size
  replace B := hide (chain B.out x4)
  clear hdt XA x4 x3
  clear y0 y1 y2 y3
  go_upto_region 4 with fail
  generalize (v0.alloc (.cells #[.slice da0 dn0 dc0, .slice ea0 en0 ec0, .slice ga0 gn0 gc0] 26)) = U0 at *
  generalize v0.heap.size = db0 at *
  have y0 := BX.out.cell 0 _ rfl
  have y1 := BX.out.cell 1 _ rfl
  have y2 := BX.out.cell 2 _ rfl
  have y3 := BX.out.cell 3 _ rfl
  have y4 := BX.out.cell 4 _ rfl
  have y5 := BX.out.cell 5 _ rfl
  have y6 := BX.out.cell 6 _ rfl
  go_wp2_with fail
  refine Calls.mono (rblock_any U0 pa pn pc l (HS.out.below B.out) ra rn rc r (HI.out.below B.out) ta tn tc t (HT.out.below B.out) p wt ob du) ?_
  rintro e v1 ⟨da1, dn1, dc1, ea1, en1, ec1, ga1, gn1, gc1, rfl, hdt, x3⟩
  have XA := new_below v1 (.cells #[.slice da1 dn1 dc1, .slice ea1 en1 ec1, .slice ga1 gn1 gc1] 26)
  have x4 := chain x3 XA
  have DL1 := hide (hdt.below XA)
  have DB1 : Hid (Bl (v1.alloc (.cells #[.slice da1 dn1 dc1, .slice ea1 en1 ec1, .slice ga1 gn1 gc1] 26)) v1.heap.size [.slice da1 dn1 dc1, .slice ea1 en1 ec1, .slice ga1 gn1 gc1]) := bl_alloc v1 #[.slice da1 dn1 dc1, .slice ea1 en1 ec1, .slice ga1 gn1 gc1] 26
  have DZ1 : Hid (v1.heap.size < (v1.alloc (.cells #[.slice da1 dn1 dc1, .slice ea1 en1 ec1, .slice ga1 gn1 gc1] 26)).heap.size) := by unfold Hid; simp
  replace BX := hide (BX.out.below hz.out x4)
  replace hz : Hid (w.heap.size < (v1.alloc (.cells #[.slice da1 dn1 dc1, .slice ea1 en1 ec1, .slice ga1 gn1 gc1] 26)).heap.size) := Nat.lt_of_lt_of_le hz.out x4.size
  replace B := hide (chain B.out x4)
  replace DL0 := hide (DL0.out.below x4)
  replace DB0 := hide (DB0.out.below DZ0.out x4)
  replace DZ0 : Hid (db0 < (v1.alloc (.cells #[.slice da1 dn1 dc1, .slice ea1 en1 ec1, .slice ga1 gn1 gc1] 26)).heap.size) := Nat.lt_of_lt_of_le DZ0.out x4.size
  clear hdt XA x4 x3
  clear y0 y1 y2 y3 y4 y5 y6
  go_upto_region 5 with fail
  generalize (v1.alloc (.cells #[.slice da1 dn1 dc1, .slice ea1 en1 ec1, .slice ga1 gn1 gc1] 26)) = U1 at *
  generalize v1.heap.size = db1 at *
  have y0 := BX.out.cell 0 _ rfl
  have y1 := BX.out.cell 1 _ rfl
  have y2 := BX.out.cell 2 _ rfl
  have y3 := BX.out.cell 3 _ rfl
  have y10 := BX.out.cell 10 _ rfl
  go_wp2_with fail
  refine Calls.mono (rwake_any U1 pa pn pc l (HS.out.below B.out) ra rn rc r (HI.out.below B.out) ta tn tc t (HT.out.below B.out) p x) ?_
  rintro e v2 ⟨da2, dn2, dc2, ea2, en2, ec2, ga2, gn2, gc2, rfl, hdt, x3⟩
  have XA := new_below v2 (.cells #[.slice da2 dn2 dc2, .slice ea2 en2 ec2, .slice ga2 gn2 gc2] 26)
  have x4 := chain x3 XA
  have DL2 := hide (hdt.below XA)
  have DB2 : Hid (Bl (v2.alloc (.cells #[.slice da2 dn2 dc2, .slice ea2 en2 ec2, .slice ga2 gn2 gc2] 26)) v2.heap.size [.slice da2 dn2 dc2, .slice ea2 en2 ec2, .slice ga2 gn2 gc2]) := bl_alloc v2 #[.slice da2 dn2 dc2, .slice ea2 en2 ec2, .slice ga2 gn2 gc2] 26
  have DZ2 : Hid (v2.heap.size < (v2.alloc (.cells #[.slice da2 dn2 dc2, .slice ea2 en2 ec2, .slice ga2 gn2 gc2] 26)).heap.size) := by unfold Hid; simp
  replace BX := hide (BX.out.below hz.out x4)
  replace hz : Hid (w.heap.size < (v2.alloc (.cells #[.slice da2 dn2 dc2, .slice ea2 en2 ec2, .slice ga2 gn2 gc2] 26)).heap.size) := Nat.lt_of_lt_of_le hz.out x4.size
  replace B := hide (chain B.out x4)
  replace DL0 := hide (DL0.out.below x4)
  replace DB0 := hide (DB0.out.below DZ0.out x4)
  replace DZ0 : Hid (db0 < (v2.alloc (.cells #[.slice da2 dn2 dc2, .slice ea2 en2 ec2, .slice ga2 gn2 gc2] 26)).heap.size) := Nat.lt_of_lt_of_le DZ0.out x4.size
  replace DL1 := hide (DL1.out.below x4)
  replace DB1 := hide (DB1.out.below DZ1.out x4)
  replace DZ1 : Hid (db1 < (v2.alloc (.cells #[.slice da2 dn2 dc2, .slice ea2 en2 ec2, .slice ga2 gn2 gc2] 26)).heap.size) := Nat.lt_of_lt_of_le DZ1.out x4.size
  clear hdt XA x4 x3
  clear y0 y1 y2 y3 y10
  go_upto_region 6 with fail
  generalize (v2.alloc (.cells #[.slice da2 dn2 dc2, .slice ea2 en2 ec2, .slice ga2 gn2 gc2] 26)) = U2 at *
  generalize v2.heap.size = db2 at *
  have y0 := BX.out.cell 0 _ rfl
  have y1 := BX.out.cell 1 _ rfl
  have y2 := BX.out.cell 2 _ rfl
  have y3 := BX.out.cell 3 _ rfl
  have y8 := BX.out.cell 8 _ rfl
  go_wp2_with fail
  refine Calls.mono (rhalt_any U2 pa pn pc l (HS.out.below B.out) ra rn rc r (HI.out.below B.out) ta tn tc t (HT.out.below B.out) p st) ?_
  rintro e v3 ⟨da3, dn3, dc3, ea3, en3, ec3, ga3, gn3, gc3, rfl, hdt, x3⟩
  have XA := new_below v3 (.cells #[.slice da3 dn3 dc3, .slice ea3 en3 ec3, .slice ga3 gn3 gc3] 26)
  have x4 := chain x3 XA
  have DL3 := hide (hdt.below XA)
  have DB3 : Hid (Bl (v3.alloc (.cells #[.slice da3 dn3 dc3, .slice ea3 en3 ec3, .slice ga3 gn3 gc3] 26)) v3.heap.size [.slice da3 dn3 dc3, .slice ea3 en3 ec3, .slice ga3 gn3 gc3]) := bl_alloc v3 #[.slice da3 dn3 dc3, .slice ea3 en3 ec3, .slice ga3 gn3 gc3] 26
  have DZ3 : Hid (v3.heap.size < (v3.alloc (.cells #[.slice da3 dn3 dc3, .slice ea3 en3 ec3, .slice ga3 gn3 gc3] 26)).heap.size) := by unfold Hid; simp
  replace BX := hide (BX.out.below hz.out x4)
  replace hz : Hid (w.heap.size < (v3.alloc (.cells #[.slice da3 dn3 dc3, .slice ea3 en3 ec3, .slice ga3 gn3 gc3] 26)).heap.size) := Nat.lt_of_lt_of_le hz.out x4.size
  replace B := hide (chain B.out x4)
  replace DL0 := hide (DL0.out.below x4)
  replace DB0 := hide (DB0.out.below DZ0.out x4)
  replace DZ0 : Hid (db0 < (v3.alloc (.cells #[.slice da3 dn3 dc3, .slice ea3 en3 ec3, .slice ga3 gn3 gc3] 26)).heap.size) := Nat.lt_of_lt_of_le DZ0.out x4.size
  replace DL1 := hide (DL1.out.below x4)
  replace DB1 := hide (DB1.out.below DZ1.out x4)
  replace DZ1 : Hid (db1 < (v3.alloc (.cells #[.slice da3 dn3 dc3, .slice ea3 en3 ec3, .slice ga3 gn3 gc3] 26)).heap.size) := Nat.lt_of_lt_of_le DZ1.out x4.size
  replace DL2 := hide (DL2.out.below x4)
  replace DB2 := hide (DB2.out.below DZ2.out x4)
  replace DZ2 : Hid (db2 < (v3.alloc (.cells #[.slice da3 dn3 dc3, .slice ea3 en3 ec3, .slice ga3 gn3 gc3] 26)).heap.size) := Nat.lt_of_lt_of_le DZ2.out x4.size
  clear hdt XA x4 x3
  clear y0 y1 y2 y3 y8
  go_upto_region 7 with fail
  generalize (v3.alloc (.cells #[.slice da3 dn3 dc3, .slice ea3 en3 ec3, .slice ga3 gn3 gc3] 26)) = U3 at *
  generalize v3.heap.size = db3 at *
  have y0 := BX.out.cell 0 _ rfl
  have y1 := BX.out.cell 1 _ rfl
  have y2 := BX.out.cell 2 _ rfl
  have y3 := BX.out.cell 3 _ rfl
  have y10 := BX.out.cell 10 _ rfl
  have y7 := BX.out.cell 7 _ rfl
  go_wp2_with fail
  refine Calls.mono (rstart_any U3 pa pn pc l (HS.out.below B.out) ra rn rc r (HI.out.below B.out) ta tn tc t (HT.out.below B.out) p x pr) ?_
  rintro e v4 ⟨da4, dn4, dc4, ea4, en4, ec4, ga4, gn4, gc4, rfl, hdt, x3⟩
  have XA := new_below v4 (.cells #[.slice da4 dn4 dc4, .slice ea4 en4 ec4, .slice ga4 gn4 gc4] 26)
  have x4 := chain x3 XA
  have DL4 := hide (hdt.below XA)
  have DB4 : Hid (Bl (v4.alloc (.cells #[.slice da4 dn4 dc4, .slice ea4 en4 ec4, .slice ga4 gn4 gc4] 26)) v4.heap.size [.slice da4 dn4 dc4, .slice ea4 en4 ec4, .slice ga4 gn4 gc4]) := bl_alloc v4 #[.slice da4 dn4 dc4, .slice ea4 en4 ec4, .slice ga4 gn4 gc4] 26
  have DZ4 : Hid (v4.heap.size < (v4.alloc (.cells #[.slice da4 dn4 dc4, .slice ea4 en4 ec4, .slice ga4 gn4 gc4] 26)).heap.size) := by unfold Hid; simp
  replace BX := hide (BX.out.below hz.out x4)
  replace hz : Hid (w.heap.size < (v4.alloc (.cells #[.slice da4 dn4 dc4, .slice ea4 en4 ec4, .slice ga4 gn4 gc4] 26)).heap.size) := Nat.lt_of_lt_of_le hz.out x4.size
  replace B := hide (chain B.out x4)
  replace DL0 := hide (DL0.out.below x4)
  replace DB0 := hide (DB0.out.below DZ0.out x4)
  replace DZ0 : Hid (db0 < (v4.alloc (.cells #[.slice da4 dn4 dc4, .slice ea4 en4 ec4, .slice ga4 gn4 gc4] 26)).heap.size) := Nat.lt_of_lt_of_le DZ0.out x4.size
  replace DL1 := hide (DL1.out.below x4)
  replace DB1 := hide (DB1.out.below DZ1.out x4)
  replace DZ1 : Hid (db1 < (v4.alloc (.cells #[.slice da4 dn4 dc4, .slice ea4 en4 ec4, .slice ga4 gn4 gc4] 26)).heap.size) := Nat.lt_of_lt_of_le DZ1.out x4.size
  replace DL2 := hide (DL2.out.below x4)
  replace DB2 := hide (DB2.out.below DZ2.out x4)
  replace DZ2 : Hid (db2 < (v4.alloc (.cells #[.slice da4 dn4 dc4, .slice ea4 en4 ec4, .slice ga4 gn4 gc4] 26)).heap.size) := Nat.lt_of_lt_of_le DZ2.out x4.size
  replace DL3 := hide (DL3.out.below x4)
  replace DB3 := hide (DB3.out.below DZ3.out x4)
  replace DZ3 : Hid (db3 < (v4.alloc (.cells #[.slice da4 dn4 dc4, .slice ea4 en4 ec4, .slice ga4 gn4 gc4] 26)).heap.size) := Nat.lt_of_lt_of_le DZ3.out x4.size
  clear hdt XA x4 x3
  clear y0 y1 y2 y3 y10 y7
  go_upto_region 8 with fail
  generalize (v4.alloc (.cells #[.slice da4 dn4 dc4, .slice ea4 en4 ec4, .slice ga4 gn4 gc4] 26)) = U4 at *
  generalize v4.heap.size = db4 at *
  have y0 := BX.out.cell 0 _ rfl
  have y1 := BX.out.cell 1 _ rfl
  have y2 := BX.out.cell 2 _ rfl
  have y3 := BX.out.cell 3 _ rfl
  have y7 := BX.out.cell 7 _ rfl
  go_wp2_with fail
  refine Calls.mono (rrank_any U4 pa pn pc l (HS.out.below B.out) ra rn rc r (HI.out.below B.out) ta tn tc t (HT.out.below B.out) p pr) ?_
  rintro e v5 ⟨da5, dn5, dc5, ea5, en5, ec5, ga5, gn5, gc5, rfl, hdt, x3⟩
  have XA := new_below v5 (.cells #[.slice da5 dn5 dc5, .slice ea5 en5 ec5, .slice ga5 gn5 gc5] 26)
  have x4 := chain x3 XA
  have DL5 := hide (hdt.below XA)
  have DB5 : Hid (Bl (v5.alloc (.cells #[.slice da5 dn5 dc5, .slice ea5 en5 ec5, .slice ga5 gn5 gc5] 26)) v5.heap.size [.slice da5 dn5 dc5, .slice ea5 en5 ec5, .slice ga5 gn5 gc5]) := bl_alloc v5 #[.slice da5 dn5 dc5, .slice ea5 en5 ec5, .slice ga5 gn5 gc5] 26
  have DZ5 : Hid (v5.heap.size < (v5.alloc (.cells #[.slice da5 dn5 dc5, .slice ea5 en5 ec5, .slice ga5 gn5 gc5] 26)).heap.size) := by unfold Hid; simp
  replace BX := hide (BX.out.below hz.out x4)
  replace hz : Hid (w.heap.size < (v5.alloc (.cells #[.slice da5 dn5 dc5, .slice ea5 en5 ec5, .slice ga5 gn5 gc5] 26)).heap.size) := Nat.lt_of_lt_of_le hz.out x4.size
  replace B := hide (chain B.out x4)
  replace DL0 := hide (DL0.out.below x4)
  replace DB0 := hide (DB0.out.below DZ0.out x4)
  replace DZ0 : Hid (db0 < (v5.alloc (.cells #[.slice da5 dn5 dc5, .slice ea5 en5 ec5, .slice ga5 gn5 gc5] 26)).heap.size) := Nat.lt_of_lt_of_le DZ0.out x4.size
  replace DL1 := hide (DL1.out.below x4)
  replace DB1 := hide (DB1.out.below DZ1.out x4)
  replace DZ1 : Hid (db1 < (v5.alloc (.cells #[.slice da5 dn5 dc5, .slice ea5 en5 ec5, .slice ga5 gn5 gc5] 26)).heap.size) := Nat.lt_of_lt_of_le DZ1.out x4.size
  replace DL2 := hide (DL2.out.below x4)
  replace DB2 := hide (DB2.out.below DZ2.out x4)
  replace DZ2 : Hid (db2 < (v5.alloc (.cells #[.slice da5 dn5 dc5, .slice ea5 en5 ec5, .slice ga5 gn5 gc5] 26)).heap.size) := Nat.lt_of_lt_of_le DZ2.out x4.size
  replace DL3 := hide (DL3.out.below x4)
  replace DB3 := hide (DB3.out.below DZ3.out x4)
  replace DZ3 : Hid (db3 < (v5.alloc (.cells #[.slice da5 dn5 dc5, .slice ea5 en5 ec5, .slice ga5 gn5 gc5] 26)).heap.size) := Nat.lt_of_lt_of_le DZ3.out x4.size
  replace DL4 := hide (DL4.out.below x4)
  replace DB4 := hide (DB4.out.below DZ4.out x4)
  replace DZ4 : Hid (db4 < (v5.alloc (.cells #[.slice da5 dn5 dc5, .slice ea5 en5 ec5, .slice ga5 gn5 gc5] 26)).heap.size) := Nat.lt_of_lt_of_le DZ4.out x4.size
  clear hdt XA x4 x3
  clear y0 y1 y2 y3 y7
  go_upto_region 9 with fail
  generalize (v5.alloc (.cells #[.slice da5 dn5 dc5, .slice ea5 en5 ec5, .slice ga5 gn5 gc5] 26)) = U5 at *
  generalize v5.heap.size = db5 at *
  go_cut [15, 16] from 17 (fun v15 v16 wx => ∃ gy b1 m1 d1 b2 m2 d2 b3 m3 d3, v15 = .pointer (some ⟨gy, 0, none⟩) ∧ Bl wx gy [.slice b1 m1 d1, .slice b2 m2 d2, .slice b3 m3 d3] ∧ Tab wx U5.heap.size (.slice b1 m1 d1) (.slice b2 m2 d2) (.slice b3 m3 d3) (ownT (Good l r t ∧ (OkP l p [1])) l) (ownT (Good l r t ∧ (OkP l p [1])) (yldR r p)) (ownT (Good l r t ∧ (OkP l p [1])) t) ∧ Bare E v16 (ofE (Good l r t) (OkP l p [1])) ∧ Below U5.heap.size U5 wx ∧ U5.heap.size ≤ gy ∧ gy < wx.heap.size)
  case first =>
    have C0 : Hid (Below U5.heap.size U5 U5.drew) := (Below.refl _ _).drew
    have H3 : Hid (∀ wz, Below U5.heap.size U5 wz → (fun wz => wz.cell? ⟨w.heap.size, 0, none⟩ = some (.slice pa pn pc) ∧ wz.cell? ⟨w.heap.size, 1, none⟩ = some (.slice ra rn rc) ∧ wz.cell? ⟨w.heap.size, 2, none⟩ = some (.slice ta tn tc) ∧ wz.cell? ⟨w.heap.size, 3, none⟩ = some (.int .i64 p)) wz) := fun wz hq => by
      have h1 := BX.out.below hz.out hq
      exact ⟨h1.cell 0 _ rfl, h1.cell 1 _ rfl, h1.cell 2 _ rfl, h1.cell 3 _ rfl⟩
    refine wp_region_held_drew (S := fun wz => wz.cell? ⟨w.heap.size, 0, none⟩ = some (.slice pa pn pc) ∧ wz.cell? ⟨w.heap.size, 1, none⟩ = some (.slice ra rn rc) ∧ wz.cell? ⟨w.heap.size, 2, none⟩ = some (.slice ta tn tc) ∧ wz.cell? ⟨w.heap.size, 3, none⟩ = some (.int .i64 p)) (by kernel_rfl) (H3.out _ C0.out) (fun hHeld => ?_)
    generalize U5.drew = Y0 at *
    refine wpAnyH_take (i := 0) (oi := { dst := some 84, op := Go.Op.fieldAddr 29 (Go.Operand.tmp 1) 0, type := 0, pos := "law.go:83", after := #[], guard := none }) (v := ?_) rfl (by kernel_rfl) (by kernel_rfl) (by kernel_rfl) (fun _ _ _ h => h) (Or.inl ⟨by rfl, ?_⟩) (by assumption) ?_
    rotate_left
    · intro wq hSw
      try dsimp only at hSw
      go_split_ands
      go_simp
      try with_reducible rfl
    try simp only [Act.put, List.setIfInBounds_toArray, List.set_cons_zero, List.set_cons_succ]
    refine wpAnyH_take (i := 1) (oi := { dst := some 85, op := Go.Op.load 26 (Go.Operand.tmp 84), type := 26, pos := "law.go:83", after := #[{ on := 0, ground := Go.Ground.data }], guard := none }) (v := ?_) rfl (by kernel_rfl) (by kernel_rfl) (by kernel_rfl) (fun _ _ _ h => h) (Or.inl ⟨by rfl, ?_⟩) (by assumption) ?_
    rotate_left
    · intro wq hSw
      try dsimp only at hSw
      go_split_ands
      go_simp
      try with_reducible rfl
    try simp only [Act.put, List.setIfInBounds_toArray, List.set_cons_zero, List.set_cons_succ]
    refine wpAnyH_take (i := 3) (oi := { dst := some 87, op := Go.Op.fieldAddr 29 (Go.Operand.tmp 1) 1, type := 0, pos := "law.go:83", after := #[], guard := none }) (v := ?_) rfl (by kernel_rfl) (by kernel_rfl) (by kernel_rfl) (fun _ _ _ h => h) (Or.inl ⟨by rfl, ?_⟩) (by assumption) ?_
    rotate_left
    · intro wq hSw
      try dsimp only at hSw
      go_split_ands
      go_simp
      try with_reducible rfl
    try simp only [Act.put, List.setIfInBounds_toArray, List.set_cons_zero, List.set_cons_succ]
    refine wpAnyH_take (i := 4) (oi := { dst := some 88, op := Go.Op.load 3 (Go.Operand.tmp 87), type := 3, pos := "law.go:83", after := #[{ on := 3, ground := Go.Ground.data }], guard := none }) (v := ?_) rfl (by kernel_rfl) (by kernel_rfl) (by kernel_rfl) (fun _ _ _ h => h) (Or.inl ⟨by rfl, ?_⟩) (by assumption) ?_
    rotate_left
    · intro wq hSw
      try dsimp only at hSw
      go_split_ands
      go_simp
      try with_reducible rfl
    try simp only [Act.put, List.setIfInBounds_toArray, List.set_cons_zero, List.set_cons_succ]
    refine wpAnyH_ready (rs := [2, 9]) (by kernel_rfl) (by simp) ?_
    refine AllReadyH.cons (o := { dst := some 86, op := Go.Op.call { callee := Go.Callee.value (Go.Operand.func 12), args := #[Go.Operand.tmp 85], argTypes := #[26] }, type := 37, pos := "law.go:83", after := #[{ on := 1, ground := Go.Ground.data }], guard := none }) rfl (fun K hK => ?_) (AllReadyH.cons (o := { dst := some 15, op := Go.Op.alloc 37, type := 0, pos := "law.go:83", after := #[], guard := none }) rfl (fun K hK => ?_) AllReadyH.nil)
    · go_simp
      go_at_call 12
      refine (to_any Y0 _ _ _ ⟨_, _, _, rfl⟩ ⟨_, _, _, rfl⟩ ⟨_, _, _, rfl⟩).mono ?_
      rintro e y1 ⟨rfl, bt⟩
      have C1 := hide (chain C0.out bt)
      have BTT := hide bt
      clear bt
      try go_wp2_with fail
      refine hK.out _ _ (H3.out _ C1.out) (fun hHeld2 => ?_)
      clear hK K hHeld
      have hHeld := hHeld2
      clear hHeld2
      try simp only [Act.put, List.setIfInBounds_toArray, List.set_cons_zero, List.set_cons_succ]
      refine wpAnyH_ready (rs := [5, 9]) (by kernel_rfl) (by simp) ?_
      refine AllReadyH.cons (o := { dst := some 89, op := Go.Op.call { callee := Go.Callee.value (Go.Operand.func 11), args := #[Go.Operand.tmp 86, Go.Operand.tmp 88], argTypes := #[37, 3] }, type := 40, pos := "law.go:83", after := #[{ on := 2, ground := Go.Ground.data }, { on := 4, ground := Go.Ground.data }, { on := 2, ground := Go.Ground.chain }], guard := none }) rfl (fun K hK => ?_) (AllReadyH.cons (o := { dst := some 15, op := Go.Op.alloc 37, type := 0, pos := "law.go:83", after := #[], guard := none }) rfl (fun K hK => ?_) AllReadyH.nil)
      · go_simp
        go_at_call 11
        refine (yield_any (HE.out.below (chain B.out C1.out)).er9 pa pn pc l (HS.out.below (chain B.out C1.out)) ra rn rc r (HI.out.below (chain B.out C1.out)) ta tn tc t (HT.out.below (chain B.out C1.out)) (by omega) hmr hmt p).mono ?_
        rintro e y2 ⟨b1, m1, d1, b2, m2, d2, b3, m3, d3, v, rfl, hbare, htab, bi⟩
        have HBR := hide hbare
        have HRES : Hid (Tab y2 y1.heap.size (.slice b1 m1 d1) (.slice b2 m2 d2) (.slice b3 m3 d3) (ownT (Good l r t ∧ (OkP l p [1])) l) (ownT (Good l r t ∧ (OkP l p [1])) (yldR r p)) (ownT (Good l r t ∧ (OkP l p [1])) t)) := htab
        have C2 := hide (chain C1.out bi)
        have BI := hide bi
        clear bi htab hbare
        try go_wp2_with fail
        refine hK.out _ _ (H3.out _ C2.out) (fun hHeld2 => ?_)
        clear hK K hHeld
        have hHeld := hHeld2
        clear hHeld2
        try simp only [Act.put, List.setIfInBounds_toArray, List.set_cons_zero, List.set_cons_succ]
        refine wpAnyH_take (i := 6) (oi := { dst := some 83, op := Go.Op.move (Go.Operand.tmp 89), type := 40, pos := "law.go:83", after := #[{ on := 5, ground := Go.Ground.data }], guard := none }) (v := ?_) rfl (by kernel_rfl) (by kernel_rfl) (by kernel_rfl) (fun _ _ _ h => h) (Or.inl ⟨by rfl, ?_⟩) (by assumption) ?_
        rotate_left
        · intro wq hSw
          try dsimp only at hSw
          go_split_ands
          go_simp
          try with_reducible rfl
        try simp only [Act.put, List.setIfInBounds_toArray, List.set_cons_zero, List.set_cons_succ]
        refine wpAnyH_take (i := 7) (oi := { dst := some 90, op := Go.Op.extract (Go.Operand.tmp 83) 0, type := 37, pos := "law.go:83", after := #[{ on := 6, ground := Go.Ground.data }], guard := none }) (v := ?_) rfl (by kernel_rfl) (by kernel_rfl) (by kernel_rfl) (fun _ _ _ h => h) (Or.inl ⟨by rfl, ?_⟩) (by assumption) ?_
        rotate_left
        · intro wq hSw
          try dsimp only at hSw
          go_split_ands
          go_simp
          try with_reducible rfl
        try simp only [Act.put, List.setIfInBounds_toArray, List.set_cons_zero, List.set_cons_succ]
        refine wpAnyH_take (i := 8) (oi := { dst := some 91, op := Go.Op.extract (Go.Operand.tmp 83) 1, type := 39, pos := "law.go:83", after := #[{ on := 6, ground := Go.Ground.data }, { on := 10, ground := Go.Ground.gcOnly Go.Departure.lateStores }], guard := none }) (v := ?_) rfl (by kernel_rfl) (by kernel_rfl) (by kernel_rfl) (fun _ _ _ h => h) (Or.inl ⟨by rfl, ?_⟩) (by assumption) ?_
        rotate_left
        · intro wq hSw
          try dsimp only at hSw
          go_split_ands
          go_simp
          try with_reducible rfl
        try simp only [Act.put, List.setIfInBounds_toArray, List.set_cons_zero, List.set_cons_succ]
        refine wpAnyH_ready (rs := [9]) (by kernel_rfl) (by simp) ?_
        refine AllReadyH.cons (o := { dst := some 15, op := Go.Op.alloc 37, type := 0, pos := "law.go:83", after := #[], guard := none }) rfl (fun K hK => ?_) AllReadyH.nil
        have NB := hide (bl_alloc y2 #[.slice none 0 0, .slice none 0 0, .slice none 0 0] 37)
        have PBx := hide (new_below y2 (.cells #[.slice none 0 0, .slice none 0 0, .slice none 0 0] 37))
        have ZB : Hid ((y2.alloc (.cells #[.slice none 0 0, .slice none 0 0, .slice none 0 0] 37)).heap.size = y2.heap.size + 1) := by unfold Hid; simp
        have C3 := hide (chain C2.out PBx.out)
        go_simp
        try go_wp2_with fail
        refine hK.out _ _ (H3.out _ C3.out) (fun hHeld2 => ?_)
        clear hK K hHeld
        have hHeld := hHeld2
        clear hHeld2
        try simp only [Act.put, List.setIfInBounds_toArray, List.set_cons_zero, List.set_cons_succ]
        generalize y2.alloc (.cells #[.slice none 0 0, .slice none 0 0, .slice none 0 0] 37) = y3 at *
        refine wpAnyH_ready (rs := [10]) (by kernel_rfl) (by simp) ?_
        refine AllReadyH.cons (o := { dst := none, op := Go.Op.store 37 (Go.Operand.tmp 15) (Go.Operand.tmp 90), type := 0, pos := "law.go:83", after := #[{ on := 9, ground := Go.Ground.data }, { on := 7, ground := Go.Ground.data }, { on := 5, ground := Go.Ground.chain }, { on := 0, ground := Go.Ground.phase }, { on := 1, ground := Go.Ground.phase }, { on := 2, ground := Go.Ground.phase }, { on := 3, ground := Go.Ground.phase }, { on := 4, ground := Go.Ground.phase }, { on := 5, ground := Go.Ground.phase }, { on := 6, ground := Go.Ground.phase }, { on := 7, ground := Go.Ground.phase }, { on := 8, ground := Go.Ground.textOnly Go.Departure.lateStores }, { on := 9, ground := Go.Ground.phase }], guard := none }) rfl (fun K hK => ?_) AllReadyH.nil
        have NBF := NB.out
        have g0 := NBF.cell 0 _ rfl
        have f0 := NBF.free 0
        have g1 := NBF.cell 1 _ rfl
        have f1 := NBF.free 1
        have g2 := NBF.cell 2 _ rfl
        have f2 := NBF.free 2
        go_simp
        try go_wp2_with fail
        clear g0 g1 g2 f0 f1 f2
        have FX := hide (bl_three NBF (.slice b1 m1 d1) (.slice b2 m2 d2) (.slice b3 m3 d3))
        have FB : Hid (Below U5.heap.size U5 (((y3.setCell ⟨y2.heap.size, 0, none⟩ (.slice b1 m1 d1)).setCell ⟨y2.heap.size, 1, none⟩ (.slice b2 m2 d2)).setCell ⟨y2.heap.size, 2, none⟩ (.slice b3 m3 d3))) := below3 (.slice b1 m1 d1) (.slice b2 m2 d2) (.slice b3 m3 d3) C3.out (C2.out.size)
        have FR : Hid (Tab (((y3.setCell ⟨y2.heap.size, 0, none⟩ (.slice b1 m1 d1)).setCell ⟨y2.heap.size, 1, none⟩ (.slice b2 m2 d2)).setCell ⟨y2.heap.size, 2, none⟩ (.slice b3 m3 d3)) U5.heap.size (.slice b1 m1 d1) (.slice b2 m2 d2) (.slice b3 m3 d3) (ownT (Good l r t ∧ (OkP l p [1])) l) (ownT (Good l r t ∧ (OkP l p [1])) (yldR r p)) (ownT (Good l r t ∧ (OkP l p [1])) t)) := (by have h := HRES.out; exact (tab_far3 (h.below PBx.out) (fun e => by have := (h.p.lt _ e).2; omega) (fun e => by have := (h.r.lt _ e).2; omega) (fun e => by have := (h.t.lt _ e).2; omega) _ _ _).weaken C1.out.size)
        have FZ : Hid (y2.heap.size < (((y3.setCell ⟨y2.heap.size, 0, none⟩ (.slice b1 m1 d1)).setCell ⟨y2.heap.size, 1, none⟩ (.slice b2 m2 d2)).setCell ⟨y2.heap.size, 2, none⟩ (.slice b3 m3 d3)).heap.size) := block_lt_of_cell (FX.out.cell 0 _ rfl)
        clear NBF HRES
        refine hK.out _ _ (H3.out _ FB.out) (fun hHeld2 => ?_)
        clear hK K hHeld
        have hHeld := hHeld2
        clear hHeld2
        generalize (((y3.setCell ⟨y2.heap.size, 0, none⟩ (.slice b1 m1 d1)).setCell ⟨y2.heap.size, 1, none⟩ (.slice b2 m2 d2)).setCell ⟨y2.heap.size, 2, none⟩ (.slice b3 m3 d3)) = WF at *
        try simp only [Act.put, List.setIfInBounds_toArray, List.set_cons_zero, List.set_cons_succ]
        refine wpAnyH_take (i := 11) (oi := { dst := some 16, op := Go.Op.assign (Go.Operand.tmp 91), type := 39, pos := "law.go:83", after := #[{ on := 8, ground := Go.Ground.data }, { on := 10, ground := Go.Ground.chain }, { on := 0, ground := Go.Ground.phase }, { on := 1, ground := Go.Ground.phase }, { on := 2, ground := Go.Ground.phase }, { on := 3, ground := Go.Ground.phase }, { on := 4, ground := Go.Ground.phase }, { on := 5, ground := Go.Ground.phase }, { on := 6, ground := Go.Ground.phase }, { on := 7, ground := Go.Ground.phase }, { on := 8, ground := Go.Ground.phase }, { on := 9, ground := Go.Ground.phase }, { on := 10, ground := Go.Ground.phase }], guard := none }) (v := ?_) rfl (by kernel_rfl) (by kernel_rfl) (by kernel_rfl) (fun _ _ _ h => h) (Or.inl ⟨by rfl, ?_⟩) (by assumption) ?_
        rotate_left
        · intro wq hSw
          try dsimp only at hSw
          go_split_ands
          go_simp
          try with_reducible rfl
        try simp only [Act.put, List.setIfInBounds_toArray, List.set_cons_zero, List.set_cons_succ]
        refine wpAnyH_done (by kernel_rfl) ?_ _
        go_wp2
        go_meet
        case rel => exact ⟨_, _, _, _, _, _, _, _, _, _, rfl, FX.out, FR.out, HBR.out, FB.out, C2.out.size, FZ.out⟩
      · have NB := hide (bl_alloc y1 #[.slice none 0 0, .slice none 0 0, .slice none 0 0] 37)
        have PBx := hide (new_below y1 (.cells #[.slice none 0 0, .slice none 0 0, .slice none 0 0] 37))
        have ZB : Hid ((y1.alloc (.cells #[.slice none 0 0, .slice none 0 0, .slice none 0 0] 37)).heap.size = y1.heap.size + 1) := by unfold Hid; simp
        have C2 := hide (chain C1.out PBx.out)
        go_simp
        try go_wp2_with fail
        refine hK.out _ _ (H3.out _ C2.out) (fun hHeld2 => ?_)
        clear hK K hHeld
        have hHeld := hHeld2
        clear hHeld2
        try simp only [Act.put, List.setIfInBounds_toArray, List.set_cons_zero, List.set_cons_succ]
        generalize y1.alloc (.cells #[.slice none 0 0, .slice none 0 0, .slice none 0 0] 37) = y2 at *
        refine wpAnyH_ready (rs := [5]) (by kernel_rfl) (by simp) ?_
        refine AllReadyH.cons (o := { dst := some 89, op := Go.Op.call { callee := Go.Callee.value (Go.Operand.func 11), args := #[Go.Operand.tmp 86, Go.Operand.tmp 88], argTypes := #[37, 3] }, type := 40, pos := "law.go:83", after := #[{ on := 2, ground := Go.Ground.data }, { on := 4, ground := Go.Ground.data }, { on := 2, ground := Go.Ground.chain }], guard := none }) rfl (fun K hK => ?_) AllReadyH.nil
        go_simp
        go_at_call 11
        refine (yield_any (HE.out.below (chain B.out C2.out)).er9 pa pn pc l (HS.out.below (chain B.out C2.out)) ra rn rc r (HI.out.below (chain B.out C2.out)) ta tn tc t (HT.out.below (chain B.out C2.out)) (by omega) hmr hmt p).mono ?_
        rintro e y3 ⟨b1, m1, d1, b2, m2, d2, b3, m3, d3, v, rfl, hbare, htab, bi⟩
        have HBR := hide hbare
        have HRES : Hid (Tab y3 y2.heap.size (.slice b1 m1 d1) (.slice b2 m2 d2) (.slice b3 m3 d3) (ownT (Good l r t ∧ (OkP l p [1])) l) (ownT (Good l r t ∧ (OkP l p [1])) (yldR r p)) (ownT (Good l r t ∧ (OkP l p [1])) t)) := htab
        have C3 := hide (chain C2.out bi)
        have BI := hide bi
        clear bi htab hbare
        try go_wp2_with fail
        refine hK.out _ _ (H3.out _ C3.out) (fun hHeld2 => ?_)
        clear hK K hHeld
        have hHeld := hHeld2
        clear hHeld2
        try simp only [Act.put, List.setIfInBounds_toArray, List.set_cons_zero, List.set_cons_succ]
        refine wpAnyH_take (i := 6) (oi := { dst := some 83, op := Go.Op.move (Go.Operand.tmp 89), type := 40, pos := "law.go:83", after := #[{ on := 5, ground := Go.Ground.data }], guard := none }) (v := ?_) rfl (by kernel_rfl) (by kernel_rfl) (by kernel_rfl) (fun _ _ _ h => h) (Or.inl ⟨by rfl, ?_⟩) (by assumption) ?_
        rotate_left
        · intro wq hSw
          try dsimp only at hSw
          go_split_ands
          go_simp
          try with_reducible rfl
        try simp only [Act.put, List.setIfInBounds_toArray, List.set_cons_zero, List.set_cons_succ]
        refine wpAnyH_take (i := 7) (oi := { dst := some 90, op := Go.Op.extract (Go.Operand.tmp 83) 0, type := 37, pos := "law.go:83", after := #[{ on := 6, ground := Go.Ground.data }], guard := none }) (v := ?_) rfl (by kernel_rfl) (by kernel_rfl) (by kernel_rfl) (fun _ _ _ h => h) (Or.inl ⟨by rfl, ?_⟩) (by assumption) ?_
        rotate_left
        · intro wq hSw
          try dsimp only at hSw
          go_split_ands
          go_simp
          try with_reducible rfl
        try simp only [Act.put, List.setIfInBounds_toArray, List.set_cons_zero, List.set_cons_succ]
        refine wpAnyH_take (i := 8) (oi := { dst := some 91, op := Go.Op.extract (Go.Operand.tmp 83) 1, type := 39, pos := "law.go:83", after := #[{ on := 6, ground := Go.Ground.data }, { on := 10, ground := Go.Ground.gcOnly Go.Departure.lateStores }], guard := none }) (v := ?_) rfl (by kernel_rfl) (by kernel_rfl) (by kernel_rfl) (fun _ _ _ h => h) (Or.inl ⟨by rfl, ?_⟩) (by assumption) ?_
        rotate_left
        · intro wq hSw
          try dsimp only at hSw
          go_split_ands
          go_simp
          try with_reducible rfl
        try simp only [Act.put, List.setIfInBounds_toArray, List.set_cons_zero, List.set_cons_succ]
        refine wpAnyH_ready (rs := [10]) (by kernel_rfl) (by simp) ?_
        refine AllReadyH.cons (o := { dst := none, op := Go.Op.store 37 (Go.Operand.tmp 15) (Go.Operand.tmp 90), type := 0, pos := "law.go:83", after := #[{ on := 9, ground := Go.Ground.data }, { on := 7, ground := Go.Ground.data }, { on := 5, ground := Go.Ground.chain }, { on := 0, ground := Go.Ground.phase }, { on := 1, ground := Go.Ground.phase }, { on := 2, ground := Go.Ground.phase }, { on := 3, ground := Go.Ground.phase }, { on := 4, ground := Go.Ground.phase }, { on := 5, ground := Go.Ground.phase }, { on := 6, ground := Go.Ground.phase }, { on := 7, ground := Go.Ground.phase }, { on := 8, ground := Go.Ground.textOnly Go.Departure.lateStores }, { on := 9, ground := Go.Ground.phase }], guard := none }) rfl (fun K hK => ?_) AllReadyH.nil
        have NBF := (NB.out.below (by have := ZB.out; omega) BI.out)
        have g0 := NBF.cell 0 _ rfl
        have f0 := NBF.free 0
        have g1 := NBF.cell 1 _ rfl
        have f1 := NBF.free 1
        have g2 := NBF.cell 2 _ rfl
        have f2 := NBF.free 2
        go_simp
        try go_wp2_with fail
        clear g0 g1 g2 f0 f1 f2
        have FX := hide (bl_three NBF (.slice b1 m1 d1) (.slice b2 m2 d2) (.slice b3 m3 d3))
        have FB : Hid (Below U5.heap.size U5 (((y3.setCell ⟨y1.heap.size, 0, none⟩ (.slice b1 m1 d1)).setCell ⟨y1.heap.size, 1, none⟩ (.slice b2 m2 d2)).setCell ⟨y1.heap.size, 2, none⟩ (.slice b3 m3 d3))) := below3 (.slice b1 m1 d1) (.slice b2 m2 d2) (.slice b3 m3 d3) C3.out (C1.out.size)
        have FR : Hid (Tab (((y3.setCell ⟨y1.heap.size, 0, none⟩ (.slice b1 m1 d1)).setCell ⟨y1.heap.size, 1, none⟩ (.slice b2 m2 d2)).setCell ⟨y1.heap.size, 2, none⟩ (.slice b3 m3 d3)) U5.heap.size (.slice b1 m1 d1) (.slice b2 m2 d2) (.slice b3 m3 d3) (ownT (Good l r t ∧ (OkP l p [1])) l) (ownT (Good l r t ∧ (OkP l p [1])) (yldR r p)) (ownT (Good l r t ∧ (OkP l p [1])) t)) := (by have h := HRES.out; exact (h.three (by have := ZB.out; omega) _ _ _).weaken C2.out.size)
        have FZ : Hid (y1.heap.size < (((y3.setCell ⟨y1.heap.size, 0, none⟩ (.slice b1 m1 d1)).setCell ⟨y1.heap.size, 1, none⟩ (.slice b2 m2 d2)).setCell ⟨y1.heap.size, 2, none⟩ (.slice b3 m3 d3)).heap.size) := block_lt_of_cell (FX.out.cell 0 _ rfl)
        clear NBF HRES
        refine hK.out _ _ (H3.out _ FB.out) (fun hHeld2 => ?_)
        clear hK K hHeld
        have hHeld := hHeld2
        clear hHeld2
        generalize (((y3.setCell ⟨y1.heap.size, 0, none⟩ (.slice b1 m1 d1)).setCell ⟨y1.heap.size, 1, none⟩ (.slice b2 m2 d2)).setCell ⟨y1.heap.size, 2, none⟩ (.slice b3 m3 d3)) = WF at *
        try simp only [Act.put, List.setIfInBounds_toArray, List.set_cons_zero, List.set_cons_succ]
        refine wpAnyH_take (i := 11) (oi := { dst := some 16, op := Go.Op.assign (Go.Operand.tmp 91), type := 39, pos := "law.go:83", after := #[{ on := 8, ground := Go.Ground.data }, { on := 10, ground := Go.Ground.chain }, { on := 0, ground := Go.Ground.phase }, { on := 1, ground := Go.Ground.phase }, { on := 2, ground := Go.Ground.phase }, { on := 3, ground := Go.Ground.phase }, { on := 4, ground := Go.Ground.phase }, { on := 5, ground := Go.Ground.phase }, { on := 6, ground := Go.Ground.phase }, { on := 7, ground := Go.Ground.phase }, { on := 8, ground := Go.Ground.phase }, { on := 9, ground := Go.Ground.phase }, { on := 10, ground := Go.Ground.phase }], guard := none }) (v := ?_) rfl (by kernel_rfl) (by kernel_rfl) (by kernel_rfl) (fun _ _ _ h => h) (Or.inl ⟨by rfl, ?_⟩) (by assumption) ?_
        rotate_left
        · intro wq hSw
          try dsimp only at hSw
          go_split_ands
          go_simp
          try with_reducible rfl
        try simp only [Act.put, List.setIfInBounds_toArray, List.set_cons_zero, List.set_cons_succ]
        refine wpAnyH_done (by kernel_rfl) ?_ _
        go_wp2
        go_meet
        case rel => exact ⟨_, _, _, _, _, _, _, _, _, _, rfl, FX.out, FR.out, HBR.out, FB.out, C1.out.size, FZ.out⟩
    · have NB := hide (bl_alloc Y0 #[.slice none 0 0, .slice none 0 0, .slice none 0 0] 37)
      have PBx := hide (new_below Y0 (.cells #[.slice none 0 0, .slice none 0 0, .slice none 0 0] 37))
      have ZB : Hid ((Y0.alloc (.cells #[.slice none 0 0, .slice none 0 0, .slice none 0 0] 37)).heap.size = Y0.heap.size + 1) := by unfold Hid; simp
      have C1 := hide (chain C0.out PBx.out)
      go_simp
      try go_wp2_with fail
      refine hK.out _ _ (H3.out _ C1.out) (fun hHeld2 => ?_)
      clear hK K hHeld
      have hHeld := hHeld2
      clear hHeld2
      try simp only [Act.put, List.setIfInBounds_toArray, List.set_cons_zero, List.set_cons_succ]
      generalize Y0.alloc (.cells #[.slice none 0 0, .slice none 0 0, .slice none 0 0] 37) = y1 at *
      refine wpAnyH_ready (rs := [2]) (by kernel_rfl) (by simp) ?_
      refine AllReadyH.cons (o := { dst := some 86, op := Go.Op.call { callee := Go.Callee.value (Go.Operand.func 12), args := #[Go.Operand.tmp 85], argTypes := #[26] }, type := 37, pos := "law.go:83", after := #[{ on := 1, ground := Go.Ground.data }], guard := none }) rfl (fun K hK => ?_) AllReadyH.nil
      go_simp
      go_at_call 12
      refine (to_any y1 _ _ _ ⟨_, _, _, rfl⟩ ⟨_, _, _, rfl⟩ ⟨_, _, _, rfl⟩).mono ?_
      rintro e y2 ⟨rfl, bt⟩
      have C2 := hide (chain C1.out bt)
      have BTT := hide bt
      clear bt
      try go_wp2_with fail
      refine hK.out _ _ (H3.out _ C2.out) (fun hHeld2 => ?_)
      clear hK K hHeld
      have hHeld := hHeld2
      clear hHeld2
      try simp only [Act.put, List.setIfInBounds_toArray, List.set_cons_zero, List.set_cons_succ]
      refine wpAnyH_ready (rs := [5]) (by kernel_rfl) (by simp) ?_
      refine AllReadyH.cons (o := { dst := some 89, op := Go.Op.call { callee := Go.Callee.value (Go.Operand.func 11), args := #[Go.Operand.tmp 86, Go.Operand.tmp 88], argTypes := #[37, 3] }, type := 40, pos := "law.go:83", after := #[{ on := 2, ground := Go.Ground.data }, { on := 4, ground := Go.Ground.data }, { on := 2, ground := Go.Ground.chain }], guard := none }) rfl (fun K hK => ?_) AllReadyH.nil
      go_simp
      go_at_call 11
      refine (yield_any (HE.out.below (chain B.out C2.out)).er9 pa pn pc l (HS.out.below (chain B.out C2.out)) ra rn rc r (HI.out.below (chain B.out C2.out)) ta tn tc t (HT.out.below (chain B.out C2.out)) (by omega) hmr hmt p).mono ?_
      rintro e y3 ⟨b1, m1, d1, b2, m2, d2, b3, m3, d3, v, rfl, hbare, htab, bi⟩
      have HBR := hide hbare
      have HRES : Hid (Tab y3 y2.heap.size (.slice b1 m1 d1) (.slice b2 m2 d2) (.slice b3 m3 d3) (ownT (Good l r t ∧ (OkP l p [1])) l) (ownT (Good l r t ∧ (OkP l p [1])) (yldR r p)) (ownT (Good l r t ∧ (OkP l p [1])) t)) := htab
      have C3 := hide (chain C2.out bi)
      have BI := hide bi
      clear bi htab hbare
      try go_wp2_with fail
      refine hK.out _ _ (H3.out _ C3.out) (fun hHeld2 => ?_)
      clear hK K hHeld
      have hHeld := hHeld2
      clear hHeld2
      try simp only [Act.put, List.setIfInBounds_toArray, List.set_cons_zero, List.set_cons_succ]
      refine wpAnyH_take (i := 6) (oi := { dst := some 83, op := Go.Op.move (Go.Operand.tmp 89), type := 40, pos := "law.go:83", after := #[{ on := 5, ground := Go.Ground.data }], guard := none }) (v := ?_) rfl (by kernel_rfl) (by kernel_rfl) (by kernel_rfl) (fun _ _ _ h => h) (Or.inl ⟨by rfl, ?_⟩) (by assumption) ?_
      rotate_left
      · intro wq hSw
        try dsimp only at hSw
        go_split_ands
        go_simp
        try with_reducible rfl
      try simp only [Act.put, List.setIfInBounds_toArray, List.set_cons_zero, List.set_cons_succ]
      refine wpAnyH_take (i := 7) (oi := { dst := some 90, op := Go.Op.extract (Go.Operand.tmp 83) 0, type := 37, pos := "law.go:83", after := #[{ on := 6, ground := Go.Ground.data }], guard := none }) (v := ?_) rfl (by kernel_rfl) (by kernel_rfl) (by kernel_rfl) (fun _ _ _ h => h) (Or.inl ⟨by rfl, ?_⟩) (by assumption) ?_
      rotate_left
      · intro wq hSw
        try dsimp only at hSw
        go_split_ands
        go_simp
        try with_reducible rfl
      try simp only [Act.put, List.setIfInBounds_toArray, List.set_cons_zero, List.set_cons_succ]
      refine wpAnyH_take (i := 8) (oi := { dst := some 91, op := Go.Op.extract (Go.Operand.tmp 83) 1, type := 39, pos := "law.go:83", after := #[{ on := 6, ground := Go.Ground.data }, { on := 10, ground := Go.Ground.gcOnly Go.Departure.lateStores }], guard := none }) (v := ?_) rfl (by kernel_rfl) (by kernel_rfl) (by kernel_rfl) (fun _ _ _ h => h) (Or.inl ⟨by rfl, ?_⟩) (by assumption) ?_
      rotate_left
      · intro wq hSw
        try dsimp only at hSw
        go_split_ands
        go_simp
        try with_reducible rfl
      try simp only [Act.put, List.setIfInBounds_toArray, List.set_cons_zero, List.set_cons_succ]
      refine wpAnyH_ready (rs := [10]) (by kernel_rfl) (by simp) ?_
      refine AllReadyH.cons (o := { dst := none, op := Go.Op.store 37 (Go.Operand.tmp 15) (Go.Operand.tmp 90), type := 0, pos := "law.go:83", after := #[{ on := 9, ground := Go.Ground.data }, { on := 7, ground := Go.Ground.data }, { on := 5, ground := Go.Ground.chain }, { on := 0, ground := Go.Ground.phase }, { on := 1, ground := Go.Ground.phase }, { on := 2, ground := Go.Ground.phase }, { on := 3, ground := Go.Ground.phase }, { on := 4, ground := Go.Ground.phase }, { on := 5, ground := Go.Ground.phase }, { on := 6, ground := Go.Ground.phase }, { on := 7, ground := Go.Ground.phase }, { on := 8, ground := Go.Ground.textOnly Go.Departure.lateStores }, { on := 9, ground := Go.Ground.phase }], guard := none }) rfl (fun K hK => ?_) AllReadyH.nil
      have NBF := ((NB.out.below (by have := ZB.out; omega) BTT.out).below (by have := ZB.out; have := BTT.out.size; omega) BI.out)
      have g0 := NBF.cell 0 _ rfl
      have f0 := NBF.free 0
      have g1 := NBF.cell 1 _ rfl
      have f1 := NBF.free 1
      have g2 := NBF.cell 2 _ rfl
      have f2 := NBF.free 2
      go_simp
      try go_wp2_with fail
      clear g0 g1 g2 f0 f1 f2
      have FX := hide (bl_three NBF (.slice b1 m1 d1) (.slice b2 m2 d2) (.slice b3 m3 d3))
      have FB : Hid (Below U5.heap.size U5 (((y3.setCell ⟨Y0.heap.size, 0, none⟩ (.slice b1 m1 d1)).setCell ⟨Y0.heap.size, 1, none⟩ (.slice b2 m2 d2)).setCell ⟨Y0.heap.size, 2, none⟩ (.slice b3 m3 d3))) := below3 (.slice b1 m1 d1) (.slice b2 m2 d2) (.slice b3 m3 d3) C3.out (C0.out.size)
      have FR : Hid (Tab (((y3.setCell ⟨Y0.heap.size, 0, none⟩ (.slice b1 m1 d1)).setCell ⟨Y0.heap.size, 1, none⟩ (.slice b2 m2 d2)).setCell ⟨Y0.heap.size, 2, none⟩ (.slice b3 m3 d3)) U5.heap.size (.slice b1 m1 d1) (.slice b2 m2 d2) (.slice b3 m3 d3) (ownT (Good l r t ∧ (OkP l p [1])) l) (ownT (Good l r t ∧ (OkP l p [1])) (yldR r p)) (ownT (Good l r t ∧ (OkP l p [1])) t)) := (by have h := HRES.out; exact (h.three (by have := ZB.out; have := BTT.out.size; omega) _ _ _).weaken C2.out.size)
      have FZ : Hid (Y0.heap.size < (((y3.setCell ⟨Y0.heap.size, 0, none⟩ (.slice b1 m1 d1)).setCell ⟨Y0.heap.size, 1, none⟩ (.slice b2 m2 d2)).setCell ⟨Y0.heap.size, 2, none⟩ (.slice b3 m3 d3)).heap.size) := block_lt_of_cell (FX.out.cell 0 _ rfl)
      clear NBF HRES
      refine hK.out _ _ (H3.out _ FB.out) (fun hHeld2 => ?_)
      clear hK K hHeld
      have hHeld := hHeld2
      clear hHeld2
      generalize (((y3.setCell ⟨Y0.heap.size, 0, none⟩ (.slice b1 m1 d1)).setCell ⟨Y0.heap.size, 1, none⟩ (.slice b2 m2 d2)).setCell ⟨Y0.heap.size, 2, none⟩ (.slice b3 m3 d3)) = WF at *
      try simp only [Act.put, List.setIfInBounds_toArray, List.set_cons_zero, List.set_cons_succ]
      refine wpAnyH_take (i := 11) (oi := { dst := some 16, op := Go.Op.assign (Go.Operand.tmp 91), type := 39, pos := "law.go:83", after := #[{ on := 8, ground := Go.Ground.data }, { on := 10, ground := Go.Ground.chain }, { on := 0, ground := Go.Ground.phase }, { on := 1, ground := Go.Ground.phase }, { on := 2, ground := Go.Ground.phase }, { on := 3, ground := Go.Ground.phase }, { on := 4, ground := Go.Ground.phase }, { on := 5, ground := Go.Ground.phase }, { on := 6, ground := Go.Ground.phase }, { on := 7, ground := Go.Ground.phase }, { on := 8, ground := Go.Ground.phase }, { on := 9, ground := Go.Ground.phase }, { on := 10, ground := Go.Ground.phase }], guard := none }) (v := ?_) rfl (by kernel_rfl) (by kernel_rfl) (by kernel_rfl) (fun _ _ _ h => h) (Or.inl ⟨by rfl, ?_⟩) (by assumption) ?_
      rotate_left
      · intro wq hSw
        try dsimp only at hSw
        go_split_ands
        go_simp
        try with_reducible rfl
      try simp only [Act.put, List.setIfInBounds_toArray, List.set_cons_zero, List.set_cons_succ]
      refine wpAnyH_done (by kernel_rfl) ?_ _
      go_wp2
      go_meet
      case rel => exact ⟨_, _, _, _, _, _, _, _, _, _, rfl, FX.out, FR.out, HBR.out, FB.out, C0.out.size, FZ.out⟩
  case rest =>
    obtain ⟨tb, ua1, un1, uc1, ua2, un2, uc2, ua3, un3, uc3, rfl, hbt, htab, hbare, hb2, hg1, hg2⟩ := hcut
    obtain ⟨w30, hw30⟩ : ∃ z, z = wc := ⟨_, rfl⟩
    subst hw30
    obtain ⟨uv, huv⟩ : ∃ z, z = u16 := ⟨_, rfl⟩
    subst huv
    have UL := hide htab
    have HUV := hide hbare
    have TBB := hide hbt
    have TWN : Hid (w.heap.size < tb) := Nat.lt_of_lt_of_le hz.out hg1
    have HTW : Hid (tb ≠ w.heap.size) := by have := TWN.out; unfold Hid; omega
    have DF0 : Hid ((Value.slice da0 dn0 dc0).ownBlock ≠ some tb ∧ (Value.slice ea0 en0 ec0).ownBlock ≠ some tb ∧ (Value.slice ga0 gn0 gc0).ownBlock ≠ some tb) := ⟨fun e => by have := (DL0.out.p.lt _ e).2; omega, fun e => by have := (DL0.out.r.lt _ e).2; omega, fun e => by have := (DL0.out.t.lt _ e).2; omega⟩
    have DF1 : Hid ((Value.slice da1 dn1 dc1).ownBlock ≠ some tb ∧ (Value.slice ea1 en1 ec1).ownBlock ≠ some tb ∧ (Value.slice ga1 gn1 gc1).ownBlock ≠ some tb) := ⟨fun e => by have := (DL1.out.p.lt _ e).2; omega, fun e => by have := (DL1.out.r.lt _ e).2; omega, fun e => by have := (DL1.out.t.lt _ e).2; omega⟩
    have DF2 : Hid ((Value.slice da2 dn2 dc2).ownBlock ≠ some tb ∧ (Value.slice ea2 en2 ec2).ownBlock ≠ some tb ∧ (Value.slice ga2 gn2 gc2).ownBlock ≠ some tb) := ⟨fun e => by have := (DL2.out.p.lt _ e).2; omega, fun e => by have := (DL2.out.r.lt _ e).2; omega, fun e => by have := (DL2.out.t.lt _ e).2; omega⟩
    have DF3 : Hid ((Value.slice da3 dn3 dc3).ownBlock ≠ some tb ∧ (Value.slice ea3 en3 ec3).ownBlock ≠ some tb ∧ (Value.slice ga3 gn3 gc3).ownBlock ≠ some tb) := ⟨fun e => by have := (DL3.out.p.lt _ e).2; omega, fun e => by have := (DL3.out.r.lt _ e).2; omega, fun e => by have := (DL3.out.t.lt _ e).2; omega⟩
    have DF4 : Hid ((Value.slice da4 dn4 dc4).ownBlock ≠ some tb ∧ (Value.slice ea4 en4 ec4).ownBlock ≠ some tb ∧ (Value.slice ga4 gn4 gc4).ownBlock ≠ some tb) := ⟨fun e => by have := (DL4.out.p.lt _ e).2; omega, fun e => by have := (DL4.out.r.lt _ e).2; omega, fun e => by have := (DL4.out.t.lt _ e).2; omega⟩
    have DF5 : Hid ((Value.slice da5 dn5 dc5).ownBlock ≠ some tb ∧ (Value.slice ea5 en5 ec5).ownBlock ≠ some tb ∧ (Value.slice ga5 gn5 gc5).ownBlock ≠ some tb) := ⟨fun e => by have := (DL5.out.p.lt _ e).2; omega, fun e => by have := (DL5.out.r.lt _ e).2; omega, fun e => by have := (DL5.out.t.lt _ e).2; omega⟩
    have TD0 : Hid (db0 ≠ tb) := by have h1 := DZ0.out; unfold Hid; omega
    have TD1 : Hid (db1 ≠ tb) := by have h1 := DZ1.out; unfold Hid; omega
    have TD2 : Hid (db2 ≠ tb) := by have h1 := DZ2.out; unfold Hid; omega
    have TD3 : Hid (db3 ≠ tb) := by have h1 := DZ3.out; unfold Hid; omega
    have TD4 : Hid (db4 ≠ tb) := by have h1 := DZ4.out; unfold Hid; omega
    have TD5 : Hid (db5 ≠ tb) := by have h1 := DZ5.out; unfold Hid; omega
    replace BX := hide (BX.out.below hz.out hb2)
    replace hz : Hid (w.heap.size < w30.heap.size) := Nat.lt_of_lt_of_le hz.out hb2.size
    replace B := hide (chain B.out hb2)
    replace DL0 := hide (DL0.out.below hb2)
    replace DB0 := hide (DB0.out.below DZ0.out hb2)
    replace DZ0 : Hid (db0 < w30.heap.size) := Nat.lt_of_lt_of_le DZ0.out hb2.size
    replace DL1 := hide (DL1.out.below hb2)
    replace DB1 := hide (DB1.out.below DZ1.out hb2)
    replace DZ1 : Hid (db1 < w30.heap.size) := Nat.lt_of_lt_of_le DZ1.out hb2.size
    replace DL2 := hide (DL2.out.below hb2)
    replace DB2 := hide (DB2.out.below DZ2.out hb2)
    replace DZ2 : Hid (db2 < w30.heap.size) := Nat.lt_of_lt_of_le DZ2.out hb2.size
    replace DL3 := hide (DL3.out.below hb2)
    replace DB3 := hide (DB3.out.below DZ3.out hb2)
    replace DZ3 : Hid (db3 < w30.heap.size) := Nat.lt_of_lt_of_le DZ3.out hb2.size
    replace DL4 := hide (DL4.out.below hb2)
    replace DB4 := hide (DB4.out.below DZ4.out hb2)
    replace DZ4 : Hid (db4 < w30.heap.size) := Nat.lt_of_lt_of_le DZ4.out hb2.size
    replace DL5 := hide (DL5.out.below hb2)
    replace DB5 := hide (DB5.out.below DZ5.out hb2)
    replace DZ5 : Hid (db5 < w30.heap.size) := Nat.lt_of_lt_of_le DZ5.out hb2.size
    have TZ := hide hg2
    clear hbt htab hbare hb2 hg1 hg2
    have UQ := hide (tab_lists UL.out)
    have DQ := hide (tab_lists DL0.out)
    obtain rfl : un1 = dn0 := by rw [← UQ.out.1.size, ← DQ.out.1.size]
    obtain rfl : un2 = en0 := by rw [← UQ.out.2.1.size, ← DQ.out.2.1.size]
    obtain rfl : un3 = gn0 := by rw [← UQ.out.2.2.size, ← DQ.out.2.2.size]
    have HFW : Hid (un1 ≤ 1000 ∧ un2 ≤ 1000 ∧ un3 ≤ 1000) := by
      have h := mv_few0 l r t p 
      have s1 := UQ.out.1.size
      have s2 := UQ.out.2.1.size
      have s3 := UQ.out.2.2.size
      exact ⟨by omega, by omega, by omega⟩
    have u0 := TBB.out.cell 0 _ rfl
    have u1 := TBB.out.cell 1 _ rfl
    have u2 := TBB.out.cell 2 _ rfl
    have v0' := DB0.out.cell 0 _ rfl
    have v1' := DB0.out.cell 1 _ rfl
    have v2' := DB0.out.cell 2 _ rfl
    go_wp2_with fail
    refine Calls.mono (same_any (HE.out.below B.out) uv (ofE (Good l r t) (OkP l p [1])) HUV.out _ _ _ _ UQ.out.1 _ _ _ _ UQ.out.2.1 _ _ _ _ UQ.out.2.2 _ _ DQ.out.1 _ _ DQ.out.2.1 _ _ DQ.out.2.2 HFW.out.1 HFW.out.2.1 HFW.out.2.2) ?_
    rintro e s0 ⟨rfl, xs⟩
    replace BX := hide (BX.out.below hz.out xs)
    replace hz : Hid (w.heap.size < s0.heap.size) := Nat.lt_of_lt_of_le hz.out xs.size
    replace B := hide (chain B.out xs)
    replace DL1 := hide (DL1.out.below xs)
    replace DB1 := hide (DB1.out.below DZ1.out xs)
    replace DZ1 : Hid (db1 < s0.heap.size) := Nat.lt_of_lt_of_le DZ1.out xs.size
    replace DL2 := hide (DL2.out.below xs)
    replace DB2 := hide (DB2.out.below DZ2.out xs)
    replace DZ2 : Hid (db2 < s0.heap.size) := Nat.lt_of_lt_of_le DZ2.out xs.size
    replace DL3 := hide (DL3.out.below xs)
    replace DB3 := hide (DB3.out.below DZ3.out xs)
    replace DZ3 : Hid (db3 < s0.heap.size) := Nat.lt_of_lt_of_le DZ3.out xs.size
    replace DL4 := hide (DL4.out.below xs)
    replace DB4 := hide (DB4.out.below DZ4.out xs)
    replace DZ4 : Hid (db4 < s0.heap.size) := Nat.lt_of_lt_of_le DZ4.out xs.size
    replace DL5 := hide (DL5.out.below xs)
    replace DB5 := hide (DB5.out.below DZ5.out xs)
    replace DZ5 : Hid (db5 < s0.heap.size) := Nat.lt_of_lt_of_le DZ5.out xs.size
    replace TBB := hide (TBB.out.below TZ.out xs)
    replace TZ : Hid (tb < s0.heap.size) := Nat.lt_of_lt_of_le TZ.out xs.size
    clear xs u0 u1 u2 v0' v1' v2' UQ DQ UL HUV HFW DL0 DB0 DZ0 TD0 DF0
    go_upto_region 12 with fail
    have HC : Hid (∀ wz, Below s0.heap.size s0 wz → (fun wz => wz.cell? ⟨w.heap.size, 0, none⟩ = some (.slice pa pn pc) ∧ wz.cell? ⟨w.heap.size, 1, none⟩ = some (.slice ra rn rc) ∧ wz.cell? ⟨w.heap.size, 2, none⟩ = some (.slice ta tn tc) ∧ wz.cell? ⟨w.heap.size, 3, none⟩ = some (.int .i64 p) ∧ wz.cell? ⟨w.heap.size, 4, none⟩ = some (.int .i64 wt) ∧ wz.cell? ⟨w.heap.size, 5, none⟩ = some (.int .i64 ob) ∧ wz.cell? ⟨w.heap.size, 6, none⟩ = some (.int .i64 du)) wz) := fun wz hq => by
      have h1 := BX.out.below hz.out hq
      exact ⟨h1.cell 0 _ rfl, h1.cell 1 _ rfl, h1.cell 2 _ rfl, h1.cell 3 _ rfl, h1.cell 4 _ rfl, h1.cell 5 _ rfl, h1.cell 6 _ rfl⟩
    have HW := hide (Below.refl s0.heap.size s0)
    have HCS : Hid (∀ wz, Below s0.heap.size s0 wz → ∀ u v z, (fun wz => wz.cell? ⟨w.heap.size, 0, none⟩ = some (.slice pa pn pc) ∧ wz.cell? ⟨w.heap.size, 1, none⟩ = some (.slice ra rn rc) ∧ wz.cell? ⟨w.heap.size, 2, none⟩ = some (.slice ta tn tc) ∧ wz.cell? ⟨w.heap.size, 3, none⟩ = some (.int .i64 p) ∧ wz.cell? ⟨w.heap.size, 4, none⟩ = some (.int .i64 wt) ∧ wz.cell? ⟨w.heap.size, 5, none⟩ = some (.int .i64 ob) ∧ wz.cell? ⟨w.heap.size, 6, none⟩ = some (.int .i64 du)) (((wz.setCell ⟨tb, 0, none⟩ u).setCell ⟨tb, 1, none⟩ v).setCell ⟨tb, 2, none⟩ z)) := fun wz hq u v z => by
      have h1 := (((BX.out.below hz.out hq).far (g' := tb) (k := 0) (u := u) HTW.out).far (g' := tb) (k := 1) (u := v) HTW.out).far (g' := tb) (k := 2) (u := z) HTW.out
      exact ⟨h1.cell 0 _ rfl, h1.cell 1 _ rfl, h1.cell 2 _ rfl, h1.cell 3 _ rfl, h1.cell 4 _ rfl, h1.cell 5 _ rfl, h1.cell 6 _ rfl⟩
    go_region_held3 (fun wz => wz.cell? ⟨w.heap.size, 0, none⟩ = some (.slice pa pn pc) ∧ wz.cell? ⟨w.heap.size, 1, none⟩ = some (.slice ra rn rc) ∧ wz.cell? ⟨w.heap.size, 2, none⟩ = some (.slice ta tn tc) ∧ wz.cell? ⟨w.heap.size, 3, none⟩ = some (.int .i64 p) ∧ wz.cell? ⟨w.heap.size, 4, none⟩ = some (.int .i64 wt) ∧ wz.cell? ⟨w.heap.size, 5, none⟩ = some (.int .i64 ob) ∧ wz.cell? ⟨w.heap.size, 6, none⟩ = some (.int .i64 du))
      (first | exact HC.out _ HW.out | exact HC.out _ HW.out.drew | exact HCS.out _ HW.out _ _ _)
      (first
        | (go_at_call 12; refine (to_any _ _ _ _ ⟨_, _, _, rfl⟩ ⟨_, _, _, rfl⟩ ⟨_, _, _, rfl⟩).mono ?_; rintro e wf ⟨rfl, bf⟩; have HW := hide (chain HW.out (by first | exact bf | exact undrewB bf)); clear bf)
        | (go_at_call 14; have HSW := hide HW.out.size; refine (blockE_any (HE.out.below (chain B.out HW.out)).er9 pa pn pc l (HS.out.below (chain B.out HW.out)) ra rn rc r (HI.out.below (chain B.out HW.out)) ta tn tc t (HT.out.below (chain B.out HW.out)) (by omega) hmr hmt p wt ob du (fun W he a len cap l hs p d hm => tset_any he a len cap l hs p d hm)).mono ?_; rintro e q1 ⟨ua1, un1, uc1, ua2, un2, uc2, ua3, un3, uc3, uv, rfl, huv, hut, bf⟩; have HUV := hide huv; have HUT := hide (hut.weaken HSW.out); have HW := hide (chain HW.out (by first | exact bf | exact undrewB bf)); clear bf huv hut HSW; have GB := TBB.out.below TZ.out HW.out; have g0 := GB.cell 0 _ rfl; have g1 := GB.cell 1 _ rfl; have g2 := GB.cell 2 _ rfl; have f0 := GB.free 0; have f1 := GB.free 1; have f2 := GB.free 2; clear GB)
        | fail)
    have UB := hide (bl_three (TBB.out.below TZ.out HW.out) (.slice ua1 un1 uc1) (.slice ua2 un2 uc2) (.slice ua3 un3 uc3))
    replace B := hide (below3 (g := tb) (.slice ua1 un1 uc1) (.slice ua2 un2 uc2) (.slice ua3 un3 uc3) (chain B.out HW.out) (Nat.le_of_lt TWN.out))
    replace BX := hide (((((BX.out.below hz.out HW.out).far (g' := tb) (k := 0) (u := .slice ua1 un1 uc1) HTW.out).far (g' := tb) (k := 1) (u := .slice ua2 un2 uc2) HTW.out).far (g' := tb) (k := 2) (u := .slice ua3 un3 uc3) HTW.out))
    replace DB1 := hide (((((DB1.out.below DZ1.out HW.out).far (g' := tb) (k := 0) (u := .slice ua1 un1 uc1) (fun e => TD1.out e.symm)).far (g' := tb) (k := 1) (u := .slice ua2 un2 uc2) (fun e => TD1.out e.symm)).far (g' := tb) (k := 2) (u := .slice ua3 un3 uc3) (fun e => TD1.out e.symm)))
    replace DL1 := hide (tab_far3 (DL1.out.below HW.out) (DF1.out.1) (DF1.out.2.1) (DF1.out.2.2) (.slice ua1 un1 uc1) (.slice ua2 un2 uc2) (.slice ua3 un3 uc3))
    replace DB2 := hide (((((DB2.out.below DZ2.out HW.out).far (g' := tb) (k := 0) (u := .slice ua1 un1 uc1) (fun e => TD2.out e.symm)).far (g' := tb) (k := 1) (u := .slice ua2 un2 uc2) (fun e => TD2.out e.symm)).far (g' := tb) (k := 2) (u := .slice ua3 un3 uc3) (fun e => TD2.out e.symm)))
    replace DL2 := hide (tab_far3 (DL2.out.below HW.out) (DF2.out.1) (DF2.out.2.1) (DF2.out.2.2) (.slice ua1 un1 uc1) (.slice ua2 un2 uc2) (.slice ua3 un3 uc3))
    replace DB3 := hide (((((DB3.out.below DZ3.out HW.out).far (g' := tb) (k := 0) (u := .slice ua1 un1 uc1) (fun e => TD3.out e.symm)).far (g' := tb) (k := 1) (u := .slice ua2 un2 uc2) (fun e => TD3.out e.symm)).far (g' := tb) (k := 2) (u := .slice ua3 un3 uc3) (fun e => TD3.out e.symm)))
    replace DL3 := hide (tab_far3 (DL3.out.below HW.out) (DF3.out.1) (DF3.out.2.1) (DF3.out.2.2) (.slice ua1 un1 uc1) (.slice ua2 un2 uc2) (.slice ua3 un3 uc3))
    replace DB4 := hide (((((DB4.out.below DZ4.out HW.out).far (g' := tb) (k := 0) (u := .slice ua1 un1 uc1) (fun e => TD4.out e.symm)).far (g' := tb) (k := 1) (u := .slice ua2 un2 uc2) (fun e => TD4.out e.symm)).far (g' := tb) (k := 2) (u := .slice ua3 un3 uc3) (fun e => TD4.out e.symm)))
    replace DL4 := hide (tab_far3 (DL4.out.below HW.out) (DF4.out.1) (DF4.out.2.1) (DF4.out.2.2) (.slice ua1 un1 uc1) (.slice ua2 un2 uc2) (.slice ua3 un3 uc3))
    replace DB5 := hide (((((DB5.out.below DZ5.out HW.out).far (g' := tb) (k := 0) (u := .slice ua1 un1 uc1) (fun e => TD5.out e.symm)).far (g' := tb) (k := 1) (u := .slice ua2 un2 uc2) (fun e => TD5.out e.symm)).far (g' := tb) (k := 2) (u := .slice ua3 un3 uc3) (fun e => TD5.out e.symm)))
    replace DL5 := hide (tab_far3 (DL5.out.below HW.out) (DF5.out.1) (DF5.out.2.1) (DF5.out.2.2) (.slice ua1 un1 uc1) (.slice ua2 un2 uc2) (.slice ua3 un3 uc3))
    have UL := hide (HUT.out.three (g := tb) TZ.out (.slice ua1 un1 uc1) (.slice ua2 un2 uc2) (.slice ua3 un3 uc3))
    replace hz : Hid (w.heap.size < (((q1.setCell ⟨tb, 0, none⟩ (.slice ua1 un1 uc1)).setCell ⟨tb, 1, none⟩ (.slice ua2 un2 uc2)).setCell ⟨tb, 2, none⟩ (.slice ua3 un3 uc3)).heap.size) := by have h1 := hz.out; have h2 := HW.out.size; unfold Hid; simp [World.setCell]; omega
    replace DZ1 : Hid (db1 < (((q1.setCell ⟨tb, 0, none⟩ (.slice ua1 un1 uc1)).setCell ⟨tb, 1, none⟩ (.slice ua2 un2 uc2)).setCell ⟨tb, 2, none⟩ (.slice ua3 un3 uc3)).heap.size) := by have h1 := DZ1.out; have h2 := HW.out.size; unfold Hid; simp [World.setCell]; omega
    replace DZ2 : Hid (db2 < (((q1.setCell ⟨tb, 0, none⟩ (.slice ua1 un1 uc1)).setCell ⟨tb, 1, none⟩ (.slice ua2 un2 uc2)).setCell ⟨tb, 2, none⟩ (.slice ua3 un3 uc3)).heap.size) := by have h1 := DZ2.out; have h2 := HW.out.size; unfold Hid; simp [World.setCell]; omega
    replace DZ3 : Hid (db3 < (((q1.setCell ⟨tb, 0, none⟩ (.slice ua1 un1 uc1)).setCell ⟨tb, 1, none⟩ (.slice ua2 un2 uc2)).setCell ⟨tb, 2, none⟩ (.slice ua3 un3 uc3)).heap.size) := by have h1 := DZ3.out; have h2 := HW.out.size; unfold Hid; simp [World.setCell]; omega
    replace DZ4 : Hid (db4 < (((q1.setCell ⟨tb, 0, none⟩ (.slice ua1 un1 uc1)).setCell ⟨tb, 1, none⟩ (.slice ua2 un2 uc2)).setCell ⟨tb, 2, none⟩ (.slice ua3 un3 uc3)).heap.size) := by have h1 := DZ4.out; have h2 := HW.out.size; unfold Hid; simp [World.setCell]; omega
    replace DZ5 : Hid (db5 < (((q1.setCell ⟨tb, 0, none⟩ (.slice ua1 un1 uc1)).setCell ⟨tb, 1, none⟩ (.slice ua2 un2 uc2)).setCell ⟨tb, 2, none⟩ (.slice ua3 un3 uc3)).heap.size) := by have h1 := DZ5.out; have h2 := HW.out.size; unfold Hid; simp [World.setCell]; omega
    replace TZ : Hid (tb < (((q1.setCell ⟨tb, 0, none⟩ (.slice ua1 un1 uc1)).setCell ⟨tb, 1, none⟩ (.slice ua2 un2 uc2)).setCell ⟨tb, 2, none⟩ (.slice ua3 un3 uc3)).heap.size) := by have h1 := TZ.out; have h2 := HW.out.size; unfold Hid; simp [World.setCell]; omega
    replace TBB := UB
    clear UB HW HC HCS HUT g0 g1 g2 f0 f1 f2
    generalize (((q1.setCell ⟨tb, 0, none⟩ (.slice ua1 un1 uc1)).setCell ⟨tb, 1, none⟩ (.slice ua2 un2 uc2)).setCell ⟨tb, 2, none⟩ (.slice ua3 un3 uc3)) = Z1 at *
    have UQ := hide (tab_lists UL.out)
    have DQ := hide (tab_lists DL1.out)
    obtain rfl : un1 = dn1 := by rw [← UQ.out.1.size, ← DQ.out.1.size]
    obtain rfl : un2 = en1 := by rw [← UQ.out.2.1.size, ← DQ.out.2.1.size]
    obtain rfl : un3 = gn1 := by rw [← UQ.out.2.2.size, ← DQ.out.2.2.size]
    have HFW : Hid (un1 ≤ 1000 ∧ un2 ≤ 1000 ∧ un3 ≤ 1000) := by
      have h := mv_few1 l r t p wt ob du
      have s1 := UQ.out.1.size
      have s2 := UQ.out.2.1.size
      have s3 := UQ.out.2.2.size
      exact ⟨by omega, by omega, by omega⟩
    have u0 := TBB.out.cell 0 _ rfl
    have u1 := TBB.out.cell 1 _ rfl
    have u2 := TBB.out.cell 2 _ rfl
    have v0' := DB1.out.cell 0 _ rfl
    have v1' := DB1.out.cell 1 _ rfl
    have v2' := DB1.out.cell 2 _ rfl
    go_wp2_with fail
    refine Calls.mono (same_any (HE.out.below B.out) uv (ofE (Good l r t) (OkP l p [1] ∧ (Rb.WaitOk wt ob du ∧ (du = -1 ∨ (0 ≤ du ∧ du ≤ 1010000))))) HUV.out _ _ _ _ UQ.out.1 _ _ _ _ UQ.out.2.1 _ _ _ _ UQ.out.2.2 _ _ DQ.out.1 _ _ DQ.out.2.1 _ _ DQ.out.2.2 HFW.out.1 HFW.out.2.1 HFW.out.2.2) ?_
    rintro e s1 ⟨rfl, xs⟩
    replace BX := hide (BX.out.below hz.out xs)
    replace hz : Hid (w.heap.size < s1.heap.size) := Nat.lt_of_lt_of_le hz.out xs.size
    replace B := hide (chain B.out xs)
    replace DL2 := hide (DL2.out.below xs)
    replace DB2 := hide (DB2.out.below DZ2.out xs)
    replace DZ2 : Hid (db2 < s1.heap.size) := Nat.lt_of_lt_of_le DZ2.out xs.size
    replace DL3 := hide (DL3.out.below xs)
    replace DB3 := hide (DB3.out.below DZ3.out xs)
    replace DZ3 : Hid (db3 < s1.heap.size) := Nat.lt_of_lt_of_le DZ3.out xs.size
    replace DL4 := hide (DL4.out.below xs)
    replace DB4 := hide (DB4.out.below DZ4.out xs)
    replace DZ4 : Hid (db4 < s1.heap.size) := Nat.lt_of_lt_of_le DZ4.out xs.size
    replace DL5 := hide (DL5.out.below xs)
    replace DB5 := hide (DB5.out.below DZ5.out xs)
    replace DZ5 : Hid (db5 < s1.heap.size) := Nat.lt_of_lt_of_le DZ5.out xs.size
    replace TBB := hide (TBB.out.below TZ.out xs)
    replace TZ : Hid (tb < s1.heap.size) := Nat.lt_of_lt_of_le TZ.out xs.size
    clear xs u0 u1 u2 v0' v1' v2' UQ DQ UL HUV HFW DL1 DB1 DZ1 TD1 DF1
    go_upto_region 15 with fail
    have HC : Hid (∀ wz, Below s1.heap.size s1 wz → (fun wz => wz.cell? ⟨w.heap.size, 0, none⟩ = some (.slice pa pn pc) ∧ wz.cell? ⟨w.heap.size, 1, none⟩ = some (.slice ra rn rc) ∧ wz.cell? ⟨w.heap.size, 2, none⟩ = some (.slice ta tn tc) ∧ wz.cell? ⟨w.heap.size, 3, none⟩ = some (.int .i64 p) ∧ wz.cell? ⟨w.heap.size, 10, none⟩ = some (.int .u32 x)) wz) := fun wz hq => by
      have h1 := BX.out.below hz.out hq
      exact ⟨h1.cell 0 _ rfl, h1.cell 1 _ rfl, h1.cell 2 _ rfl, h1.cell 3 _ rfl, h1.cell 10 _ rfl⟩
    have HW := hide (Below.refl s1.heap.size s1)
    have HCS : Hid (∀ wz, Below s1.heap.size s1 wz → ∀ u v z, (fun wz => wz.cell? ⟨w.heap.size, 0, none⟩ = some (.slice pa pn pc) ∧ wz.cell? ⟨w.heap.size, 1, none⟩ = some (.slice ra rn rc) ∧ wz.cell? ⟨w.heap.size, 2, none⟩ = some (.slice ta tn tc) ∧ wz.cell? ⟨w.heap.size, 3, none⟩ = some (.int .i64 p) ∧ wz.cell? ⟨w.heap.size, 10, none⟩ = some (.int .u32 x)) (((wz.setCell ⟨tb, 0, none⟩ u).setCell ⟨tb, 1, none⟩ v).setCell ⟨tb, 2, none⟩ z)) := fun wz hq u v z => by
      have h1 := (((BX.out.below hz.out hq).far (g' := tb) (k := 0) (u := u) HTW.out).far (g' := tb) (k := 1) (u := v) HTW.out).far (g' := tb) (k := 2) (u := z) HTW.out
      exact ⟨h1.cell 0 _ rfl, h1.cell 1 _ rfl, h1.cell 2 _ rfl, h1.cell 3 _ rfl, h1.cell 10 _ rfl⟩
    go_region_held3 (fun wz => wz.cell? ⟨w.heap.size, 0, none⟩ = some (.slice pa pn pc) ∧ wz.cell? ⟨w.heap.size, 1, none⟩ = some (.slice ra rn rc) ∧ wz.cell? ⟨w.heap.size, 2, none⟩ = some (.slice ta tn tc) ∧ wz.cell? ⟨w.heap.size, 3, none⟩ = some (.int .i64 p) ∧ wz.cell? ⟨w.heap.size, 10, none⟩ = some (.int .u32 x))
      (first | exact HC.out _ HW.out | exact HC.out _ HW.out.drew | exact HCS.out _ HW.out _ _ _)
      (first
        | (go_at_call 12; refine (to_any _ _ _ _ ⟨_, _, _, rfl⟩ ⟨_, _, _, rfl⟩ ⟨_, _, _, rfl⟩).mono ?_; rintro e wf ⟨rfl, bf⟩; have HW := hide (chain HW.out (by first | exact bf | exact undrewB bf)); clear bf)
        | (go_at_call 15; have HSW := hide HW.out.size; refine (wakeE_any (HE.out.below (chain B.out HW.out)).er9 pa pn pc l (HS.out.below (chain B.out HW.out)) ra rn rc r (HI.out.below (chain B.out HW.out)) ta tn tc t (HT.out.below (chain B.out HW.out)) (by omega) hmr hmt p x).mono ?_; rintro e q2 ⟨ua1, un1, uc1, ua2, un2, uc2, ua3, un3, uc3, uv, rfl, huv, hut, bf⟩; have HUV := hide huv; have HUT := hide (hut.weaken HSW.out); have HW := hide (chain HW.out (by first | exact bf | exact undrewB bf)); clear bf huv hut HSW; have GB := TBB.out.below TZ.out HW.out; have g0 := GB.cell 0 _ rfl; have g1 := GB.cell 1 _ rfl; have g2 := GB.cell 2 _ rfl; have f0 := GB.free 0; have f1 := GB.free 1; have f2 := GB.free 2; clear GB)
        | fail)
    have UB := hide (bl_three (TBB.out.below TZ.out HW.out) (.slice ua1 un1 uc1) (.slice ua2 un2 uc2) (.slice ua3 un3 uc3))
    replace B := hide (below3 (g := tb) (.slice ua1 un1 uc1) (.slice ua2 un2 uc2) (.slice ua3 un3 uc3) (chain B.out HW.out) (Nat.le_of_lt TWN.out))
    replace BX := hide (((((BX.out.below hz.out HW.out).far (g' := tb) (k := 0) (u := .slice ua1 un1 uc1) HTW.out).far (g' := tb) (k := 1) (u := .slice ua2 un2 uc2) HTW.out).far (g' := tb) (k := 2) (u := .slice ua3 un3 uc3) HTW.out))
    replace DB2 := hide (((((DB2.out.below DZ2.out HW.out).far (g' := tb) (k := 0) (u := .slice ua1 un1 uc1) (fun e => TD2.out e.symm)).far (g' := tb) (k := 1) (u := .slice ua2 un2 uc2) (fun e => TD2.out e.symm)).far (g' := tb) (k := 2) (u := .slice ua3 un3 uc3) (fun e => TD2.out e.symm)))
    replace DL2 := hide (tab_far3 (DL2.out.below HW.out) (DF2.out.1) (DF2.out.2.1) (DF2.out.2.2) (.slice ua1 un1 uc1) (.slice ua2 un2 uc2) (.slice ua3 un3 uc3))
    replace DB3 := hide (((((DB3.out.below DZ3.out HW.out).far (g' := tb) (k := 0) (u := .slice ua1 un1 uc1) (fun e => TD3.out e.symm)).far (g' := tb) (k := 1) (u := .slice ua2 un2 uc2) (fun e => TD3.out e.symm)).far (g' := tb) (k := 2) (u := .slice ua3 un3 uc3) (fun e => TD3.out e.symm)))
    replace DL3 := hide (tab_far3 (DL3.out.below HW.out) (DF3.out.1) (DF3.out.2.1) (DF3.out.2.2) (.slice ua1 un1 uc1) (.slice ua2 un2 uc2) (.slice ua3 un3 uc3))
    replace DB4 := hide (((((DB4.out.below DZ4.out HW.out).far (g' := tb) (k := 0) (u := .slice ua1 un1 uc1) (fun e => TD4.out e.symm)).far (g' := tb) (k := 1) (u := .slice ua2 un2 uc2) (fun e => TD4.out e.symm)).far (g' := tb) (k := 2) (u := .slice ua3 un3 uc3) (fun e => TD4.out e.symm)))
    replace DL4 := hide (tab_far3 (DL4.out.below HW.out) (DF4.out.1) (DF4.out.2.1) (DF4.out.2.2) (.slice ua1 un1 uc1) (.slice ua2 un2 uc2) (.slice ua3 un3 uc3))
    replace DB5 := hide (((((DB5.out.below DZ5.out HW.out).far (g' := tb) (k := 0) (u := .slice ua1 un1 uc1) (fun e => TD5.out e.symm)).far (g' := tb) (k := 1) (u := .slice ua2 un2 uc2) (fun e => TD5.out e.symm)).far (g' := tb) (k := 2) (u := .slice ua3 un3 uc3) (fun e => TD5.out e.symm)))
    replace DL5 := hide (tab_far3 (DL5.out.below HW.out) (DF5.out.1) (DF5.out.2.1) (DF5.out.2.2) (.slice ua1 un1 uc1) (.slice ua2 un2 uc2) (.slice ua3 un3 uc3))
    have UL := hide (HUT.out.three (g := tb) TZ.out (.slice ua1 un1 uc1) (.slice ua2 un2 uc2) (.slice ua3 un3 uc3))
    replace hz : Hid (w.heap.size < (((q2.setCell ⟨tb, 0, none⟩ (.slice ua1 un1 uc1)).setCell ⟨tb, 1, none⟩ (.slice ua2 un2 uc2)).setCell ⟨tb, 2, none⟩ (.slice ua3 un3 uc3)).heap.size) := by have h1 := hz.out; have h2 := HW.out.size; unfold Hid; simp [World.setCell]; omega
    replace DZ2 : Hid (db2 < (((q2.setCell ⟨tb, 0, none⟩ (.slice ua1 un1 uc1)).setCell ⟨tb, 1, none⟩ (.slice ua2 un2 uc2)).setCell ⟨tb, 2, none⟩ (.slice ua3 un3 uc3)).heap.size) := by have h1 := DZ2.out; have h2 := HW.out.size; unfold Hid; simp [World.setCell]; omega
    replace DZ3 : Hid (db3 < (((q2.setCell ⟨tb, 0, none⟩ (.slice ua1 un1 uc1)).setCell ⟨tb, 1, none⟩ (.slice ua2 un2 uc2)).setCell ⟨tb, 2, none⟩ (.slice ua3 un3 uc3)).heap.size) := by have h1 := DZ3.out; have h2 := HW.out.size; unfold Hid; simp [World.setCell]; omega
    replace DZ4 : Hid (db4 < (((q2.setCell ⟨tb, 0, none⟩ (.slice ua1 un1 uc1)).setCell ⟨tb, 1, none⟩ (.slice ua2 un2 uc2)).setCell ⟨tb, 2, none⟩ (.slice ua3 un3 uc3)).heap.size) := by have h1 := DZ4.out; have h2 := HW.out.size; unfold Hid; simp [World.setCell]; omega
    replace DZ5 : Hid (db5 < (((q2.setCell ⟨tb, 0, none⟩ (.slice ua1 un1 uc1)).setCell ⟨tb, 1, none⟩ (.slice ua2 un2 uc2)).setCell ⟨tb, 2, none⟩ (.slice ua3 un3 uc3)).heap.size) := by have h1 := DZ5.out; have h2 := HW.out.size; unfold Hid; simp [World.setCell]; omega
    replace TZ : Hid (tb < (((q2.setCell ⟨tb, 0, none⟩ (.slice ua1 un1 uc1)).setCell ⟨tb, 1, none⟩ (.slice ua2 un2 uc2)).setCell ⟨tb, 2, none⟩ (.slice ua3 un3 uc3)).heap.size) := by have h1 := TZ.out; have h2 := HW.out.size; unfold Hid; simp [World.setCell]; omega
    replace TBB := UB
    clear UB HW HC HCS HUT g0 g1 g2 f0 f1 f2
    generalize (((q2.setCell ⟨tb, 0, none⟩ (.slice ua1 un1 uc1)).setCell ⟨tb, 1, none⟩ (.slice ua2 un2 uc2)).setCell ⟨tb, 2, none⟩ (.slice ua3 un3 uc3)) = Z2 at *
    have UQ := hide (tab_lists UL.out)
    have DQ := hide (tab_lists DL2.out)
    obtain rfl : un1 = dn2 := by rw [← UQ.out.1.size, ← DQ.out.1.size]
    obtain rfl : un2 = en2 := by rw [← UQ.out.2.1.size, ← DQ.out.2.1.size]
    obtain rfl : un3 = gn2 := by rw [← UQ.out.2.2.size, ← DQ.out.2.2.size]
    have HFW : Hid (un1 ≤ 1000 ∧ un2 ≤ 1000 ∧ un3 ≤ 1000) := by
      have h := mv_few2 l r t p x
      have s1 := UQ.out.1.size
      have s2 := UQ.out.2.1.size
      have s3 := UQ.out.2.2.size
      exact ⟨by omega, by omega, by omega⟩
    have u0 := TBB.out.cell 0 _ rfl
    have u1 := TBB.out.cell 1 _ rfl
    have u2 := TBB.out.cell 2 _ rfl
    have v0' := DB2.out.cell 0 _ rfl
    have v1' := DB2.out.cell 1 _ rfl
    have v2' := DB2.out.cell 2 _ rfl
    go_wp2_with fail
    refine Calls.mono (same_any (HE.out.below B.out) uv (ofE (Good l r t) (OkP l p [2])) HUV.out _ _ _ _ UQ.out.1 _ _ _ _ UQ.out.2.1 _ _ _ _ UQ.out.2.2 _ _ DQ.out.1 _ _ DQ.out.2.1 _ _ DQ.out.2.2 HFW.out.1 HFW.out.2.1 HFW.out.2.2) ?_
    rintro e s2 ⟨rfl, xs⟩
    replace BX := hide (BX.out.below hz.out xs)
    replace hz : Hid (w.heap.size < s2.heap.size) := Nat.lt_of_lt_of_le hz.out xs.size
    replace B := hide (chain B.out xs)
    replace DL3 := hide (DL3.out.below xs)
    replace DB3 := hide (DB3.out.below DZ3.out xs)
    replace DZ3 : Hid (db3 < s2.heap.size) := Nat.lt_of_lt_of_le DZ3.out xs.size
    replace DL4 := hide (DL4.out.below xs)
    replace DB4 := hide (DB4.out.below DZ4.out xs)
    replace DZ4 : Hid (db4 < s2.heap.size) := Nat.lt_of_lt_of_le DZ4.out xs.size
    replace DL5 := hide (DL5.out.below xs)
    replace DB5 := hide (DB5.out.below DZ5.out xs)
    replace DZ5 : Hid (db5 < s2.heap.size) := Nat.lt_of_lt_of_le DZ5.out xs.size
    replace TBB := hide (TBB.out.below TZ.out xs)
    replace TZ : Hid (tb < s2.heap.size) := Nat.lt_of_lt_of_le TZ.out xs.size
    clear xs u0 u1 u2 v0' v1' v2' UQ DQ UL HUV HFW DL2 DB2 DZ2 TD2 DF2
    go_upto_region 18 with fail
    have HC : Hid (∀ wz, Below s2.heap.size s2 wz → (fun wz => wz.cell? ⟨w.heap.size, 0, none⟩ = some (.slice pa pn pc) ∧ wz.cell? ⟨w.heap.size, 1, none⟩ = some (.slice ra rn rc) ∧ wz.cell? ⟨w.heap.size, 2, none⟩ = some (.slice ta tn tc) ∧ wz.cell? ⟨w.heap.size, 3, none⟩ = some (.int .i64 p) ∧ wz.cell? ⟨w.heap.size, 8, none⟩ = some (.int .i64 st)) wz) := fun wz hq => by
      have h1 := BX.out.below hz.out hq
      exact ⟨h1.cell 0 _ rfl, h1.cell 1 _ rfl, h1.cell 2 _ rfl, h1.cell 3 _ rfl, h1.cell 8 _ rfl⟩
    have HW := hide (Below.refl s2.heap.size s2)
    have HCS : Hid (∀ wz, Below s2.heap.size s2 wz → ∀ u v z, (fun wz => wz.cell? ⟨w.heap.size, 0, none⟩ = some (.slice pa pn pc) ∧ wz.cell? ⟨w.heap.size, 1, none⟩ = some (.slice ra rn rc) ∧ wz.cell? ⟨w.heap.size, 2, none⟩ = some (.slice ta tn tc) ∧ wz.cell? ⟨w.heap.size, 3, none⟩ = some (.int .i64 p) ∧ wz.cell? ⟨w.heap.size, 8, none⟩ = some (.int .i64 st)) (((wz.setCell ⟨tb, 0, none⟩ u).setCell ⟨tb, 1, none⟩ v).setCell ⟨tb, 2, none⟩ z)) := fun wz hq u v z => by
      have h1 := (((BX.out.below hz.out hq).far (g' := tb) (k := 0) (u := u) HTW.out).far (g' := tb) (k := 1) (u := v) HTW.out).far (g' := tb) (k := 2) (u := z) HTW.out
      exact ⟨h1.cell 0 _ rfl, h1.cell 1 _ rfl, h1.cell 2 _ rfl, h1.cell 3 _ rfl, h1.cell 8 _ rfl⟩
    go_region_held3 (fun wz => wz.cell? ⟨w.heap.size, 0, none⟩ = some (.slice pa pn pc) ∧ wz.cell? ⟨w.heap.size, 1, none⟩ = some (.slice ra rn rc) ∧ wz.cell? ⟨w.heap.size, 2, none⟩ = some (.slice ta tn tc) ∧ wz.cell? ⟨w.heap.size, 3, none⟩ = some (.int .i64 p) ∧ wz.cell? ⟨w.heap.size, 8, none⟩ = some (.int .i64 st))
      (first | exact HC.out _ HW.out | exact HC.out _ HW.out.drew | exact HCS.out _ HW.out _ _ _)
      (first
        | (go_at_call 12; refine (to_any _ _ _ _ ⟨_, _, _, rfl⟩ ⟨_, _, _, rfl⟩ ⟨_, _, _, rfl⟩).mono ?_; rintro e wf ⟨rfl, bf⟩; have HW := hide (chain HW.out (by first | exact bf | exact undrewB bf)); clear bf)
        | (go_at_call 16; have HSW := hide HW.out.size; refine (halt_any (HE.out.below (chain B.out HW.out)).er9 pa pn pc l (HS.out.below (chain B.out HW.out)) ra rn rc r (HI.out.below (chain B.out HW.out)) ta tn tc t (HT.out.below (chain B.out HW.out)) (by omega) hmr hmt p st).mono ?_; rintro e q3 ⟨ua1, un1, uc1, ua2, un2, uc2, ua3, un3, uc3, uv, rfl, huv, hut, bf⟩; have HUV := hide huv; have HUT := hide (hut.weaken HSW.out); have HW := hide (chain HW.out (by first | exact bf | exact undrewB bf)); clear bf huv hut HSW; have GB := TBB.out.below TZ.out HW.out; have g0 := GB.cell 0 _ rfl; have g1 := GB.cell 1 _ rfl; have g2 := GB.cell 2 _ rfl; have f0 := GB.free 0; have f1 := GB.free 1; have f2 := GB.free 2; clear GB)
        | fail)
    have UB := hide (bl_three (TBB.out.below TZ.out HW.out) (.slice ua1 un1 uc1) (.slice ua2 un2 uc2) (.slice ua3 un3 uc3))
    replace B := hide (below3 (g := tb) (.slice ua1 un1 uc1) (.slice ua2 un2 uc2) (.slice ua3 un3 uc3) (chain B.out HW.out) (Nat.le_of_lt TWN.out))
    replace BX := hide (((((BX.out.below hz.out HW.out).far (g' := tb) (k := 0) (u := .slice ua1 un1 uc1) HTW.out).far (g' := tb) (k := 1) (u := .slice ua2 un2 uc2) HTW.out).far (g' := tb) (k := 2) (u := .slice ua3 un3 uc3) HTW.out))
    replace DB3 := hide (((((DB3.out.below DZ3.out HW.out).far (g' := tb) (k := 0) (u := .slice ua1 un1 uc1) (fun e => TD3.out e.symm)).far (g' := tb) (k := 1) (u := .slice ua2 un2 uc2) (fun e => TD3.out e.symm)).far (g' := tb) (k := 2) (u := .slice ua3 un3 uc3) (fun e => TD3.out e.symm)))
    replace DL3 := hide (tab_far3 (DL3.out.below HW.out) (DF3.out.1) (DF3.out.2.1) (DF3.out.2.2) (.slice ua1 un1 uc1) (.slice ua2 un2 uc2) (.slice ua3 un3 uc3))
    replace DB4 := hide (((((DB4.out.below DZ4.out HW.out).far (g' := tb) (k := 0) (u := .slice ua1 un1 uc1) (fun e => TD4.out e.symm)).far (g' := tb) (k := 1) (u := .slice ua2 un2 uc2) (fun e => TD4.out e.symm)).far (g' := tb) (k := 2) (u := .slice ua3 un3 uc3) (fun e => TD4.out e.symm)))
    replace DL4 := hide (tab_far3 (DL4.out.below HW.out) (DF4.out.1) (DF4.out.2.1) (DF4.out.2.2) (.slice ua1 un1 uc1) (.slice ua2 un2 uc2) (.slice ua3 un3 uc3))
    replace DB5 := hide (((((DB5.out.below DZ5.out HW.out).far (g' := tb) (k := 0) (u := .slice ua1 un1 uc1) (fun e => TD5.out e.symm)).far (g' := tb) (k := 1) (u := .slice ua2 un2 uc2) (fun e => TD5.out e.symm)).far (g' := tb) (k := 2) (u := .slice ua3 un3 uc3) (fun e => TD5.out e.symm)))
    replace DL5 := hide (tab_far3 (DL5.out.below HW.out) (DF5.out.1) (DF5.out.2.1) (DF5.out.2.2) (.slice ua1 un1 uc1) (.slice ua2 un2 uc2) (.slice ua3 un3 uc3))
    have UL := hide (HUT.out.three (g := tb) TZ.out (.slice ua1 un1 uc1) (.slice ua2 un2 uc2) (.slice ua3 un3 uc3))
    replace hz : Hid (w.heap.size < (((q3.setCell ⟨tb, 0, none⟩ (.slice ua1 un1 uc1)).setCell ⟨tb, 1, none⟩ (.slice ua2 un2 uc2)).setCell ⟨tb, 2, none⟩ (.slice ua3 un3 uc3)).heap.size) := by have h1 := hz.out; have h2 := HW.out.size; unfold Hid; simp [World.setCell]; omega
    replace DZ3 : Hid (db3 < (((q3.setCell ⟨tb, 0, none⟩ (.slice ua1 un1 uc1)).setCell ⟨tb, 1, none⟩ (.slice ua2 un2 uc2)).setCell ⟨tb, 2, none⟩ (.slice ua3 un3 uc3)).heap.size) := by have h1 := DZ3.out; have h2 := HW.out.size; unfold Hid; simp [World.setCell]; omega
    replace DZ4 : Hid (db4 < (((q3.setCell ⟨tb, 0, none⟩ (.slice ua1 un1 uc1)).setCell ⟨tb, 1, none⟩ (.slice ua2 un2 uc2)).setCell ⟨tb, 2, none⟩ (.slice ua3 un3 uc3)).heap.size) := by have h1 := DZ4.out; have h2 := HW.out.size; unfold Hid; simp [World.setCell]; omega
    replace DZ5 : Hid (db5 < (((q3.setCell ⟨tb, 0, none⟩ (.slice ua1 un1 uc1)).setCell ⟨tb, 1, none⟩ (.slice ua2 un2 uc2)).setCell ⟨tb, 2, none⟩ (.slice ua3 un3 uc3)).heap.size) := by have h1 := DZ5.out; have h2 := HW.out.size; unfold Hid; simp [World.setCell]; omega
    replace TZ : Hid (tb < (((q3.setCell ⟨tb, 0, none⟩ (.slice ua1 un1 uc1)).setCell ⟨tb, 1, none⟩ (.slice ua2 un2 uc2)).setCell ⟨tb, 2, none⟩ (.slice ua3 un3 uc3)).heap.size) := by have h1 := TZ.out; have h2 := HW.out.size; unfold Hid; simp [World.setCell]; omega
    replace TBB := UB
    clear UB HW HC HCS HUT g0 g1 g2 f0 f1 f2
    generalize (((q3.setCell ⟨tb, 0, none⟩ (.slice ua1 un1 uc1)).setCell ⟨tb, 1, none⟩ (.slice ua2 un2 uc2)).setCell ⟨tb, 2, none⟩ (.slice ua3 un3 uc3)) = Z3 at *
    have UQ := hide (tab_lists UL.out)
    have DQ := hide (tab_lists DL3.out)
    obtain rfl : un1 = dn3 := by rw [← UQ.out.1.size, ← DQ.out.1.size]
    obtain rfl : un2 = en3 := by rw [← UQ.out.2.1.size, ← DQ.out.2.1.size]
    obtain rfl : un3 = gn3 := by rw [← UQ.out.2.2.size, ← DQ.out.2.2.size]
    have HFW : Hid (un1 ≤ 1000 ∧ un2 ≤ 1000 ∧ un3 ≤ 1000) := by
      have h := mv_few3 l r t p st
      have s1 := UQ.out.1.size
      have s2 := UQ.out.2.1.size
      have s3 := UQ.out.2.2.size
      exact ⟨by omega, by omega, by omega⟩
    have u0 := TBB.out.cell 0 _ rfl
    have u1 := TBB.out.cell 1 _ rfl
    have u2 := TBB.out.cell 2 _ rfl
    have v0' := DB3.out.cell 0 _ rfl
    have v1' := DB3.out.cell 1 _ rfl
    have v2' := DB3.out.cell 2 _ rfl
    go_wp2_with fail
    refine Calls.mono (same_any (HE.out.below B.out) uv (ofE (Good l r t) (OkP l p [1] ∧ (st = 0 ∨ st = 3))) HUV.out _ _ _ _ UQ.out.1 _ _ _ _ UQ.out.2.1 _ _ _ _ UQ.out.2.2 _ _ DQ.out.1 _ _ DQ.out.2.1 _ _ DQ.out.2.2 HFW.out.1 HFW.out.2.1 HFW.out.2.2) ?_
    rintro e s3 ⟨rfl, xs⟩
    replace BX := hide (BX.out.below hz.out xs)
    replace hz : Hid (w.heap.size < s3.heap.size) := Nat.lt_of_lt_of_le hz.out xs.size
    replace B := hide (chain B.out xs)
    replace DL4 := hide (DL4.out.below xs)
    replace DB4 := hide (DB4.out.below DZ4.out xs)
    replace DZ4 : Hid (db4 < s3.heap.size) := Nat.lt_of_lt_of_le DZ4.out xs.size
    replace DL5 := hide (DL5.out.below xs)
    replace DB5 := hide (DB5.out.below DZ5.out xs)
    replace DZ5 : Hid (db5 < s3.heap.size) := Nat.lt_of_lt_of_le DZ5.out xs.size
    replace TBB := hide (TBB.out.below TZ.out xs)
    replace TZ : Hid (tb < s3.heap.size) := Nat.lt_of_lt_of_le TZ.out xs.size
    clear xs u0 u1 u2 v0' v1' v2' UQ DQ UL HUV HFW DL3 DB3 DZ3 TD3 DF3
    go_upto_region 21 with fail
    have HC : Hid (∀ wz, Below s3.heap.size s3 wz → (fun wz => wz.cell? ⟨w.heap.size, 0, none⟩ = some (.slice pa pn pc) ∧ wz.cell? ⟨w.heap.size, 1, none⟩ = some (.slice ra rn rc) ∧ wz.cell? ⟨w.heap.size, 2, none⟩ = some (.slice ta tn tc) ∧ wz.cell? ⟨w.heap.size, 3, none⟩ = some (.int .i64 p) ∧ wz.cell? ⟨w.heap.size, 10, none⟩ = some (.int .u32 x) ∧ wz.cell? ⟨w.heap.size, 7, none⟩ = some (.int .i64 pr)) wz) := fun wz hq => by
      have h1 := BX.out.below hz.out hq
      exact ⟨h1.cell 0 _ rfl, h1.cell 1 _ rfl, h1.cell 2 _ rfl, h1.cell 3 _ rfl, h1.cell 10 _ rfl, h1.cell 7 _ rfl⟩
    have HW := hide (Below.refl s3.heap.size s3)
    have HCS : Hid (∀ wz, Below s3.heap.size s3 wz → ∀ u v z, (fun wz => wz.cell? ⟨w.heap.size, 0, none⟩ = some (.slice pa pn pc) ∧ wz.cell? ⟨w.heap.size, 1, none⟩ = some (.slice ra rn rc) ∧ wz.cell? ⟨w.heap.size, 2, none⟩ = some (.slice ta tn tc) ∧ wz.cell? ⟨w.heap.size, 3, none⟩ = some (.int .i64 p) ∧ wz.cell? ⟨w.heap.size, 10, none⟩ = some (.int .u32 x) ∧ wz.cell? ⟨w.heap.size, 7, none⟩ = some (.int .i64 pr)) (((wz.setCell ⟨tb, 0, none⟩ u).setCell ⟨tb, 1, none⟩ v).setCell ⟨tb, 2, none⟩ z)) := fun wz hq u v z => by
      have h1 := (((BX.out.below hz.out hq).far (g' := tb) (k := 0) (u := u) HTW.out).far (g' := tb) (k := 1) (u := v) HTW.out).far (g' := tb) (k := 2) (u := z) HTW.out
      exact ⟨h1.cell 0 _ rfl, h1.cell 1 _ rfl, h1.cell 2 _ rfl, h1.cell 3 _ rfl, h1.cell 10 _ rfl, h1.cell 7 _ rfl⟩
    go_region_held3 (fun wz => wz.cell? ⟨w.heap.size, 0, none⟩ = some (.slice pa pn pc) ∧ wz.cell? ⟨w.heap.size, 1, none⟩ = some (.slice ra rn rc) ∧ wz.cell? ⟨w.heap.size, 2, none⟩ = some (.slice ta tn tc) ∧ wz.cell? ⟨w.heap.size, 3, none⟩ = some (.int .i64 p) ∧ wz.cell? ⟨w.heap.size, 10, none⟩ = some (.int .u32 x) ∧ wz.cell? ⟨w.heap.size, 7, none⟩ = some (.int .i64 pr))
      (first | exact HC.out _ HW.out | exact HC.out _ HW.out.drew | exact HCS.out _ HW.out _ _ _)
      (first
        | (go_at_call 12; refine (to_any _ _ _ _ ⟨_, _, _, rfl⟩ ⟨_, _, _, rfl⟩ ⟨_, _, _, rfl⟩).mono ?_; rintro e wf ⟨rfl, bf⟩; have HW := hide (chain HW.out (by first | exact bf | exact undrewB bf)); clear bf)
        | (go_at_call 17; have HSW := hide HW.out.size; refine (start_any (HE.out.below (chain B.out HW.out)).er9 pa pn pc l (HS.out.below (chain B.out HW.out)) ra rn rc r (HI.out.below (chain B.out HW.out)) ta tn tc t (HT.out.below (chain B.out HW.out)) (by omega) hmr hmt p x pr).mono ?_; rintro e q4 ⟨ua1, un1, uc1, ua2, un2, uc2, ua3, un3, uc3, uv, rfl, huv, hut, bf⟩; have HUV := hide huv; have HUT := hide (hut.weaken HSW.out); have HW := hide (chain HW.out (by first | exact bf | exact undrewB bf)); clear bf huv hut HSW; have GB := TBB.out.below TZ.out HW.out; have g0 := GB.cell 0 _ rfl; have g1 := GB.cell 1 _ rfl; have g2 := GB.cell 2 _ rfl; have f0 := GB.free 0; have f1 := GB.free 1; have f2 := GB.free 2; clear GB)
        | fail)
    have UB := hide (bl_three (TBB.out.below TZ.out HW.out) (.slice ua1 un1 uc1) (.slice ua2 un2 uc2) (.slice ua3 un3 uc3))
    replace B := hide (below3 (g := tb) (.slice ua1 un1 uc1) (.slice ua2 un2 uc2) (.slice ua3 un3 uc3) (chain B.out HW.out) (Nat.le_of_lt TWN.out))
    replace BX := hide (((((BX.out.below hz.out HW.out).far (g' := tb) (k := 0) (u := .slice ua1 un1 uc1) HTW.out).far (g' := tb) (k := 1) (u := .slice ua2 un2 uc2) HTW.out).far (g' := tb) (k := 2) (u := .slice ua3 un3 uc3) HTW.out))
    replace DB4 := hide (((((DB4.out.below DZ4.out HW.out).far (g' := tb) (k := 0) (u := .slice ua1 un1 uc1) (fun e => TD4.out e.symm)).far (g' := tb) (k := 1) (u := .slice ua2 un2 uc2) (fun e => TD4.out e.symm)).far (g' := tb) (k := 2) (u := .slice ua3 un3 uc3) (fun e => TD4.out e.symm)))
    replace DL4 := hide (tab_far3 (DL4.out.below HW.out) (DF4.out.1) (DF4.out.2.1) (DF4.out.2.2) (.slice ua1 un1 uc1) (.slice ua2 un2 uc2) (.slice ua3 un3 uc3))
    replace DB5 := hide (((((DB5.out.below DZ5.out HW.out).far (g' := tb) (k := 0) (u := .slice ua1 un1 uc1) (fun e => TD5.out e.symm)).far (g' := tb) (k := 1) (u := .slice ua2 un2 uc2) (fun e => TD5.out e.symm)).far (g' := tb) (k := 2) (u := .slice ua3 un3 uc3) (fun e => TD5.out e.symm)))
    replace DL5 := hide (tab_far3 (DL5.out.below HW.out) (DF5.out.1) (DF5.out.2.1) (DF5.out.2.2) (.slice ua1 un1 uc1) (.slice ua2 un2 uc2) (.slice ua3 un3 uc3))
    have UL := hide (HUT.out.three (g := tb) TZ.out (.slice ua1 un1 uc1) (.slice ua2 un2 uc2) (.slice ua3 un3 uc3))
    replace hz : Hid (w.heap.size < (((q4.setCell ⟨tb, 0, none⟩ (.slice ua1 un1 uc1)).setCell ⟨tb, 1, none⟩ (.slice ua2 un2 uc2)).setCell ⟨tb, 2, none⟩ (.slice ua3 un3 uc3)).heap.size) := by have h1 := hz.out; have h2 := HW.out.size; unfold Hid; simp [World.setCell]; omega
    replace DZ4 : Hid (db4 < (((q4.setCell ⟨tb, 0, none⟩ (.slice ua1 un1 uc1)).setCell ⟨tb, 1, none⟩ (.slice ua2 un2 uc2)).setCell ⟨tb, 2, none⟩ (.slice ua3 un3 uc3)).heap.size) := by have h1 := DZ4.out; have h2 := HW.out.size; unfold Hid; simp [World.setCell]; omega
    replace DZ5 : Hid (db5 < (((q4.setCell ⟨tb, 0, none⟩ (.slice ua1 un1 uc1)).setCell ⟨tb, 1, none⟩ (.slice ua2 un2 uc2)).setCell ⟨tb, 2, none⟩ (.slice ua3 un3 uc3)).heap.size) := by have h1 := DZ5.out; have h2 := HW.out.size; unfold Hid; simp [World.setCell]; omega
    replace TZ : Hid (tb < (((q4.setCell ⟨tb, 0, none⟩ (.slice ua1 un1 uc1)).setCell ⟨tb, 1, none⟩ (.slice ua2 un2 uc2)).setCell ⟨tb, 2, none⟩ (.slice ua3 un3 uc3)).heap.size) := by have h1 := TZ.out; have h2 := HW.out.size; unfold Hid; simp [World.setCell]; omega
    replace TBB := UB
    clear UB HW HC HCS HUT g0 g1 g2 f0 f1 f2
    generalize (((q4.setCell ⟨tb, 0, none⟩ (.slice ua1 un1 uc1)).setCell ⟨tb, 1, none⟩ (.slice ua2 un2 uc2)).setCell ⟨tb, 2, none⟩ (.slice ua3 un3 uc3)) = Z4 at *
    have UQ := hide (tab_lists UL.out)
    have DQ := hide (tab_lists DL4.out)
    obtain rfl : un1 = dn4 := by rw [← UQ.out.1.size, ← DQ.out.1.size]
    obtain rfl : un2 = en4 := by rw [← UQ.out.2.1.size, ← DQ.out.2.1.size]
    obtain rfl : un3 = gn4 := by rw [← UQ.out.2.2.size, ← DQ.out.2.2.size]
    have HFW : Hid (un1 ≤ 1000 ∧ un2 ≤ 1000 ∧ un3 ≤ 1000) := by
      have h := mv_few4 l r t p x pr
      have s1 := UQ.out.1.size
      have s2 := UQ.out.2.1.size
      have s3 := UQ.out.2.2.size
      exact ⟨by omega, by omega, by omega⟩
    have u0 := TBB.out.cell 0 _ rfl
    have u1 := TBB.out.cell 1 _ rfl
    have u2 := TBB.out.cell 2 _ rfl
    have v0' := DB4.out.cell 0 _ rfl
    have v1' := DB4.out.cell 1 _ rfl
    have v2' := DB4.out.cell 2 _ rfl
    go_wp2_with fail
    refine Calls.mono (same_any (HE.out.below B.out) uv (ofE (Good l r t) (OkP l p [0, 3] ∧ (0 ≤ pr ∧ pr ≤ 255))) HUV.out _ _ _ _ UQ.out.1 _ _ _ _ UQ.out.2.1 _ _ _ _ UQ.out.2.2 _ _ DQ.out.1 _ _ DQ.out.2.1 _ _ DQ.out.2.2 HFW.out.1 HFW.out.2.1 HFW.out.2.2) ?_
    rintro e s4 ⟨rfl, xs⟩
    replace BX := hide (BX.out.below hz.out xs)
    replace hz : Hid (w.heap.size < s4.heap.size) := Nat.lt_of_lt_of_le hz.out xs.size
    replace B := hide (chain B.out xs)
    replace DL5 := hide (DL5.out.below xs)
    replace DB5 := hide (DB5.out.below DZ5.out xs)
    replace DZ5 : Hid (db5 < s4.heap.size) := Nat.lt_of_lt_of_le DZ5.out xs.size
    replace TBB := hide (TBB.out.below TZ.out xs)
    replace TZ : Hid (tb < s4.heap.size) := Nat.lt_of_lt_of_le TZ.out xs.size
    clear xs u0 u1 u2 v0' v1' v2' UQ DQ UL HUV HFW DL4 DB4 DZ4 TD4 DF4
    go_upto_region 24 with fail
    have HC : Hid (∀ wz, Below s4.heap.size s4 wz → (fun wz => wz.cell? ⟨w.heap.size, 0, none⟩ = some (.slice pa pn pc) ∧ wz.cell? ⟨w.heap.size, 1, none⟩ = some (.slice ra rn rc) ∧ wz.cell? ⟨w.heap.size, 2, none⟩ = some (.slice ta tn tc) ∧ wz.cell? ⟨w.heap.size, 3, none⟩ = some (.int .i64 p) ∧ wz.cell? ⟨w.heap.size, 7, none⟩ = some (.int .i64 pr)) wz) := fun wz hq => by
      have h1 := BX.out.below hz.out hq
      exact ⟨h1.cell 0 _ rfl, h1.cell 1 _ rfl, h1.cell 2 _ rfl, h1.cell 3 _ rfl, h1.cell 7 _ rfl⟩
    have HW := hide (Below.refl s4.heap.size s4)
    have HCS : Hid (∀ wz, Below s4.heap.size s4 wz → ∀ u v z, (fun wz => wz.cell? ⟨w.heap.size, 0, none⟩ = some (.slice pa pn pc) ∧ wz.cell? ⟨w.heap.size, 1, none⟩ = some (.slice ra rn rc) ∧ wz.cell? ⟨w.heap.size, 2, none⟩ = some (.slice ta tn tc) ∧ wz.cell? ⟨w.heap.size, 3, none⟩ = some (.int .i64 p) ∧ wz.cell? ⟨w.heap.size, 7, none⟩ = some (.int .i64 pr)) (((wz.setCell ⟨tb, 0, none⟩ u).setCell ⟨tb, 1, none⟩ v).setCell ⟨tb, 2, none⟩ z)) := fun wz hq u v z => by
      have h1 := (((BX.out.below hz.out hq).far (g' := tb) (k := 0) (u := u) HTW.out).far (g' := tb) (k := 1) (u := v) HTW.out).far (g' := tb) (k := 2) (u := z) HTW.out
      exact ⟨h1.cell 0 _ rfl, h1.cell 1 _ rfl, h1.cell 2 _ rfl, h1.cell 3 _ rfl, h1.cell 7 _ rfl⟩
    go_region_held3 (fun wz => wz.cell? ⟨w.heap.size, 0, none⟩ = some (.slice pa pn pc) ∧ wz.cell? ⟨w.heap.size, 1, none⟩ = some (.slice ra rn rc) ∧ wz.cell? ⟨w.heap.size, 2, none⟩ = some (.slice ta tn tc) ∧ wz.cell? ⟨w.heap.size, 3, none⟩ = some (.int .i64 p) ∧ wz.cell? ⟨w.heap.size, 7, none⟩ = some (.int .i64 pr))
      (first | exact HC.out _ HW.out | exact HC.out _ HW.out.drew | exact HCS.out _ HW.out _ _ _)
      (first
        | (go_at_call 12; refine (to_any _ _ _ _ ⟨_, _, _, rfl⟩ ⟨_, _, _, rfl⟩ ⟨_, _, _, rfl⟩).mono ?_; rintro e wf ⟨rfl, bf⟩; have HW := hide (chain HW.out (by first | exact bf | exact undrewB bf)); clear bf)
        | (go_at_call 18; have HSW := hide HW.out.size; refine (rank_any (HE.out.below (chain B.out HW.out)).er9 pa pn pc l (HS.out.below (chain B.out HW.out)) ra rn rc r (HI.out.below (chain B.out HW.out)) ta tn tc t (HT.out.below (chain B.out HW.out)) (by omega) hmr hmt p pr).mono ?_; rintro e q5 ⟨ua1, un1, uc1, ua2, un2, uc2, ua3, un3, uc3, uv, rfl, huv, hut, bf⟩; have HUV := hide huv; have HUT := hide (hut.weaken HSW.out); have HW := hide (chain HW.out (by first | exact bf | exact undrewB bf)); clear bf huv hut HSW; have GB := TBB.out.below TZ.out HW.out; have g0 := GB.cell 0 _ rfl; have g1 := GB.cell 1 _ rfl; have g2 := GB.cell 2 _ rfl; have f0 := GB.free 0; have f1 := GB.free 1; have f2 := GB.free 2; clear GB)
        | fail)
    have UB := hide (bl_three (TBB.out.below TZ.out HW.out) (.slice ua1 un1 uc1) (.slice ua2 un2 uc2) (.slice ua3 un3 uc3))
    replace B := hide (below3 (g := tb) (.slice ua1 un1 uc1) (.slice ua2 un2 uc2) (.slice ua3 un3 uc3) (chain B.out HW.out) (Nat.le_of_lt TWN.out))
    replace BX := hide (((((BX.out.below hz.out HW.out).far (g' := tb) (k := 0) (u := .slice ua1 un1 uc1) HTW.out).far (g' := tb) (k := 1) (u := .slice ua2 un2 uc2) HTW.out).far (g' := tb) (k := 2) (u := .slice ua3 un3 uc3) HTW.out))
    replace DB5 := hide (((((DB5.out.below DZ5.out HW.out).far (g' := tb) (k := 0) (u := .slice ua1 un1 uc1) (fun e => TD5.out e.symm)).far (g' := tb) (k := 1) (u := .slice ua2 un2 uc2) (fun e => TD5.out e.symm)).far (g' := tb) (k := 2) (u := .slice ua3 un3 uc3) (fun e => TD5.out e.symm)))
    replace DL5 := hide (tab_far3 (DL5.out.below HW.out) (DF5.out.1) (DF5.out.2.1) (DF5.out.2.2) (.slice ua1 un1 uc1) (.slice ua2 un2 uc2) (.slice ua3 un3 uc3))
    have UL := hide (HUT.out.three (g := tb) TZ.out (.slice ua1 un1 uc1) (.slice ua2 un2 uc2) (.slice ua3 un3 uc3))
    replace hz : Hid (w.heap.size < (((q5.setCell ⟨tb, 0, none⟩ (.slice ua1 un1 uc1)).setCell ⟨tb, 1, none⟩ (.slice ua2 un2 uc2)).setCell ⟨tb, 2, none⟩ (.slice ua3 un3 uc3)).heap.size) := by have h1 := hz.out; have h2 := HW.out.size; unfold Hid; simp [World.setCell]; omega
    replace DZ5 : Hid (db5 < (((q5.setCell ⟨tb, 0, none⟩ (.slice ua1 un1 uc1)).setCell ⟨tb, 1, none⟩ (.slice ua2 un2 uc2)).setCell ⟨tb, 2, none⟩ (.slice ua3 un3 uc3)).heap.size) := by have h1 := DZ5.out; have h2 := HW.out.size; unfold Hid; simp [World.setCell]; omega
    replace TZ : Hid (tb < (((q5.setCell ⟨tb, 0, none⟩ (.slice ua1 un1 uc1)).setCell ⟨tb, 1, none⟩ (.slice ua2 un2 uc2)).setCell ⟨tb, 2, none⟩ (.slice ua3 un3 uc3)).heap.size) := by have h1 := TZ.out; have h2 := HW.out.size; unfold Hid; simp [World.setCell]; omega
    replace TBB := UB
    clear UB HW HC HCS HUT g0 g1 g2 f0 f1 f2
    generalize (((q5.setCell ⟨tb, 0, none⟩ (.slice ua1 un1 uc1)).setCell ⟨tb, 1, none⟩ (.slice ua2 un2 uc2)).setCell ⟨tb, 2, none⟩ (.slice ua3 un3 uc3)) = Z5 at *
    have UQ := hide (tab_lists UL.out)
    have DQ := hide (tab_lists DL5.out)
    obtain rfl : un1 = dn5 := by rw [← UQ.out.1.size, ← DQ.out.1.size]
    obtain rfl : un2 = en5 := by rw [← UQ.out.2.1.size, ← DQ.out.2.1.size]
    obtain rfl : un3 = gn5 := by rw [← UQ.out.2.2.size, ← DQ.out.2.2.size]
    have HFW : Hid (un1 ≤ 1000 ∧ un2 ≤ 1000 ∧ un3 ≤ 1000) := by
      have h := mv_few5 l r t p pr
      have s1 := UQ.out.1.size
      have s2 := UQ.out.2.1.size
      have s3 := UQ.out.2.2.size
      exact ⟨by omega, by omega, by omega⟩
    have u0 := TBB.out.cell 0 _ rfl
    have u1 := TBB.out.cell 1 _ rfl
    have u2 := TBB.out.cell 2 _ rfl
    have v0' := DB5.out.cell 0 _ rfl
    have v1' := DB5.out.cell 1 _ rfl
    have v2' := DB5.out.cell 2 _ rfl
    go_wp2_with fail
    refine Calls.mono (same_any (HE.out.below B.out) uv (ofE (Good l r t) (OkP l p [0, 1, 2, 3] ∧ (0 ≤ pr ∧ pr ≤ 255))) HUV.out _ _ _ _ UQ.out.1 _ _ _ _ UQ.out.2.1 _ _ _ _ UQ.out.2.2 _ _ DQ.out.1 _ _ DQ.out.2.1 _ _ DQ.out.2.2 HFW.out.1 HFW.out.2.1 HFW.out.2.2) ?_
    rintro e s5 ⟨rfl, xs⟩
    replace B := hide (chain B.out xs)
    clear xs u0 u1 u2 v0' v1' v2'
    go_wp2
    go_ret
    exact ⟨rfl, B.out⟩
end Go.Proofs.YtgbckpojoagbnaaGreatDoor.readyMoves
