/-
  The law ReadyForms, walked.
-/
import Derived.Test.YtinhgcpehnjhbaaDoorRyLaw
namespace Go.Proofs.YtinhgcpehnjhbaaDoor.readyForms
open Classical
open Go.RowKit
set_option linter.unusedVariables false
set_option linter.unusedSimpArgs false

set_option maxRecDepth 100000 in
set_option maxHeartbeats 4000000 in
theorem law (pa : Option Addr) (pn pc : Nat) (l : List Pro) (ra : Option Addr) (rn rc : Nat) (r : List Int) (ta : Option Addr) (tn tc : Nat) (t : List Tm) (w : World) {E : Nat → Addr} (he : Errs w E) (hp : Pros w pa pn pc l) (hr : Is w ra rn rc r) (ht : Tms w ta tn tc t) (hmp : pn ≤ 9223372036854775807) (hmr : rn ≤ 9223372036854775807) (hmt : tn ≤ 9223372036854775807) :
    Calls Tryd.prog 3 #[.agg #[.slice pa pn pc, .slice ra rn rc, .slice ta tn tc]] w fun e w' => e = .returned (.bool true) ∧ Below w.heap.size w w' := by
  have X := new_below w (.cells #[.slice pa pn pc, .slice ra rn rc, .slice ta tn tc] 26)
  have BX : Hid (Bl (w.alloc (.cells #[.slice pa pn pc, .slice ra rn rc, .slice ta tn tc] 26)) w.heap.size [.slice pa pn pc, .slice ra rn rc, .slice ta tn tc]) := bl_alloc w #[.slice pa pn pc, .slice ra rn rc, .slice ta tn tc] 26
  have hz : Hid (w.heap.size < (w.alloc (.cells #[.slice pa pn pc, .slice ra rn rc, .slice ta tn tc] 26)).heap.size) := by unfold Hid; simp
  have B0 := hide X
  have HE := hide (he.below X)
  have HS := hide (hp.below X)
  have HI := hide (hr.below X)
  have HT := hide (ht.below X)
  clear X he hp hr ht
  go_enter Tryd.func3, Tryd.ntmps3
  go_upto_region 1 with fail
  generalize w.alloc (.cells #[.slice pa pn pc, .slice ra rn rc, .slice ta tn tc] 26) = W0 at *
  go_wp2_with fail
  refine Calls.mono (awake_any HE.out) ?_
  rintro e w1 ⟨rfl, b1⟩
  have B1 := hide b1
  clear b1
  go_wp2_with fail
  refine Calls.mono (some_any w1) ?_
  rintro e w2 ⟨g1, g2, g3, rfl, p1, i1, t1, b2⟩
  have P1 := hide p1
  have I1 := hide i1
  have T1 := hide t1
  have B2 := hide (chain B1.out b2)
  clear p1 i1 t1 b2
  go_wp2_with fail
  refine Calls.mono (to_any w2 _ _ _ ⟨_, _, _, rfl⟩ ⟨_, _, _, rfl⟩ ⟨_, _, _, rfl⟩) ?_
  rintro e w3 ⟨rfl, b3⟩
  have B3 := hide (chain B2.out b3)
  have P2 := hide (P1.out.below b3)
  have I2 := hide (I1.out.below b3)
  have T2 := hide (T1.out.below b3)
  clear b3
  go_wp2_with fail
  refine Calls.mono (rgood_any (HE.out.below B3.out).er3 _ 4 4 someP P2.out _ 2 2 [1, 0] I2.out _ 1 1 [⟨3, 10⟩] T2.out (by decide) (by decide) (by decide)) ?_
  rintro e w4 ⟨rfl, b4⟩
  rw [decide_eq_true some_good]
  have B4 := hide (chain B3.out b4)
  have X := new_below w4 (.cells #[.int .i64 0] 3)
  have B5 := hide (chain B4.out X)
  have HW : Hid (Is (w4.alloc (.cells #[.int .i64 0] 3)) (some ⟨w4.heap.size, 0, none⟩) 1 1 [0]) := rcs_alloc w4 [(0 : Int)] 3 ci1 rfl
  have HP0 : Hid (Pros (w4.alloc (.cells #[.int .i64 0] 3)) none 0 0 []) := ⟨rfl, rfl, Nat.le_refl _, fun _ => ⟨rfl, rfl⟩, fun j v hv => by simp at hv⟩
  have HT0 : Hid (Tms (w4.alloc (.cells #[.int .i64 0] 3)) none 0 0 []) := ⟨rfl, rfl, Nat.le_refl _, fun _ => ⟨rfl, rfl⟩, fun j v hv => by simp at hv⟩
  clear b4 X P1 I1 T1 P2 I2 T2 B1 B2 B3
  go_wp2_with fail
  generalize w4.alloc (.cells #[.int .i64 0] 3) = W5 at *
  refine Calls.mono (rgood_any (HE.out.below B5.out).er3 none 0 0 [] HP0.out (some ⟨w4.heap.size, 0, none⟩) 1 1 [0] HW.out none 0 0 [] HT0.out (by decide) (by decide) (by decide)) ?_
  rintro e w6 ⟨rfl, b6⟩
  rw [decide_eq_false small_bad]
  have B6 := hide (chain B5.out b6)
  have BX6 := hide (BX.out.below hz.out B6.out)
  clear b6 HP0 HT0 HW B4 B5
  have c0 := BX6.out.cell 0 _ rfl
  have c1 := BX6.out.cell 1 _ rfl
  have c2 := BX6.out.cell 2 _ rfl
  go_wp2_with fail
  refine Calls.mono (rrgood_any w6 pa pn pc l (HS.out.below B6.out) ra rn rc r (HI.out.below B6.out) ta tn tc t (HT.out.below B6.out)) ?_
  rintro e w7 ⟨rfl, b7⟩
  have B7 := hide (chain B6.out b7)
  have BX7 := hide (BX.out.below hz.out B7.out)
  clear b7 c0 c1 c2 B6 BX6
  have c0 := BX7.out.cell 0 _ rfl
  have c1 := BX7.out.cell 1 _ rfl
  have c2 := BX7.out.cell 2 _ rfl
  go_wp2_with fail
  refine Calls.mono (rpick_any w7 pa pn pc l (HS.out.below B7.out) ra rn rc r (HI.out.below B7.out) ta tn tc t (HT.out.below B7.out)) ?_
  rintro e w8 ⟨rfl, b8⟩
  have B8 := hide (chain B7.out b8)
  have BX8 := hide (BX.out.below hz.out B8.out)
  clear b8 c0 c1 c2 B7 BX7
  have c0 := BX8.out.cell 0 _ rfl
  have c1 := BX8.out.cell 1 _ rfl
  have c2 := BX8.out.cell 2 _ rfl
  go_wp2_with fail
  refine Calls.mono (to_any w8 _ _ _ ⟨_, _, _, rfl⟩ ⟨_, _, _, rfl⟩ ⟨_, _, _, rfl⟩) ?_
  rintro e w9 ⟨rfl, b9⟩
  have B9 := hide (chain B8.out b9)
  clear b9
  go_wp2_with fail
  refine Calls.mono (rgood_any (HE.out.below B9.out).er3 pa pn pc l (HS.out.below B9.out) ra rn rc r (HI.out.below B9.out) ta tn tc t (HT.out.below B9.out) hmp hmr hmt) ?_
  rintro e w10 ⟨rfl, b10⟩
  have B10 := hide (chain B9.out b10)
  have BX10 := hide (BX.out.below hz.out B10.out)
  clear b10 c0 c1 c2 B8 B9 BX8
  have c0 := BX10.out.cell 0 _ rfl
  have c1 := BX10.out.cell 1 _ rfl
  have c2 := BX10.out.cell 2 _ rfl
  obtain ⟨PE, hPE⟩ : ∃ x, pickE l r t = x := ⟨_, rfl⟩
  obtain ⟨PP, hPP⟩ : ∃ x, pickP l r t = x := ⟨_, rfl⟩
  rw [hPE, hPP]
  have HPE := hide hPE
  have HPP := hide hPP
  clear hPE hPP
  generalize decide (Good l r t) = gd at *
  go_wp2_with fail
  refine Calls.mono (to_any w10 _ _ _ ⟨_, _, _, rfl⟩ ⟨_, _, _, rfl⟩ ⟨_, _, _, rfl⟩) ?_
  rintro e w11 ⟨rfl, b11⟩
  have B11 := hide (chain B10.out b11)
  clear b11
  go_wp2_with fail
  refine Calls.mono (pick_any (HE.out.below B11.out) pa pn pc l (HS.out.below B11.out) ra rn rc r (HI.out.below B11.out) ta tn tc t (HT.out.below B11.out) hmp hmr hmt) ?_
  rintro e w12 ⟨v, rfl, hv, b12⟩
  rw [HPP.out]
  rw [HPE.out] at hv
  have B12 := hide (chain B11.out b12)
  have HV := hide hv
  clear b12 hv
  have HPL := hide (plain_any (HE.out.below B12.out) v PE HV.out (PE : Int))
  go_wp2_with fail
  refine Calls.mono HPL.out ?_
  rintro e w13 ⟨rfl, b13⟩
  rw [show ((PE : Int) == (PE : Int)) = true by simp]
  have B13 := hide (B0.out.trans ((chain B12.out b13).mono B0.out.size))
  clear b13
  go_wp2
  go_ret
  exact ⟨rfl, B13.out⟩
end Go.Proofs.YtinhgcpehnjhbaaDoor.readyForms
