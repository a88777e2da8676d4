/-
  The law ReadyWakes, walked.
-/
import Derived.Test.YtfbmlmdgonoflaaDoorWkDoc
namespace Go.Proofs.YtfbmlmdgonoflaaDoor.readyWakes
open Classical
open Go.RowKit
set_option linter.unusedVariables false
set_option linter.unusedSimpArgs false

theorem tl_below {w w' : World} {a1 : Option Addr} {n1 c1 : Nat} {a2 : Option Addr} {n2 c2 : Nat} {a3 : Option Addr} {n3 c3 : Nat} {l : List Pro} {r : List Int} {t : List Tm} (h : Pros w a1 n1 c1 l ∧ Is w a2 n2 c2 r ∧ Tms w a3 n3 c3 t) (hb : Below w.heap.size w w') : Pros w' a1 n1 c1 l ∧ Is w' a2 n2 c2 r ∧ Tms w' a3 n3 c3 t :=
  ⟨h.1.below hb, h.2.1.below hb, h.2.2.below hb⟩

set_option maxRecDepth 100000 in
set_option maxHeartbeats 4000000 in
theorem same_any {w : World} {E : Nat → Addr} (he : Errs w E) (v : Value) (i : Nat) (hv : Bare E v i) (pa : Option Addr) (pn pc : Nat) (l : List Pro) (hp : Pros w pa pn pc l) (ra : Option Addr) (rn rc : Nat) (r : List Int) (hr : Is w ra rn rc r) (ta : Option Addr) (tn tc : Nat) (t : List Tm) (ht : Tms w ta tn tc t)
    (pa' : Option Addr) (pc' : Nat) (hp' : Pros w pa' pn pc' l) (ra' : Option Addr) (rc' : Nat) (hr' : Is w ra' rn rc' r) (ta' : Option Addr) (tc' : Nat) (ht' : Tms w ta' tn tc' t) (hmp : pn ≤ 1000) (hmr : rn ≤ 1000) (hmt : tn ≤ 1000) :
    Calls Tryd.prog 16 #[.agg #[.slice pa pn pc, .slice ra rn rc, .slice ta tn tc], v, .agg #[.slice pa' pn pc', .slice ra' rn rc', .slice ta' tn tc'], .int .i64 (i : Int)] w fun e w' => e = .returned (.bool true) ∧ Below w.heap.size w w' := by
  have X1 := new_below w (.cells #[.slice pa pn pc, .slice ra rn rc, .slice ta tn tc] 32)
  have X2 := new_below (w.alloc (.cells #[.slice pa pn pc, .slice ra rn rc, .slice ta tn tc] 32)) (.cells #[.slice pa' pn pc', .slice ra' rn rc', .slice ta' tn tc'] 26)
  have BX0 : Bl (w.alloc (.cells #[.slice pa pn pc, .slice ra rn rc, .slice ta tn tc] 32)) w.heap.size [.slice pa pn pc, .slice ra rn rc, .slice ta tn tc] := bl_alloc w #[.slice pa pn pc, .slice ra rn rc, .slice ta tn tc] 32
  have BX := hide (BX0.below (by simp) X2)
  have BG : Hid (Bl ((w.alloc (.cells #[.slice pa pn pc, .slice ra rn rc, .slice ta tn tc] 32)).alloc (.cells #[.slice pa' pn pc', .slice ra' rn rc', .slice ta' tn tc'] 26)) (w.heap.size + 1) [.slice pa' pn pc', .slice ra' rn rc', .slice ta' tn tc']) := by
    have := bl_alloc (w.alloc (.cells #[.slice pa pn pc, .slice ra rn rc, .slice ta tn tc] 32)) #[.slice pa' pn pc', .slice ra' rn rc', .slice ta' tn tc'] 26
    rw [show (w.alloc (.cells #[.slice pa pn pc, .slice ra rn rc, .slice ta tn tc] 32)).heap.size = w.heap.size + 1 by simp] at this
    exact this
  have HB0 := hide (chain X1 X2)
  have hz : Hid (w.heap.size + 1 < ((w.alloc (.cells #[.slice pa pn pc, .slice ra rn rc, .slice ta tn tc] 32)).alloc (.cells #[.slice pa' pn pc', .slice ra' rn rc', .slice ta' tn tc'] 26)).heap.size) := by unfold Hid; simp
  have HP := hide (hp.below HB0.out)
  have HR := hide (hr.below HB0.out)
  have HT := hide (ht.below HB0.out)
  have HP' := hide (hp'.below HB0.out)
  have HR' := hide (hr'.below HB0.out)
  have HT' := hide (ht'.below HB0.out)
  have HE := hide (he.below HB0.out)
  have HV := hide hv
  clear X1 X2 BX0 hp hr ht hp' hr' ht' he hv
  go_enter Tryd.func16, Tryd.ntmps16
  go_upto_region 1 with fail
  generalize (w.alloc (.cells #[.slice pa pn pc, .slice ra rn rc, .slice ta tn tc] 32)).alloc (.cells #[.slice pa' pn pc', .slice ra' rn rc', .slice ta' tn tc'] 26) = W0 at *
  have HW := hide (Below.refl W0.heap.size W0)
  have hl1 : Hid (w.heap.size < W0.heap.size) := Nat.lt_of_succ_lt hz.out
  go_region_held3 (fun wz => wz.cell? ⟨w.heap.size, 0, none⟩ = some (.slice pa pn pc) ∧ wz.cell? ⟨w.heap.size, 1, none⟩ = some (.slice ra rn rc) ∧ wz.cell? ⟨w.heap.size, 2, none⟩ = some (.slice ta tn tc) ∧ wz.cell? ⟨w.heap.size + 1, 0, none⟩ = some (.slice pa' pn pc') ∧ wz.cell? ⟨w.heap.size + 1, 1, none⟩ = some (.slice ra' rn rc') ∧ wz.cell? ⟨w.heap.size + 1, 2, none⟩ = some (.slice ta' tn tc'))
    (first | exact held6 BX.out hl1.out BG.out hz.out HW.out | exact held6 BX.out hl1.out BG.out hz.out HW.out.drew)
    (first
      | (go_at_call 14; refine (plain_any (HE.out.below (by first | exact HW.out | exact HW.out.drew)) v i HV.out (i : Int)).mono ?_; rintro e wp ⟨rfl, bp⟩; rw [beq_self_eq_true]; have HW := hide (chain HW.out (by first | exact bp | exact undrewB bp)); clear bp)
      | (go_at_call 29; refine (from_any _ _ _ _ ⟨_, _, _, rfl⟩ ⟨_, _, _, rfl⟩ ⟨_, _, _, rfl⟩).mono ?_; rintro e wf ⟨rfl, bf⟩; have HW := hide (chain HW.out (by first | exact bf | exact undrewB bf)); clear bf)
      | (go_at_call 28; refine (requal_same _ pa pn pc _ (HP.out.below HW.out) ra rn rc _ (HR.out.below HW.out) ta tn tc _ (HT.out.below HW.out) pa' pc' (HP'.out.below HW.out) ra' rc' (HR'.out.below HW.out) ta' tc' (HT'.out.below HW.out) (by omega) (by omega) (by omega)).mono ?_; rintro e wq ⟨rfl, bf⟩; have HW := hide (chain HW.out (by first | exact bf | exact undrewB bf)); clear bf)
      | fail)
  have B9 := hide (HB0.out.trans (HW.out.mono HB0.out.size))
  go_wp2
  go_ret
  exact ⟨rfl, B9.out⟩
theorem wa_few (l : List Pro) (r : List Int) (t : List Tm) (wt ob x : Int) : (ownT (Good l r t) (wakeAll l r t (waitsOf l wt ob) x).1).length ≤ 1000 ∧ (ownT (Good l r t) (wakeAll l r t (waitsOf l wt ob) x).2.1).length ≤ 1000 ∧ (ownT (Good l r t) (wakeAll l r t (waitsOf l wt ob) x).2.2).length ≤ 1000 := by
  by_cases hg : Good l r t
  · have h1 := hg.1
    have h2 := goodR_few hg.2.2.1 hg.1
    have h3 := hg.tfew
    have h4 := waitsK_len l wt ob l.length
    simp only [ownT, if_pos hg]
    refine ⟨by rw [wakeAll_len]; omega, ?_, Nat.le_trans (wakeAll_tms l r t x _).length_le (by omega)⟩
    rw [wakeAll_rdy, List.length_append]
    unfold waitsOf
    omega
  · simp [ownT, hg]
theorem fi_few (l : List Pro) (r : List Int) (t : List Tm) (now : Int) : (ownT (Good l r t) (firedI t now)).length ≤ 8 := by
  by_cases hg : Good l r t
  · simp only [ownT, if_pos hg]
    unfold firedI
    rw [List.length_map]
    exact Nat.le_trans (fired_len t now) hg.tfew
  · simp [ownT, hg]
theorem fa_few (l : List Pro) (r : List Int) (t : List Tm) (now : Int) : (ownT (Good l r t) (fireAll l r (firedI t now)).1).length ≤ 1000 ∧ (ownT (Good l r t) (fireAll l r (firedI t now)).2).length ≤ 1000 ∧ (ownT (Good l r t) (left t now)).length ≤ 1000 := by
  have h0 := fi_few l r t now
  by_cases hg : Good l r t
  · have h1 := hg.1
    have h2 := goodR_few hg.2.2.1 hg.1
    have h3 := hg.tfew
    simp only [ownT, if_pos hg] at h0 ⊢
    refine ⟨by rw [fireAll_len]; omega, ?_, Nat.le_trans (List.length_filter_le _ _) (by omega)⟩
    rw [fireAll_rdy, List.length_append]
    omega
  · simp [ownT, hg]

set_option maxRecDepth 100000 in
set_option maxHeartbeats 8000000 in
theorem law (pa : Option Addr) (pn pc : Nat) (l : List Pro) (ra : Option Addr) (rn rc : Nat) (r : List Int) (ta : Option Addr) (tn tc : Nat) (t : List Tm) (p wt ob du pr st nw x : Int) (w : World) {E : Nat → Addr} (he : Errs w E) (hp : Pros w pa pn pc l) (hr : Is w ra rn rc r) (ht : Tms w ta tn tc t) (hmp : pn ≤ 1353245080400) (hmr : rn ≤ 9223372036854775807) (hmt : tn ≤ 9223372036854775807) :
    Calls Tryd.prog 3 #[.agg #[.slice pa pn pc, .slice ra rn rc, .slice ta tn tc, .int .i64 p, .int .i64 wt, .int .i64 ob, .int .i64 du, .int .i64 pr, .int .i64 st, .int .i64 nw, .int .u32 x]] w fun e w' => e = .returned (.bool true) ∧ Below w.heap.size w w' := by
  have X := new_below w (.cells #[.slice pa pn pc, .slice ra rn rc, .slice ta tn tc, .int .i64 p, .int .i64 wt, .int .i64 ob, .int .i64 du, .int .i64 pr, .int .i64 st, .int .i64 nw, .int .u32 x] 29)
  have BX : Hid (Bl (w.alloc (.cells #[.slice pa pn pc, .slice ra rn rc, .slice ta tn tc, .int .i64 p, .int .i64 wt, .int .i64 ob, .int .i64 du, .int .i64 pr, .int .i64 st, .int .i64 nw, .int .u32 x] 29)) w.heap.size [.slice pa pn pc, .slice ra rn rc, .slice ta tn tc, .int .i64 p, .int .i64 wt, .int .i64 ob, .int .i64 du, .int .i64 pr, .int .i64 st, .int .i64 nw, .int .u32 x]) := bl_alloc w #[.slice pa pn pc, .slice ra rn rc, .slice ta tn tc, .int .i64 p, .int .i64 wt, .int .i64 ob, .int .i64 du, .int .i64 pr, .int .i64 st, .int .i64 nw, .int .u32 x] 29
  have hz : Hid (w.heap.size < (w.alloc (.cells #[.slice pa pn pc, .slice ra rn rc, .slice ta tn tc, .int .i64 p, .int .i64 wt, .int .i64 ob, .int .i64 du, .int .i64 pr, .int .i64 st, .int .i64 nw, .int .u32 x] 29)).heap.size) := by unfold Hid; simp
  have B := hide X
  have HE := hide he
  have HS := hide hp
  have HI := hide hr
  have HT := hide ht
  have HL : Hid (l.length = pn) := hp.size
  clear X he hp hr ht
  go_enter Tryd.func3, Tryd.ntmps3
  go_upto_region 1 with fail
  generalize w.alloc (.cells #[.slice pa pn pc, .slice ra rn rc, .slice ta tn tc, .int .i64 p, .int .i64 wt, .int .i64 ob, .int .i64 du, .int .i64 pr, .int .i64 st, .int .i64 nw, .int .u32 x] 29) = W0 at *
  go_wp2_with fail
  refine Calls.mono (some_any W0) ?_
  rintro e w1 ⟨g1, g2, g3, rfl, p1, i1, t1, x1⟩
  replace BX := hide (BX.out.below hz.out x1)
  replace hz : Hid (w.heap.size < w1.heap.size) := Nat.lt_of_lt_of_le hz.out x1.size
  replace B := hide (chain B.out x1)
  have P1 := hide p1
  have I1 := hide i1
  have T1 := hide t1
  clear p1 i1 t1 x1
  go_wp2_with fail
  refine Calls.mono (to_any w1 _ _ _ ⟨_, _, _, rfl⟩ ⟨_, _, _, rfl⟩ ⟨_, _, _, rfl⟩) ?_
  rintro e w2 ⟨rfl, x2⟩
  replace BX := hide (BX.out.below hz.out x2)
  replace hz : Hid (w.heap.size < w2.heap.size) := Nat.lt_of_lt_of_le hz.out x2.size
  replace B := hide (chain B.out x2)
  replace P1 := hide (P1.out.below x2)
  replace I1 := hide (I1.out.below x2)
  replace T1 := hide (T1.out.below x2)
  clear x2
  go_wp2_with fail
  refine Calls.mono (waiters_any w2 _ 4 4 someP P1.out _ 2 2 _ 1 1 3 1 (by decide)) ?_
  rintro e w3 ⟨sv, rfl, hsv, x3⟩
  rw [show waitsOf someP 3 1 = [2] by decide] at hsv
  obtain ⟨sa, sc, rfl, si⟩ := iown_is hsv
  have XA := new_below w3 (.cells #[.int .i64 2] 3)
  have x3 := chain x3 XA
  have SI := hide (si.below XA)
  have SJ : Hid (Is (w3.alloc (.cells #[.int .i64 2] 3)) (some ⟨w3.heap.size, 0, none⟩) 1 1 [2]) := rcs_alloc w3 [2] 3 ci1 rfl
  replace BX := hide (BX.out.below hz.out x3)
  replace hz : Hid (w.heap.size < (w3.alloc (.cells #[.int .i64 2] 3)).heap.size) := Nat.lt_of_lt_of_le hz.out x3.size
  replace B := hide (chain B.out x3)
  clear hsv si XA x3 P1 I1 T1
  go_wp2_with fail
  refine Calls.mono (equalInts_any _ sa 1 sc [2] SI.out _ 1 1 [2] SJ.out (by decide) (by decide)) ?_
  rintro e w4 ⟨rfl, x4⟩
  replace BX := hide (BX.out.below hz.out x4)
  replace hz : Hid (w.heap.size < w4.heap.size) := Nat.lt_of_lt_of_le hz.out x4.size
  replace B := hide (chain B.out x4)
  rw [decide_eq_true rfl]
  clear x4 SI SJ
  go_wp2_with fail
  refine Calls.mono (some_any w4) ?_
  rintro e w5 ⟨g1, g2, g3, rfl, p1, i1, t1, x1⟩
  replace BX := hide (BX.out.below hz.out x1)
  replace hz : Hid (w.heap.size < w5.heap.size) := Nat.lt_of_lt_of_le hz.out x1.size
  replace B := hide (chain B.out x1)
  have P1 := hide p1
  have I1 := hide i1
  have T1 := hide t1
  clear p1 i1 t1 x1
  go_wp2_with fail
  refine Calls.mono (to_any w5 _ _ _ ⟨_, _, _, rfl⟩ ⟨_, _, _, rfl⟩ ⟨_, _, _, rfl⟩) ?_
  rintro e w6 ⟨rfl, x2⟩
  replace BX := hide (BX.out.below hz.out x2)
  replace hz : Hid (w.heap.size < w6.heap.size) := Nat.lt_of_lt_of_le hz.out x2.size
  replace B := hide (chain B.out x2)
  replace P1 := hide (P1.out.below x2)
  replace I1 := hide (I1.out.below x2)
  replace T1 := hide (T1.out.below x2)
  clear x2
  go_wp2_with fail
  refine Calls.mono (fire_any (HE.out.below B.out).er9 _ 4 4 someP P1.out _ 2 2 [1, 0] I1.out _ 1 1 [⟨3, 10⟩] T1.out (by decide) (by decide) (by decide) 10) ?_
  rintro e w7 ⟨sa1, sn1, sc1, sa2, sn2, sc2, sa3, sn3, sc3, sx, sv, rfl, hsv, hst, hsx, x7⟩
  rw [show ownE (Good someP [1, 0] [⟨3, 10⟩]) = 0 from if_pos some_good] at hsv
  rw [show ownT (Good someP [1, 0] [⟨3, 10⟩]) (firedI [⟨3, 10⟩] 10) = [3] from (if_pos some_good).trans (by decide)] at hsx
  rw [show ownT (Good someP [1, 0] [⟨3, 10⟩]) (fireAll someP [1, 0] (firedI [⟨3, 10⟩] 10)).2 = [1, 0, 3] from (if_pos some_good).trans (by decide)] at hst
  obtain rfl := bare0 hsv
  obtain ⟨sxa, sxc, rfl, sxi⟩ := iown_is hsx
  obtain ⟨-, sri, -⟩ := tab_lists hst
  obtain rfl : sn2 = 3 := sri.size.symm
  have XA := new_below w7 (.cells #[.slice sa1 sn1 sc1, .slice sa2 3 sc2, .slice sa3 sn3 sc3] 32)
  have x8 := chain x7 XA
  have TB : Hid (Bl (w7.alloc (.cells #[.slice sa1 sn1 sc1, .slice sa2 3 sc2, .slice sa3 sn3 sc3] 32)) w7.heap.size [.slice sa1 sn1 sc1, .slice sa2 3 sc2, .slice sa3 sn3 sc3]) := bl_alloc w7 #[.slice sa1 sn1 sc1, .slice sa2 3 sc2, .slice sa3 sn3 sc3] 32
  have TZ : Hid (w7.heap.size < (w7.alloc (.cells #[.slice sa1 sn1 sc1, .slice sa2 3 sc2, .slice sa3 sn3 sc3] 32)).heap.size) := by unfold Hid; simp
  have TWN : Hid (w.heap.size < w7.heap.size) := Nat.lt_of_lt_of_le hz.out x7.size
  have XI := hide (sxi.below XA)
  have RI := hide (sri.below XA)
  replace BX := hide (BX.out.below hz.out x8)
  replace hz : Hid (w.heap.size < (w7.alloc (.cells #[.slice sa1 sn1 sc1, .slice sa2 3 sc2, .slice sa3 sn3 sc3] 32)).heap.size) := Nat.lt_of_lt_of_le hz.out x8.size
  replace B := hide (chain B.out x8)
  clear hsv hst hsx x7 sxi sri XA x8 P1 I1 T1
  go_upto_region 4 with fail
  generalize w7.alloc (.cells #[.slice sa1 sn1 sc1, .slice sa2 3 sc2, .slice sa3 sn3 sc3] 32) = W8 at *
  generalize w7.heap.size = tb at *
  have XA := new_below W8 (.cells #[.int .i64 3] 3)
  have XJ : Hid (Is (W8.alloc (.cells #[.int .i64 3] 3)) (some ⟨W8.heap.size, 0, none⟩) 1 1 [3]) := rcs_alloc W8 [3] 3 ci1 rfl
  replace XI := hide (XI.out.below XA)
  replace RI := hide (RI.out.below XA)
  replace TB := hide (TB.out.below TZ.out XA)
  replace TZ : Hid (tb < (W8.alloc (.cells #[.int .i64 3] 3)).heap.size) := Nat.lt_of_lt_of_le TZ.out XA.size
  replace BX := hide (BX.out.below hz.out XA)
  replace hz : Hid (w.heap.size < (W8.alloc (.cells #[.int .i64 3] 3)).heap.size) := Nat.lt_of_lt_of_le hz.out XA.size
  replace B := hide (chain B.out XA)
  clear XA
  go_wp2_with fail
  refine Calls.mono (equalInts_any _ sxa 1 sxc [3] XI.out _ 1 1 [3] XJ.out (by decide) (by decide)) ?_
  rintro e w9 ⟨rfl, x9⟩
  rw [decide_eq_true rfl]
  replace TB := hide (TB.out.below TZ.out x9)
  replace TZ : Hid (tb < w9.heap.size) := Nat.lt_of_lt_of_le TZ.out x9.size
  replace RI := hide (RI.out.below x9)
  replace BX := hide (BX.out.below hz.out x9)
  replace hz : Hid (w.heap.size < w9.heap.size) := Nat.lt_of_lt_of_le hz.out x9.size
  replace B := hide (chain B.out x9)
  clear x9 XI XJ
  have XA := new_below w9 (.cells #[.int .i64 1, .int .i64 0, .int .i64 3] 3)
  have RJ : Hid (Is (w9.alloc (.cells #[.int .i64 1, .int .i64 0, .int .i64 3] 3)) (some ⟨w9.heap.size, 0, none⟩) 3 3 [1, 0, 3]) := rcs_alloc w9 [1, 0, 3] 3 ci1 rfl
  replace RI := hide (RI.out.below XA)
  have t1 := TB.out.cell 1 _ rfl
  replace TB := hide (TB.out.below TZ.out XA)
  replace TZ : Hid (tb < (w9.alloc (.cells #[.int .i64 1, .int .i64 0, .int .i64 3] 3)).heap.size) := Nat.lt_of_lt_of_le TZ.out XA.size
  replace BX := hide (BX.out.below hz.out XA)
  replace hz : Hid (w.heap.size < (w9.alloc (.cells #[.int .i64 1, .int .i64 0, .int .i64 3] 3)).heap.size) := Nat.lt_of_lt_of_le hz.out XA.size
  replace B := hide (chain B.out XA)
  clear XA
  go_wp2_with fail
  refine Calls.mono (equalInts_any _ sa2 3 sc2 [1, 0, 3] RI.out _ 3 3 [1, 0, 3] RJ.out (by decide) (by decide)) ?_
  rintro e w10 ⟨rfl, x10⟩
  rw [decide_eq_true rfl]
  replace TB := hide (TB.out.below TZ.out x10)
  replace TZ : Hid (tb < w10.heap.size) := Nat.lt_of_lt_of_le TZ.out x10.size
  replace BX := hide (BX.out.below hz.out x10)
  replace hz : Hid (w.heap.size < w10.heap.size) := Nat.lt_of_lt_of_le hz.out x10.size
  replace B := hide (chain B.out x10)
  clear x10 RI RJ t1
  have b0 := BX.out.cell 0 _ rfl
  have b1 := BX.out.cell 1 _ rfl
  have b2 := BX.out.cell 2 _ rfl
  have b4 := BX.out.cell 4 _ rfl
  have b5 := BX.out.cell 5 _ rfl
  go_wp2_with fail
  refine Calls.mono (rwaiters_any w10 pa pn pc l (HS.out.below B.out) ra rn rc ta tn tc wt ob hmp) ?_
  rintro e w11 ⟨wv, rfl, hwv, x11⟩
  obtain ⟨wa, wc, rfl, wi⟩ := iown_is hwv
  have WI := hide wi
  replace BX := hide (BX.out.below hz.out x11)
  replace hz : Hid (w.heap.size < w11.heap.size) := Nat.lt_of_lt_of_le hz.out x11.size
  replace B := hide (chain B.out x11)
  replace TB := hide (TB.out.below TZ.out x11)
  replace TZ : Hid (tb < w11.heap.size) := Nat.lt_of_lt_of_le TZ.out x11.size
  clear hwv wi x11
  clear b0 b1 b2 b4 b5
  have b0 := BX.out.cell 0 _ rfl
  have b1 := BX.out.cell 1 _ rfl
  have b2 := BX.out.cell 2 _ rfl
  have b4 := BX.out.cell 4 _ rfl
  have b5 := BX.out.cell 5 _ rfl
  go_wp2_with fail
  refine Calls.mono (rbest_any w11 pa pn pc l (HS.out.below B.out) ra rn rc r (HI.out.below B.out) ta tn tc t (HT.out.below B.out) wt ob) ?_
  rintro e w12 ⟨rfl, x12⟩
  replace BX := hide (BX.out.below hz.out x12)
  replace hz : Hid (w.heap.size < w12.heap.size) := Nat.lt_of_lt_of_le hz.out x12.size
  replace B := hide (chain B.out x12)
  replace TB := hide (TB.out.below TZ.out x12)
  replace WI := hide (WI.out.below x12)
  replace TZ : Hid (tb < w12.heap.size) := Nat.lt_of_lt_of_le TZ.out x12.size
  clear x12
  clear b0 b1 b2 b4 b5
  have b0 := BX.out.cell 0 _ rfl
  have b1 := BX.out.cell 1 _ rfl
  have b2 := BX.out.cell 2 _ rfl
  have b4 := BX.out.cell 4 _ rfl
  have b5 := BX.out.cell 5 _ rfl
  have b10 := BX.out.cell 10 _ rfl
  go_wp2_with fail
  refine Calls.mono (rwakeAll_any w12 pa pn pc l (HS.out.below B.out) ra rn rc r (HI.out.below B.out) ta tn tc t (HT.out.below B.out) wt ob x) ?_
  rintro e w13 ⟨da1, dn1, dc1, da2, dn2, dc2, da3, dn3, dc3, rfl, hdt, x13⟩
  have XA := new_below w13 (.cells #[.slice da1 dn1 dc1, .slice da2 dn2 dc2, .slice da3 dn3 dc3] 26)
  have x14 := chain x13 XA
  have DL := hide (hdt.below XA)
  have TD0 := hide TZ.out
  have DB : Hid (Bl (w13.alloc (.cells #[.slice da1 dn1 dc1, .slice da2 dn2 dc2, .slice da3 dn3 dc3] 26)) w13.heap.size [.slice da1 dn1 dc1, .slice da2 dn2 dc2, .slice da3 dn3 dc3]) := bl_alloc w13 #[.slice da1 dn1 dc1, .slice da2 dn2 dc2, .slice da3 dn3 dc3] 26
  have DZ : Hid (w13.heap.size < (w13.alloc (.cells #[.slice da1 dn1 dc1, .slice da2 dn2 dc2, .slice da3 dn3 dc3] 26)).heap.size) := by unfold Hid; simp
  have TND : Hid (tb < w13.heap.size) := Nat.lt_of_lt_of_le TZ.out x13.size
  replace BX := hide (BX.out.below hz.out x14)
  replace hz : Hid (w.heap.size < (w13.alloc (.cells #[.slice da1 dn1 dc1, .slice da2 dn2 dc2, .slice da3 dn3 dc3] 26)).heap.size) := Nat.lt_of_lt_of_le hz.out x14.size
  replace B := hide (chain B.out x14)
  replace TB := hide (TB.out.below TZ.out x14)
  replace WI := hide (WI.out.below x14)
  replace TZ : Hid (tb < (w13.alloc (.cells #[.slice da1 dn1 dc1, .slice da2 dn2 dc2, .slice da3 dn3 dc3] 26)).heap.size) := Nat.lt_of_lt_of_le TZ.out x14.size
  clear hdt XA x14 x13
  clear b0 b1 b2 b4 b5 b10
  go_upto_region 9 with fail
  generalize w13.alloc (.cells #[.slice da1 dn1 dc1, .slice da2 dn2 dc2, .slice da3 dn3 dc3] 26) = W14 at *
  generalize w13.heap.size = db at *
  have b0 := BX.out.cell 0 _ rfl
  have b1 := BX.out.cell 1 _ rfl
  have b2 := BX.out.cell 2 _ rfl
  have b9 := BX.out.cell 9 _ rfl
  go_wp2_with fail
  refine Calls.mono (rfire_any W14 pa pn pc l (HS.out.below B.out) ra rn rc r (HI.out.below B.out) ta tn tc t (HT.out.below B.out) nw) ?_
  rintro e w15 ⟨fa1, fn1, fc1, fa2, fn2, fc2, fa3, fn3, fc3, fx, rfl, hft, hfx, x15⟩
  obtain ⟨fxa, fxc, rfl, fxi⟩ := iown_is hfx
  have XA := new_below w15 (.cells #[.slice fa1 fn1 fc1, .slice fa2 fn2 fc2, .slice fa3 fn3 fc3] 26)
  have x16 := chain x15 XA
  have FL := hide (hft.below XA)
  have FI := hide (ownsRow_below hfx XA)
  have TF0 := hide TZ.out
  have FB : Hid (Bl (w15.alloc (.cells #[.slice fa1 fn1 fc1, .slice fa2 fn2 fc2, .slice fa3 fn3 fc3] 26)) w15.heap.size [.slice fa1 fn1 fc1, .slice fa2 fn2 fc2, .slice fa3 fn3 fc3]) := bl_alloc w15 #[.slice fa1 fn1 fc1, .slice fa2 fn2 fc2, .slice fa3 fn3 fc3] 26
  have FZ : Hid (w15.heap.size < (w15.alloc (.cells #[.slice fa1 fn1 fc1, .slice fa2 fn2 fc2, .slice fa3 fn3 fc3] 26)).heap.size) := by unfold Hid; simp
  have TNF : Hid (tb < w15.heap.size) := Nat.lt_of_lt_of_le TZ.out x15.size
  replace BX := hide (BX.out.below hz.out x16)
  replace hz : Hid (w.heap.size < (w15.alloc (.cells #[.slice fa1 fn1 fc1, .slice fa2 fn2 fc2, .slice fa3 fn3 fc3] 26)).heap.size) := Nat.lt_of_lt_of_le hz.out x16.size
  replace B := hide (chain B.out x16)
  replace TB := hide (TB.out.below TZ.out x16)
  replace WI := hide (WI.out.below x16)
  replace DL := hide (DL.out.below x16)
  replace DB := hide (DB.out.below DZ.out x16)
  replace TZ : Hid (tb < (w15.alloc (.cells #[.slice fa1 fn1 fc1, .slice fa2 fn2 fc2, .slice fa3 fn3 fc3] 26)).heap.size) := Nat.lt_of_lt_of_le TZ.out x16.size
  replace DZ : Hid (db < (w15.alloc (.cells #[.slice fa1 fn1 fc1, .slice fa2 fn2 fc2, .slice fa3 fn3 fc3] 26)).heap.size) := Nat.lt_of_lt_of_le DZ.out x16.size
  clear hft hfx fxi XA x16 x15
  clear b0 b1 b2 b9
  go_upto_region 10 with fail
  generalize (w15.alloc (.cells #[.slice fa1 fn1 fc1, .slice fa2 fn2 fc2, .slice fa3 fn3 fc3] 26)) = W16 at *
  generalize w15.heap.size = fb at *
  have HC : Hid (∀ wz, Below W16.heap.size W16 wz → (fun wz => wz.cell? ⟨w.heap.size, 0, none⟩ = some (.slice pa pn pc) ∧ wz.cell? ⟨w.heap.size, 1, none⟩ = some (.slice ra rn rc) ∧ wz.cell? ⟨w.heap.size, 2, none⟩ = some (.slice ta tn tc) ∧ wz.cell? ⟨w.heap.size, 4, none⟩ = some (.int .i64 wt) ∧ wz.cell? ⟨w.heap.size, 5, none⟩ = some (.int .i64 ob)) wz) := fun wz hq => by
    have h1 := BX.out.below hz.out hq
    exact ⟨h1.cell 0 _ rfl, h1.cell 1 _ rfl, h1.cell 2 _ rfl, h1.cell 4 _ rfl, h1.cell 5 _ rfl⟩
  have HW := hide (Below.refl W16.heap.size W16)
  go_region_held3 (fun wz => wz.cell? ⟨w.heap.size, 0, none⟩ = some (.slice pa pn pc) ∧ wz.cell? ⟨w.heap.size, 1, none⟩ = some (.slice ra rn rc) ∧ wz.cell? ⟨w.heap.size, 2, none⟩ = some (.slice ta tn tc) ∧ wz.cell? ⟨w.heap.size, 4, none⟩ = some (.int .i64 wt) ∧ wz.cell? ⟨w.heap.size, 5, none⟩ = some (.int .i64 ob))
    (first | exact HC.out _ HW.out | exact HC.out _ HW.out.drew)
    (first
      | (go_at_call 6; refine (to_any _ _ _ _ ⟨_, _, _, rfl⟩ ⟨_, _, _, rfl⟩ ⟨_, _, _, rfl⟩).mono ?_; rintro e wf ⟨rfl, bf⟩; have HW := hide (chain HW.out (by first | exact bf | exact undrewB bf)); clear bf)
      | (go_at_call 5; refine (waiters_any _ pa pn pc l (HS.out.below (chain B.out HW.out)) ra rn rc ta tn tc wt ob hmp).mono ?_; rintro e wx ⟨xv, rfl, hx, bx⟩; obtain ⟨xa, xc, rfl, xi⟩ := iown_is hx; have XI := hide xi; have HW := hide (chain HW.out (by first | exact bx | exact undrewB bx)); clear hx bx xi)
      | (go_at_call 4; refine (equalInts_any _ xa _ xc (waitsOf l wt ob) XI.out wa _ wc (waitsOf l wt ob) (WI.out.below HW.out) (by have := waitsK_len l wt ob l.length; have := HL.out; unfold waitsOf; omega) (by have := waitsK_len l wt ob l.length; have := HL.out; unfold waitsOf; omega)).mono ?_; rintro e w17 ⟨rfl, bf⟩; have HW := hide (chain HW.out (by first | exact bf | exact undrewB bf)); clear bf)
      | fail)
  try rw [decide_eq_true rfl]
  replace BX := hide (BX.out.below hz.out HW.out)
  replace hz : Hid (w.heap.size < w17.heap.size) := Nat.lt_of_lt_of_le hz.out HW.out.size
  replace B := hide (chain B.out HW.out)
  replace TB := hide (TB.out.below TZ.out HW.out)
  replace WI := hide (WI.out.below HW.out)
  replace DL := hide (DL.out.below HW.out)
  replace DB := hide (DB.out.below DZ.out HW.out)
  replace FL := hide (FL.out.below HW.out)
  replace FB := hide (FB.out.below FZ.out HW.out)
  replace FI := hide (ownsRow_below FI.out HW.out)
  replace TZ : Hid (tb < w17.heap.size) := Nat.lt_of_lt_of_le TZ.out HW.out.size
  replace DZ : Hid (db < w17.heap.size) := Nat.lt_of_lt_of_le DZ.out HW.out.size
  replace FZ : Hid (fb < w17.heap.size) := Nat.lt_of_lt_of_le FZ.out HW.out.size
  clear HW HC XI
  go_wp2
  have HC : Hid (∀ wz, Below w17.heap.size w17 wz → (fun wz => wz.cell? ⟨w.heap.size, 0, none⟩ = some (.slice pa pn pc) ∧ wz.cell? ⟨w.heap.size, 1, none⟩ = some (.slice ra rn rc) ∧ wz.cell? ⟨w.heap.size, 2, none⟩ = some (.slice ta tn tc) ∧ wz.cell? ⟨w.heap.size, 4, none⟩ = some (.int .i64 wt) ∧ wz.cell? ⟨w.heap.size, 5, none⟩ = some (.int .i64 ob)) wz) := fun wz hq => by
    have h1 := BX.out.below hz.out hq
    exact ⟨h1.cell 0 _ rfl, h1.cell 1 _ rfl, h1.cell 2 _ rfl, h1.cell 4 _ rfl, h1.cell 5 _ rfl⟩
  have HW := hide (Below.refl w17.heap.size w17)
  go_region_held3 (fun wz => wz.cell? ⟨w.heap.size, 0, none⟩ = some (.slice pa pn pc) ∧ wz.cell? ⟨w.heap.size, 1, none⟩ = some (.slice ra rn rc) ∧ wz.cell? ⟨w.heap.size, 2, none⟩ = some (.slice ta tn tc) ∧ wz.cell? ⟨w.heap.size, 4, none⟩ = some (.int .i64 wt) ∧ wz.cell? ⟨w.heap.size, 5, none⟩ = some (.int .i64 ob))
    (first | exact HC.out _ HW.out | exact HC.out _ HW.out.drew)
    (first
      | (go_at_call 6; refine (to_any _ _ _ _ ⟨_, _, _, rfl⟩ ⟨_, _, _, rfl⟩ ⟨_, _, _, rfl⟩).mono ?_; rintro e wf ⟨rfl, bf⟩; have HW := hide (chain HW.out (by first | exact bf | exact undrewB bf)); clear bf)
      | (go_at_call 13; refine (best_any (HE.out.below (chain B.out HW.out)).er9 pa pn pc l (HS.out.below (chain B.out HW.out)) ra rn rc r (HI.out.below (chain B.out HW.out)) ta tn tc t (HT.out.below (chain B.out HW.out)) (by omega) hmr hmt wt ob).mono ?_; rintro e w18 ⟨bv, rfl, hbv, bf⟩; have HBV := hide hbv; have HW := hide (chain HW.out (by first | exact bf | exact undrewB bf)); clear bf hbv)
      | fail)
  replace BX := hide (BX.out.below hz.out HW.out)
  replace hz : Hid (w.heap.size < w18.heap.size) := Nat.lt_of_lt_of_le hz.out HW.out.size
  replace B := hide (chain B.out HW.out)
  replace TB := hide (TB.out.below TZ.out HW.out)
  replace DL := hide (DL.out.below HW.out)
  replace DB := hide (DB.out.below DZ.out HW.out)
  replace FL := hide (FL.out.below HW.out)
  replace FB := hide (FB.out.below FZ.out HW.out)
  replace FI := hide (ownsRow_below FI.out HW.out)
  replace TZ : Hid (tb < w18.heap.size) := Nat.lt_of_lt_of_le TZ.out HW.out.size
  replace DZ : Hid (db < w18.heap.size) := Nat.lt_of_lt_of_le DZ.out HW.out.size
  replace FZ : Hid (fb < w18.heap.size) := Nat.lt_of_lt_of_le FZ.out HW.out.size
  clear HW HC
  go_wp2_with fail
  refine Calls.mono (plain_any (HE.out.below B.out) bv (bestE l r t wt ob) HBV.out (bestE l r t wt ob : Int)) ?_
  rintro e w19 ⟨rfl, x19⟩
  rw [beq_self_eq_true]
  have hneq : (bestP l r t wt ob != bestP l r t wt ob) = false := by simp
  replace BX := hide (BX.out.below hz.out x19)
  replace hz : Hid (w.heap.size < w19.heap.size) := Nat.lt_of_lt_of_le hz.out x19.size
  replace B := hide (chain B.out x19)
  replace TB := hide (TB.out.below TZ.out x19)
  replace DL := hide (DL.out.below x19)
  replace DB := hide (DB.out.below DZ.out x19)
  replace FL := hide (FL.out.below x19)
  replace FB := hide (FB.out.below FZ.out x19)
  replace FI := hide (ownsRow_below FI.out x19)
  replace TZ : Hid (tb < w19.heap.size) := Nat.lt_of_lt_of_le TZ.out x19.size
  replace DZ : Hid (db < w19.heap.size) := Nat.lt_of_lt_of_le DZ.out x19.size
  replace FZ : Hid (fb < w19.heap.size) := Nat.lt_of_lt_of_le FZ.out x19.size
  clear x19 HBV
  go_upto_region 15 with fail
  have HTW : Hid (tb ≠ w.heap.size) := by have := TWN.out; unfold Hid; omega
  have HC : Hid (∀ wz, Below w19.heap.size w19 wz → (fun wz => wz.cell? ⟨w.heap.size, 0, none⟩ = some (.slice pa pn pc) ∧ wz.cell? ⟨w.heap.size, 1, none⟩ = some (.slice ra rn rc) ∧ wz.cell? ⟨w.heap.size, 2, none⟩ = some (.slice ta tn tc) ∧ wz.cell? ⟨w.heap.size, 4, none⟩ = some (.int .i64 wt) ∧ wz.cell? ⟨w.heap.size, 5, none⟩ = some (.int .i64 ob) ∧ wz.cell? ⟨w.heap.size, 10, none⟩ = some (.int .u32 x)) wz) := fun wz hq => by
    have h1 := BX.out.below hz.out hq
    exact ⟨h1.cell 0 _ rfl, h1.cell 1 _ rfl, h1.cell 2 _ rfl, h1.cell 4 _ rfl, h1.cell 5 _ rfl, h1.cell 10 _ rfl⟩
  have HW := hide (Below.refl w19.heap.size w19)
  have HCS : Hid (∀ wz, Below w19.heap.size w19 wz → ∀ u v z, (fun wz => wz.cell? ⟨w.heap.size, 0, none⟩ = some (.slice pa pn pc) ∧ wz.cell? ⟨w.heap.size, 1, none⟩ = some (.slice ra rn rc) ∧ wz.cell? ⟨w.heap.size, 2, none⟩ = some (.slice ta tn tc) ∧ wz.cell? ⟨w.heap.size, 4, none⟩ = some (.int .i64 wt) ∧ wz.cell? ⟨w.heap.size, 5, none⟩ = some (.int .i64 ob) ∧ wz.cell? ⟨w.heap.size, 10, none⟩ = some (.int .u32 x)) (((wz.setCell ⟨tb, 0, none⟩ u).setCell ⟨tb, 1, none⟩ v).setCell ⟨tb, 2, none⟩ z)) := fun wz hq u v z => by
    have h1 := (((BX.out.below hz.out hq).far (g' := tb) (k := 0) (u := u) HTW.out).far (g' := tb) (k := 1) (u := v) HTW.out).far (g' := tb) (k := 2) (u := z) HTW.out
    exact ⟨h1.cell 0 _ rfl, h1.cell 1 _ rfl, h1.cell 2 _ rfl, h1.cell 4 _ rfl, h1.cell 5 _ rfl, h1.cell 10 _ rfl⟩
  go_region_held3 (fun wz => wz.cell? ⟨w.heap.size, 0, none⟩ = some (.slice pa pn pc) ∧ wz.cell? ⟨w.heap.size, 1, none⟩ = some (.slice ra rn rc) ∧ wz.cell? ⟨w.heap.size, 2, none⟩ = some (.slice ta tn tc) ∧ wz.cell? ⟨w.heap.size, 4, none⟩ = some (.int .i64 wt) ∧ wz.cell? ⟨w.heap.size, 5, none⟩ = some (.int .i64 ob) ∧ wz.cell? ⟨w.heap.size, 10, none⟩ = some (.int .u32 x))
    (first | exact HC.out _ HW.out | exact HC.out _ HW.out.drew | exact HCS.out _ HW.out _ _ _)
    (first
      | (go_at_call 6; refine (to_any _ _ _ _ ⟨_, _, _, rfl⟩ ⟨_, _, _, rfl⟩ ⟨_, _, _, rfl⟩).mono ?_; rintro e wf ⟨rfl, bf⟩; have HW := hide (chain HW.out (by first | exact bf | exact undrewB bf)); clear bf)
      | (go_at_call 15; have HSW := hide HW.out.size; refine (wakeAll_any (HE.out.below (chain B.out HW.out)).er9 pa pn pc l (HS.out.below (chain B.out HW.out)) ra rn rc r (HI.out.below (chain B.out HW.out)) ta tn tc t (HT.out.below (chain B.out HW.out)) (by omega) hmr hmt wt ob x).mono ?_; rintro e w20 ⟨ua1, un1, uc1, ua2, un2, uc2, ua3, un3, uc3, uv, rfl, huv, hut, bf⟩; have HUV := hide huv; have HUT := hide (hut.weaken HSW.out); have HW := hide (chain HW.out (by first | exact bf | exact undrewB bf)); clear bf huv hut HSW; have GB := TB.out.below TZ.out HW.out; have g0 := GB.cell 0 _ rfl; have g1 := GB.cell 1 _ rfl; have g2 := GB.cell 2 _ rfl; have f0 := GB.free 0; have f1 := GB.free 1; have f2 := GB.free 2; clear GB)
      | fail)
  have UB := hide (bl_three (TB.out.below TZ.out HW.out) (.slice ua1 un1 uc1) (.slice ua2 un2 uc2) (.slice ua3 un3 uc3))
  replace B := hide (below3 (g := tb) (.slice ua1 un1 uc1) (.slice ua2 un2 uc2) (.slice ua3 un3 uc3) (chain B.out HW.out) (Nat.le_of_lt TWN.out))
  replace BX := hide (((((BX.out.below hz.out HW.out).far (g' := tb) (k := 0) (u := .slice ua1 un1 uc1) HTW.out).far (g' := tb) (k := 1) (u := .slice ua2 un2 uc2) HTW.out).far (g' := tb) (k := 2) (u := .slice ua3 un3 uc3) HTW.out))
  replace DB := hide (((((DB.out.below DZ.out HW.out).far (g' := tb) (k := 0) (u := .slice ua1 un1 uc1) (Nat.ne_of_lt TND.out)).far (g' := tb) (k := 1) (u := .slice ua2 un2 uc2) (Nat.ne_of_lt TND.out)).far (g' := tb) (k := 2) (u := .slice ua3 un3 uc3) (Nat.ne_of_lt TND.out)))
  replace FB := hide (((((FB.out.below FZ.out HW.out).far (g' := tb) (k := 0) (u := .slice ua1 un1 uc1) (Nat.ne_of_lt TNF.out)).far (g' := tb) (k := 1) (u := .slice ua2 un2 uc2) (Nat.ne_of_lt TNF.out)).far (g' := tb) (k := 2) (u := .slice ua3 un3 uc3) (Nat.ne_of_lt TNF.out)))
  replace DL := hide ((DL.out.below HW.out).three (g := tb) TD0.out (.slice ua1 un1 uc1) (.slice ua2 un2 uc2) (.slice ua3 un3 uc3))
  replace FL := hide ((FL.out.below HW.out).three (g := tb) TF0.out (.slice ua1 un1 uc1) (.slice ua2 un2 uc2) (.slice ua3 un3 uc3))
  replace FI := hide (iown_three (ownsRow_below FI.out HW.out) (g := tb) TF0.out (.slice ua1 un1 uc1) (.slice ua2 un2 uc2) (.slice ua3 un3 uc3))
  have UL := hide (HUT.out.three (g := tb) TZ.out (.slice ua1 un1 uc1) (.slice ua2 un2 uc2) (.slice ua3 un3 uc3))
  have HSZ := hide HW.out.size
  replace hz : Hid (w.heap.size < (((w20.setCell ⟨tb, 0, none⟩ (.slice ua1 un1 uc1)).setCell ⟨tb, 1, none⟩ (.slice ua2 un2 uc2)).setCell ⟨tb, 2, none⟩ (.slice ua3 un3 uc3)).heap.size) := by have h1 := hz.out; have h2 := HW.out.size; unfold Hid; simp [World.setCell]; omega
  replace DZ : Hid (db < (((w20.setCell ⟨tb, 0, none⟩ (.slice ua1 un1 uc1)).setCell ⟨tb, 1, none⟩ (.slice ua2 un2 uc2)).setCell ⟨tb, 2, none⟩ (.slice ua3 un3 uc3)).heap.size) := by have h1 := DZ.out; have h2 := HW.out.size; unfold Hid; simp [World.setCell]; omega
  replace FZ : Hid (fb < (((w20.setCell ⟨tb, 0, none⟩ (.slice ua1 un1 uc1)).setCell ⟨tb, 1, none⟩ (.slice ua2 un2 uc2)).setCell ⟨tb, 2, none⟩ (.slice ua3 un3 uc3)).heap.size) := by have h1 := FZ.out; have h2 := HW.out.size; unfold Hid; simp [World.setCell]; omega
  replace TZ : Hid (tb < (((w20.setCell ⟨tb, 0, none⟩ (.slice ua1 un1 uc1)).setCell ⟨tb, 1, none⟩ (.slice ua2 un2 uc2)).setCell ⟨tb, 2, none⟩ (.slice ua3 un3 uc3)).heap.size) := by have h1 := TZ.out; have h2 := HW.out.size; unfold Hid; simp [World.setCell]; omega
  replace TB := UB
  clear UB HW HC HCS HSZ HUT g0 g1 g2 f0 f1 f2
  generalize (((w20.setCell ⟨tb, 0, none⟩ (.slice ua1 un1 uc1)).setCell ⟨tb, 1, none⟩ (.slice ua2 un2 uc2)).setCell ⟨tb, 2, none⟩ (.slice ua3 un3 uc3)) = W21 at *
  have HUV0 := hide HUV.out
  have UQ := hide (tab_lists UL.out)
  have DQ := hide (tab_lists DL.out)
  obtain rfl : un1 = dn1 := by rw [← UQ.out.1.size, ← DQ.out.1.size]
  obtain rfl : un2 = dn2 := by rw [← UQ.out.2.1.size, ← DQ.out.2.1.size]
  obtain rfl : un3 = dn3 := by rw [← UQ.out.2.2.size, ← DQ.out.2.2.size]
  have HFW : Hid (un1 ≤ 1000 ∧ un2 ≤ 1000 ∧ un3 ≤ 1000) := by
    have h := wa_few l r t wt ob x
    have s1 := UQ.out.1.size
    have s2 := UQ.out.2.1.size
    have s3 := UQ.out.2.2.size
    exact ⟨by omega, by omega, by omega⟩
  have u0 := TB.out.cell 0 _ rfl
  have u1 := TB.out.cell 1 _ rfl
  have u2 := TB.out.cell 2 _ rfl
  have v0 := DB.out.cell 0 _ rfl
  have v1 := DB.out.cell 1 _ rfl
  have v2 := DB.out.cell 2 _ rfl
  go_wp2_with fail
  refine Calls.mono (same_any (HE.out.below B.out) uv (ownE (Good l r t)) HUV.out _ _ _ _ UQ.out.1 _ _ _ _ UQ.out.2.1 _ _ _ _ UQ.out.2.2 _ _ DQ.out.1 _ _ DQ.out.2.1 _ _ DQ.out.2.2 HFW.out.1 HFW.out.2.1 HFW.out.2.2) ?_
  rintro e w22 ⟨rfl, xs⟩
  replace BX := hide (BX.out.below hz.out xs)
  replace hz : Hid (w.heap.size < w22.heap.size) := Nat.lt_of_lt_of_le hz.out xs.size
  replace B := hide (chain B.out xs)
  replace TB := hide (TB.out.below TZ.out xs)
  replace FL := hide (FL.out.below xs)
  replace FB := hide (FB.out.below FZ.out xs)
  replace FI := hide (ownsRow_below FI.out xs)
  replace TZ : Hid (tb < w22.heap.size) := Nat.lt_of_lt_of_le TZ.out xs.size
  replace FZ : Hid (fb < w22.heap.size) := Nat.lt_of_lt_of_le FZ.out xs.size
  clear xs u0 u1 u2 v0 v1 v2 UQ DQ UL HUV HUV0 HFW DL DB DZ TND TD0
  go_upto_region 18 with fail
  have HC : Hid (∀ wz, Below w22.heap.size w22 wz → (fun wz => wz.cell? ⟨w.heap.size, 0, none⟩ = some (.slice pa pn pc) ∧ wz.cell? ⟨w.heap.size, 1, none⟩ = some (.slice ra rn rc) ∧ wz.cell? ⟨w.heap.size, 2, none⟩ = some (.slice ta tn tc) ∧ wz.cell? ⟨w.heap.size, 9, none⟩ = some (.int .i64 nw)) wz) := fun wz hq => by
    have h1 := BX.out.below hz.out hq
    exact ⟨h1.cell 0 _ rfl, h1.cell 1 _ rfl, h1.cell 2 _ rfl, h1.cell 9 _ rfl⟩
  have HW := hide (Below.refl w22.heap.size w22)
  have HCS : Hid (∀ wz, Below w22.heap.size w22 wz → ∀ u v z, (fun wz => wz.cell? ⟨w.heap.size, 0, none⟩ = some (.slice pa pn pc) ∧ wz.cell? ⟨w.heap.size, 1, none⟩ = some (.slice ra rn rc) ∧ wz.cell? ⟨w.heap.size, 2, none⟩ = some (.slice ta tn tc) ∧ wz.cell? ⟨w.heap.size, 9, none⟩ = some (.int .i64 nw)) (((wz.setCell ⟨tb, 0, none⟩ u).setCell ⟨tb, 1, none⟩ v).setCell ⟨tb, 2, none⟩ z)) := fun wz hq u v z => by
    have h1 := (((BX.out.below hz.out hq).far (g' := tb) (k := 0) (u := u) HTW.out).far (g' := tb) (k := 1) (u := v) HTW.out).far (g' := tb) (k := 2) (u := z) HTW.out
    exact ⟨h1.cell 0 _ rfl, h1.cell 1 _ rfl, h1.cell 2 _ rfl, h1.cell 9 _ rfl⟩
  go_region_held3 (fun wz => wz.cell? ⟨w.heap.size, 0, none⟩ = some (.slice pa pn pc) ∧ wz.cell? ⟨w.heap.size, 1, none⟩ = some (.slice ra rn rc) ∧ wz.cell? ⟨w.heap.size, 2, none⟩ = some (.slice ta tn tc) ∧ wz.cell? ⟨w.heap.size, 9, none⟩ = some (.int .i64 nw))
    (first | exact HC.out _ HW.out | exact HC.out _ HW.out.drew | exact HCS.out _ HW.out _ _ _)
    (first
      | (go_at_call 6; refine (to_any _ _ _ _ ⟨_, _, _, rfl⟩ ⟨_, _, _, rfl⟩ ⟨_, _, _, rfl⟩).mono ?_; rintro e wf ⟨rfl, bf⟩; have HW := hide (chain HW.out (by first | exact bf | exact undrewB bf)); clear bf)
      | (go_at_call 8; have HSW := hide HW.out.size; refine (fire_any (HE.out.below (chain B.out HW.out)).er9 pa pn pc l (HS.out.below (chain B.out HW.out)) ra rn rc r (HI.out.below (chain B.out HW.out)) ta tn tc t (HT.out.below (chain B.out HW.out)) (by omega) hmr hmt nw).mono ?_; rintro e w23 ⟨xa1, xn1, xc1, xa2, xn2, xc2, xa3, xn3, xc3, xx, uv, rfl, huv, hut, hux, bf⟩; obtain ⟨xxa, xxc, rfl, -⟩ := iown_is hux; have HUV := hide huv; have HUT := hide (hut.weaken HSW.out); have HUX := hide (ownsRow_weaken hux HSW.out); have HW := hide (chain HW.out (by first | exact bf | exact undrewB bf)); clear bf huv hut hux HSW; have GB := TB.out.below TZ.out HW.out; have g0 := GB.cell 0 _ rfl; have g1 := GB.cell 1 _ rfl; have g2 := GB.cell 2 _ rfl; have f0 := GB.free 0; have f1 := GB.free 1; have f2 := GB.free 2; clear GB)
      | fail)
  have UB := hide (bl_three (TB.out.below TZ.out HW.out) (.slice xa1 xn1 xc1) (.slice xa2 xn2 xc2) (.slice xa3 xn3 xc3))
  replace B := hide (below3 (g := tb) (.slice xa1 xn1 xc1) (.slice xa2 xn2 xc2) (.slice xa3 xn3 xc3) (chain B.out HW.out) (Nat.le_of_lt TWN.out))
  replace BX := hide (((((BX.out.below hz.out HW.out).far (g' := tb) (k := 0) (u := .slice xa1 xn1 xc1) HTW.out).far (g' := tb) (k := 1) (u := .slice xa2 xn2 xc2) HTW.out).far (g' := tb) (k := 2) (u := .slice xa3 xn3 xc3) HTW.out))
  replace FB := hide (((((FB.out.below FZ.out HW.out).far (g' := tb) (k := 0) (u := .slice xa1 xn1 xc1) (Nat.ne_of_lt TNF.out)).far (g' := tb) (k := 1) (u := .slice xa2 xn2 xc2) (Nat.ne_of_lt TNF.out)).far (g' := tb) (k := 2) (u := .slice xa3 xn3 xc3) (Nat.ne_of_lt TNF.out)))
  replace FL := hide ((FL.out.below HW.out).three (g := tb) TF0.out (.slice xa1 xn1 xc1) (.slice xa2 xn2 xc2) (.slice xa3 xn3 xc3))
  replace FI := hide (iown_three (ownsRow_below FI.out HW.out) (g := tb) TF0.out (.slice xa1 xn1 xc1) (.slice xa2 xn2 xc2) (.slice xa3 xn3 xc3))
  have UL := hide (HUT.out.three (g := tb) TZ.out (.slice xa1 xn1 xc1) (.slice xa2 xn2 xc2) (.slice xa3 xn3 xc3))
  have UX := hide (iown_three HUX.out (g := tb) TZ.out (.slice xa1 xn1 xc1) (.slice xa2 xn2 xc2) (.slice xa3 xn3 xc3))
  clear HUX
  have HSZ := hide HW.out.size
  replace hz : Hid (w.heap.size < (((w23.setCell ⟨tb, 0, none⟩ (.slice xa1 xn1 xc1)).setCell ⟨tb, 1, none⟩ (.slice xa2 xn2 xc2)).setCell ⟨tb, 2, none⟩ (.slice xa3 xn3 xc3)).heap.size) := by have h1 := hz.out; have h2 := HW.out.size; unfold Hid; simp [World.setCell]; omega
  replace FZ : Hid (fb < (((w23.setCell ⟨tb, 0, none⟩ (.slice xa1 xn1 xc1)).setCell ⟨tb, 1, none⟩ (.slice xa2 xn2 xc2)).setCell ⟨tb, 2, none⟩ (.slice xa3 xn3 xc3)).heap.size) := by have h1 := FZ.out; have h2 := HW.out.size; unfold Hid; simp [World.setCell]; omega
  replace TZ : Hid (tb < (((w23.setCell ⟨tb, 0, none⟩ (.slice xa1 xn1 xc1)).setCell ⟨tb, 1, none⟩ (.slice xa2 xn2 xc2)).setCell ⟨tb, 2, none⟩ (.slice xa3 xn3 xc3)).heap.size) := by have h1 := TZ.out; have h2 := HW.out.size; unfold Hid; simp [World.setCell]; omega
  replace TB := UB
  clear UB HW HC HCS HSZ HUT g0 g1 g2 f0 f1 f2
  generalize (((w23.setCell ⟨tb, 0, none⟩ (.slice xa1 xn1 xc1)).setCell ⟨tb, 1, none⟩ (.slice xa2 xn2 xc2)).setCell ⟨tb, 2, none⟩ (.slice xa3 xn3 xc3)) = W24 at *
  have UQ := hide (tab_lists UL.out)
  have DQ := hide (tab_lists FL.out)
  obtain rfl : xn1 = fn1 := by rw [← UQ.out.1.size, ← DQ.out.1.size]
  obtain rfl : xn2 = fn2 := by rw [← UQ.out.2.1.size, ← DQ.out.2.1.size]
  obtain rfl : xn3 = fn3 := by rw [← UQ.out.2.2.size, ← DQ.out.2.2.size]
  have HFW : Hid (xn1 ≤ 1000 ∧ xn2 ≤ 1000 ∧ xn3 ≤ 1000) := by
    have h := fa_few l r t nw
    have s1 := UQ.out.1.size
    have s2 := UQ.out.2.1.size
    have s3 := UQ.out.2.2.size
    exact ⟨by omega, by omega, by omega⟩
  have u0 := TB.out.cell 0 _ rfl
  have u1 := TB.out.cell 1 _ rfl
  have u2 := TB.out.cell 2 _ rfl
  have v0 := FB.out.cell 0 _ rfl
  have v1 := FB.out.cell 1 _ rfl
  have v2 := FB.out.cell 2 _ rfl
  go_wp2_with fail
  refine Calls.mono (same_any (HE.out.below B.out) uv (ownE (Good l r t)) HUV.out _ _ _ _ UQ.out.1 _ _ _ _ UQ.out.2.1 _ _ _ _ UQ.out.2.2 _ _ DQ.out.1 _ _ DQ.out.2.1 _ _ DQ.out.2.2 HFW.out.1 HFW.out.2.1 HFW.out.2.2) ?_
  rintro e w25 ⟨rfl, xs⟩
  replace B := hide (chain B.out xs)
  obtain ⟨ya, yc, e1, YI⟩ := iown_is (ownsRow_below UX.out xs)
  simp only [Value.slice.injEq, true_and] at e1
  obtain ⟨rfl, rfl⟩ := e1
  obtain ⟨za, zc, e2, ZI⟩ := iown_is (ownsRow_below FI.out xs)
  simp only [Value.slice.injEq, true_and] at e2
  obtain ⟨rfl, rfl⟩ := e2
  have HYI := hide YI
  have HZI := hide ZI
  have HFX := hide (fi_few l r t nw)
  clear xs YI ZI u0 u1 u2 v0 v1 v2
  go_wp2_with fail
  refine Calls.mono (equalInts_any w25 _ _ _ _ HYI.out _ _ _ _ HZI.out (by have := HFX.out; omega) (by have := HFX.out; omega)) ?_
  rintro e w26 ⟨rfl, x26⟩
  rw [decide_eq_true rfl]
  replace B := hide (chain B.out x26)
  clear x26
  go_wp2
  go_ret
  exact ⟨rfl, B.out⟩
end Go.Proofs.YtfbmlmdgonoflaaDoor.readyWakes
