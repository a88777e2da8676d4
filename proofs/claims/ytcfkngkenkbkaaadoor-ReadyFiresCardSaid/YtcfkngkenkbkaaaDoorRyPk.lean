/-
  Who runs: the program's greatest and Pick, the document's Pick.
-/
import Derived.Test.YtcfkngkenkbkaaaDoorRyRGood
namespace Go.Proofs.YtcfkngkenkbkaaaDoor
open Classical
open Go.RowKit
set_option linter.unusedVariables false
set_option linter.unusedSimpArgs false

/-- What greatest answers. -/
def grtE (r : List Int) : Nat := if r = [] then 17 else 0
def grtP (l : List Pro) : List Int → Int
  | [] => 0
  | x :: s => bestF l x (x :: s)
theorem grt_in {l : List Pro} {x : Int} {r : List Int} (hx : 0 ≤ x ∧ x < (l.length : Int)) (hin : ∀ i ∈ r, 0 ≤ i ∧ i < (l.length : Int)) (k : Nat) : 0 ≤ bestF l x (r.take k) ∧ bestF l x (r.take k) < (l.length : Int) := by
  rcases bestF_mem l (r.take k) x with h | h
  · rw [h]; exact hx
  · exact hin _ (List.mem_of_mem_take h)

set_option maxRecDepth 100000 in
set_option maxHeartbeats 4000000 in
theorem greatest_any {w : World} {E : Nat → Addr} (he : Er9 w E) (pa : Option Addr) (pn pc : Nat) (l : List Pro) (hp : Pros w pa pn pc l) (ra : Option Addr) (rn rc : Nat) (r : List Int) (hr : Is w ra rn rc r) (hin : ∀ i ∈ r, 0 ≤ i ∧ i < (l.length : Int)) (hmr : rn ≤ 9223372036854775807) :
    Calls Tryd.prog 36 #[.slice pa pn pc, .slice ra rn rc] w fun e w' => ∃ v, e = .returned (.tuple #[.int .i64 (grtP l r), v]) ∧ Bare E v (grtE r) ∧ Below w.heap.size w w' := by
  have HS := hide hp
  have HI := hide hr
  have HL : Hid (l.length = pn) := hp.size
  have HLR : Hid (r.length = rn) := hr.size
  have HN := hide hin
  have v17 := he.v17
  clear hp hr hin he
  cases r with
  | nil =>
    obtain rfl : rn = 0 := by have := HLR.out; simp at this; omega
    go_enter Tryd.func36, Tryd.ntmps36
    go_wp2
    go_quiet (fail)
    go_wp2
    go_ret2
    exact ⟨_, rfl, bare_sent E 17 (by decide) (by decide), drewN_below (Below.refl _ _) nq⟩
  | cons x s =>
    have hrn : rn = s.length + 1 := by have := HLR.out; simpa using this.symm
    have d0 : ((rn : Int) == 0) = false := by simp; omega
    have hx := HN.out x (by simp)
    obtain ⟨b, off, rfl, hc⟩ := HI.out.at ci1 (by decide) (k := 0) (x := x) rfl
    have q0 := hc 0 _ rfl
    simp only [Nat.add_zero, Nat.zero_mul] at q0
    have hr0 : (0 : Int) < (rn : Int) := by omega
    have HX := hide hx
    clear hc hx
    go_enter Tryd.func36, Tryd.ntmps36
    go_wp2
    clear q0
    go_loopw [6, 18] (fun bv i wr => ∃ k : Nat, k ≤ rn ∧ i = .int .i64 (k : Int) ∧ bv = .int .i64 (bestF l x ((x :: s).take k)) ∧ Hid (Below w.heap.size w wr)) (fun _ i _ => rn - (intOf i).toNat)
    case atStart => exact ⟨0, by omega, rfl, rfl, Below.refl _ _⟩
    case round =>
      obtain ⟨k, hk, rfl, rfl, hb⟩ := hrel
      by_cases hlt : k < rn
      · obtain ⟨y, hy⟩ : ∃ p, (x :: s)[k]? = some p := ⟨_, List.getElem?_eq_getElem (by rw [HLR.out]; exact hlt)⟩
        obtain ⟨b', off', e', hc⟩ := (HI.out.below hb.out).at ci1 (by decide) hy
        simp only [Option.some.injEq, Addr.mk.injEq, and_true] at e'
        obtain ⟨rfl, rfl⟩ := e'
        have q0 := hc 0 _ rfl
        simp only [Nat.add_zero, Nat.mul_one] at q0
        have hyi := HN.out y (List.mem_of_getElem? hy)
        have hbi := grt_in (l := l) HX.out HN.out k
        have HTK := hide (bestF_take l x hy)
        generalize bestF l x ((x :: s).take k) = bst at *
        rw [HL.out] at hyi hbi
        obtain ⟨yn, rfl⟩ := Int.eq_ofNat_of_zero_le hyi.1
        obtain ⟨bn, rfl⟩ := Int.eq_ofNat_of_zero_le hbi.1
        have y1 : (yn : Int) < (pn : Int) := hyi.2
        have y2 : (bn : Int) < (pn : Int) := hbi.2
        have hk1 : (k : Int) < (rn : Int) := by omega
        obtain ⟨p, hp⟩ : ∃ p, l[yn]? = some p := ⟨_, List.getElem?_eq_getElem (by rw [HL.out]; omega)⟩
        obtain ⟨p', hp'⟩ : ∃ p, l[bn]? = some p := ⟨_, List.getElem?_eq_getElem (by rw [HL.out]; omega)⟩
        obtain ⟨c, o, rfl, hrp⟩ := (HS.out.below hb.out).at pro21 (by decide) hp
        obtain ⟨c', o', e', hrp'⟩ := (HS.out.below hb.out).at pro21 (by decide) hp'
        simp only [Option.some.injEq, Addr.mk.injEq, and_true] at e'
        obtain ⟨rfl, rfl⟩ := e'
        have p18 := hrp 18 _ rfl
        have p18' := hrp' 18 _ rfl
        have HPY := hide (prioAt_of hp)
        have HPB := hide (prioAt_of hp')
        clear hc hy hyi hbi hrp hrp' hp hp'
        by_cases hgt : p'.prio < p.prio
        · have d1 : decide (p'.prio < p.prio) = true := decide_eq_true hgt
          have HB : Hid (bestF l x ((x :: s).take (k + 1)) = (yn : Int)) := by
            unfold Hid
            rw [HTK.out]
            unfold pickS
            rw [HPY.out, HPB.out, if_pos hgt]
          clear hgt
          go_wp2
          go_quiet (fail)
          go_wp2
          go_roundw
          case rel => exact ⟨k + 1, by omega, by go_num, by rw [HB.out], drewN_below hb.out nq⟩
          case measure => simp [intOf]; omega
        · have d1 : decide (p'.prio < p.prio) = false := decide_eq_false hgt
          have HB : Hid (bestF l x ((x :: s).take (k + 1)) = (bn : Int)) := by
            unfold Hid
            rw [HTK.out]
            unfold pickS
            rw [HPY.out, HPB.out, if_neg hgt]
          clear hgt
          go_wp2
          go_quiet (fail)
          go_wp2
          go_roundw
          case rel => exact ⟨k + 1, by omega, by go_num, by rw [HB.out], drewN_below hb.out nq⟩
          case measure => simp [intOf]; omega
      · obtain rfl : k = rn := by omega
        have HT : Hid ((x :: s).take k = x :: s) := by unfold Hid; rw [← HLR.out, List.take_length]
        rw [HT.out]
        go_wp2
        go_ret2
        exact ⟨_, rfl, bare_nil E, hb.out⟩

theorem pickE_good {l : List Pro} {r : List Int} {t : List Tm} (h : Good l r t) : pickE l r t = grtE r ∧ pickP l r t = grtP l r := by
  refine ⟨by unfold pickE grtE; rw [if_neg (by simpa using h)], ?_⟩
  unfold pickP
  rw [if_pos h]
  cases r <;> rfl
theorem pickE_bad {l : List Pro} {r : List Int} {t : List Tm} (h : ¬ Good l r t) : pickE l r t = 9 ∧ pickP l r t = 0 := ⟨by unfold pickE; rw [if_pos h], by unfold pickP; rw [if_neg h]⟩

set_option maxRecDepth 100000 in
set_option maxHeartbeats 4000000 in
theorem pick_any {w : World} {E : Nat → Addr} (he : Er9 w E) (pa : Option Addr) (pn pc : Nat) (l : List Pro) (hp : Pros w pa pn pc l) (ra : Option Addr) (rn rc : Nat) (r : List Int) (hr : Is w ra rn rc r) (ta : Option Addr) (tn tc : Nat) (t : List Tm) (ht : Tms w ta tn tc t) (hmp : pn ≤ 9223372036854775807) (hmr : rn ≤ 9223372036854775807) (hmt : tn ≤ 9223372036854775807) :
    Calls Tryd.prog 14 #[.agg #[.slice pa pn pc, .slice ra rn rc, .slice ta tn tc]] w fun e w' => ∃ v, e = .returned (.tuple #[.int .i64 (pickP l r t), v]) ∧ Bare E v (pickE l r t) ∧ Below w.heap.size w w' := by
  have BX : Hid (Bl (w.alloc (.cells #[.slice pa pn pc, .slice ra rn rc, .slice ta tn tc] 29)) w.heap.size [.slice pa pn pc, .slice ra rn rc, .slice ta tn tc]) := bl_alloc w #[.slice pa pn pc, .slice ra rn rc, .slice ta tn tc] 29
  have HB0 := hide (new_below w (.cells #[.slice pa pn pc, .slice ra rn rc, .slice ta tn tc] 29))
  have hz0 : w.heap.size < (w.alloc (.cells #[.slice pa pn pc, .slice ra rn rc, .slice ta tn tc] 29)).heap.size := by simp
  have HS := hide (hp.below HB0.out)
  have HI := hide (hr.below HB0.out)
  have HT := hide (ht.below HB0.out)
  have HE := hide (he.below HB0.out)
  clear hp hr ht he
  go_enter Tryd.func14, Tryd.ntmps14
  go_upto_region 1 with fail
  generalize w.alloc (.cells #[.slice pa pn pc, .slice ra rn rc, .slice ta tn tc] 29) = W0 at *
  have b0 := BX.out.cell 0 _ rfl
  have b1 := BX.out.cell 1 _ rfl
  have b2 := BX.out.cell 2 _ rfl
  go_wp2_with fail
  refine Calls.mono (rgood_any HE.out.er3 pa pn pc l HS.out ra rn rc r HI.out ta tn tc t HT.out hmp hmr hmt) ?_
  rintro e w1 ⟨rfl, x1⟩
  have B1 := hide (HB0.out.trans (x1.mono HB0.out.size))
  have BX1 := hide (BX.out.below hz0 x1)
  have HS1 := hide (HS.out.below x1)
  have HI1 := hide (HI.out.below x1)
  have HE1 := hide (HE.out.below x1)
  clear x1 b0 b1 b2
  by_cases hg : Good l r t
  · rw [decide_eq_true hg]
    have HP := hide (pickE_good hg)
    have b0 := BX1.out.cell 0 _ rfl
    have b1 := BX1.out.cell 1 _ rfl
    have HN := hide hg.2.2.1.1
    clear hg
    go_wp2_with fail
    refine Calls.mono (greatest_any HE1.out pa pn pc l HS1.out ra rn rc r HI1.out HN.out hmr) ?_
    rintro e w2 ⟨v, rfl, hv, x2⟩
    have B2 := hide (chain B1.out x2)
    have HV := hide hv
    clear x2 hv
    go_wp2
    go_ret2
    exact ⟨_, by rw [HP.out.2]; rfl, by rw [HP.out.1]; exact HV.out, B2.out⟩
  · rw [decide_eq_false hg]
    have HP := hide (pickE_bad hg)
    have v9 := HE1.out.v9
    clear hg
    go_wp2
    go_quiet (fail)
    go_wp2
    go_ret2
    exact ⟨_, by rw [HP.out.2]; rfl, by rw [HP.out.1]; exact bare_sent E 9 (by decide) (by decide), drewN_below B1.out nq⟩

set_option maxRecDepth 100000 in
set_option maxHeartbeats 4000000 in
theorem rpick_any (w : World) (pa : Option Addr) (pn pc : Nat) (l : List Pro) (hp : Pros w pa pn pc l) (ra : Option Addr) (rn rc : Nat) (r : List Int) (hr : Is w ra rn rc r) (ta : Option Addr) (tn tc : Nat) (t : List Tm) (ht : Tms w ta tn tc t) :
    Calls Tryd.prog 13 #[.agg #[.slice pa pn pc, .slice ra rn rc, .slice ta tn tc]] w fun e w' => e = .returned (.tuple #[.int .i64 (pickP l r t), .int .i64 (pickE l r t : Int)]) ∧ Below w.heap.size w w' := by
  have BX : Hid (Bl (w.alloc (.cells #[.slice pa pn pc, .slice ra rn rc, .slice ta tn tc] 26)) w.heap.size [.slice pa pn pc, .slice ra rn rc, .slice ta tn tc]) := bl_alloc w #[.slice pa pn pc, .slice ra rn rc, .slice ta tn tc] 26
  have HB0 := hide (new_below w (.cells #[.slice pa pn pc, .slice ra rn rc, .slice ta tn tc] 26))
  have hz0 : w.heap.size < (w.alloc (.cells #[.slice pa pn pc, .slice ra rn rc, .slice ta tn tc] 26)).heap.size := by simp
  have HS := hide (hp.below HB0.out)
  have HI := hide (hr.below HB0.out)
  have HT := hide (ht.below HB0.out)
  have HL : Hid (l.length = pn) := hp.size
  have HLR : Hid (r.length = rn) := hr.size
  clear hp hr ht
  go_enter Tryd.func13, Tryd.ntmps13
  go_upto_region 1 with fail
  generalize w.alloc (.cells #[.slice pa pn pc, .slice ra rn rc, .slice ta tn tc] 26) = W0 at *
  have b0 := BX.out.cell 0 _ rfl
  have b1 := BX.out.cell 1 _ rfl
  have b2 := BX.out.cell 2 _ rfl
  go_wp2_with fail
  refine Calls.mono (rrgood_any W0 pa pn pc l HS.out ra rn rc r HI.out ta tn tc t HT.out) ?_
  rintro e w1 ⟨rfl, x1⟩
  have B1 := hide (HB0.out.trans (x1.mono HB0.out.size))
  have BX1 := hide (BX.out.below hz0 x1)
  have hz1 : w.heap.size < w1.heap.size := Nat.lt_of_lt_of_le hz0 x1.size
  have HS1 := hide (HS.out.below x1)
  have HI1 := hide (HI.out.below x1)
  clear x1 b0 b1 b2
  by_cases hg : Good l r t
  case neg =>
    rw [decide_eq_false hg]
    have HP := hide (pickE_bad hg)
    clear hg
    go_wp2
    go_ret2
    exact ⟨by rw [HP.out.1, HP.out.2]; rfl, B1.out⟩
  rw [decide_eq_true hg]
  have HP := hide (pickE_good hg)
  have HN := hide hg.2.2.1.1
  have hr8 := goodR_few hg.2.2.1 hg.1
  rw [HLR.out] at hr8
  clear hg
  go_wp2
  go_loopw [4, 5] (fun bv i wr => ∃ k : Nat, k ≤ rn ∧ i = .int .i64 (k : Int) ∧ Hid (k = 0 ∧ bv = .int .i64 (-1) ∨ ∃ x s, 0 < k ∧ r = x :: s ∧ bv = .int .i64 (bestF l x (r.take k))) ∧ Hid (Below w1.heap.size w1 wr)) (fun _ i _ => rn - (intOf i).toNat)
  case atStart => exact ⟨0, by omega, rfl, .inl ⟨rfl, rfl⟩, Below.refl _ _⟩
  case round =>
    obtain ⟨k, hk, rfl, hbest, hb⟩ := hrel
    have HBX := hide (BX1.out.below hz1 hb.out)
    have b0 := HBX.out.cell 0 _ rfl
    have b1 := HBX.out.cell 1 _ rfl
    have HBW := hide (chain B1.out hb.out)
    by_cases hlt : k < rn
    · obtain ⟨y, hy⟩ : ∃ p, r[k]? = some p := ⟨_, List.getElem?_eq_getElem (by rw [HLR.out]; exact hlt)⟩
      obtain ⟨b, off, rfl, hc⟩ := (HI1.out.below hb.out).at ci1 (by decide) hy
      have q0 := hc 0 _ rfl
      simp only [Nat.add_zero, Nat.mul_one] at q0
      have hyi := HN.out y (List.mem_of_getElem? hy)
      rw [HL.out] at hyi
      obtain ⟨yn, rfl⟩ := Int.eq_ofNat_of_zero_le hyi.1
      have y1 : (yn : Int) < (pn : Int) := hyi.2
      have y0 : (0 : Int) ≤ (yn : Int) := by omega
      have hk1 : (k : Int) < (rn : Int) := by omega
      have HY := hide hy
      obtain ⟨p, hp⟩ : ∃ p, l[yn]? = some p := ⟨_, List.getElem?_eq_getElem (by rw [HL.out]; omega)⟩
      obtain ⟨c, o, rfl, hrp⟩ := (HS1.out.below hb.out).at pro21 (by decide) hp
      have p18 := hrp 18 _ rfl
      have HPY := hide (prioAt_of hp)
      rcases hbest.out with ⟨rfl, rfl⟩ | ⟨x, s, hk0, rfl, rfl⟩
      · have HB : Hid (∃ x s, 0 < 0 + 1 ∧ r = x :: s ∧ Value.int .i64 (yn : Int) = .int .i64 (bestF l x (r.take (0 + 1)))) := by
          cases r with
          | nil => simp at hy
          | cons x s =>
            simp at hy
            subst hy
            exact ⟨_, s, by omega, rfl, by simp [bestF, bestF_self]⟩
        simp only [Nat.add_zero] at q0
        clear hc hy hyi hrp hp
        go_wp2
        go_quiet (fail)
        go_wp2
        go_roundw
        case rel => exact ⟨0 + 1, by omega, by go_num, .inr HB.out, drewN_below hb.out nq⟩
        case measure => simp [intOf]; omega
      · have hxi := HN.out x (by simp)
        have hbi := grt_in (l := l) hxi HN.out k
        have HTK := hide (bestF_take l x hy)
        generalize bestF l x ((x :: s).take k) = bst at *
        rw [HL.out] at hbi
        obtain ⟨bn, rfl⟩ := Int.eq_ofNat_of_zero_le hbi.1
        have y2 : (bn : Int) < (pn : Int) := hbi.2
        have y3 : (0 : Int) ≤ (bn : Int) := by omega
        have d0 : decide ((bn : Int) < 0) = false := decide_eq_false (by omega)
        obtain ⟨p', hp'⟩ : ∃ p, l[bn]? = some p := ⟨_, List.getElem?_eq_getElem (by rw [HL.out]; omega)⟩
        obtain ⟨c', o', e', hrp'⟩ := (HS1.out.below hb.out).at pro21 (by decide) hp'
        simp only [Option.some.injEq, Addr.mk.injEq, and_true] at e'
        obtain ⟨rfl, rfl⟩ := e'
        have p18' := hrp' 18 _ rfl
        have HPB := hide (prioAt_of hp')
        clear hc hy hyi hxi hbi hrp hrp' hp hp'
        by_cases hgt : p'.prio < p.prio
        · have d1 : decide (p'.prio < p.prio) = true := decide_eq_true hgt
          have HB : Hid (bestF l x ((x :: s).take (k + 1)) = (yn : Int)) := by
            unfold Hid
            rw [HTK.out]
            unfold pickS
            rw [HPY.out, HPB.out, if_pos hgt]
          clear hgt
          go_wp2
          go_quiet (fail)
          go_wp2
          go_roundw
          case rel => exact ⟨k + 1, by omega, by go_num, .inr ⟨x, s, by omega, rfl, by rw [HB.out]⟩, drewN_below hb.out nq⟩
          case measure => simp [intOf]; omega
        · have d1 : decide (p'.prio < p.prio) = false := decide_eq_false hgt
          have HB : Hid (bestF l x ((x :: s).take (k + 1)) = (bn : Int)) := by
            unfold Hid
            rw [HTK.out]
            unfold pickS
            rw [HPY.out, HPB.out, if_neg hgt]
          clear hgt
          go_wp2
          go_quiet (fail)
          go_wp2
          go_roundw
          case rel => exact ⟨k + 1, by omega, by go_num, .inr ⟨x, s, by omega, rfl, by rw [HB.out]⟩, drewN_below hb.out nq⟩
          case measure => simp [intOf]; omega
    · obtain rfl : k = rn := by omega
      rcases hbest.out with ⟨rfl, rfl⟩ | ⟨x, s, hk0, rfl, rfl⟩
      · obtain rfl : r = [] := List.length_eq_zero_iff.1 HLR.out
        go_wp2
        go_ret2
        exact ⟨by rw [HP.out.1, HP.out.2]; rfl, HBW.out⟩
      · have HTt : Hid ((x :: s).take k = x :: s) := by unfold Hid; rw [← HLR.out, List.take_length]
        rw [HTt.out]
        have hbi := grt_in (l := l) (HN.out x (by simp)) HN.out k
        rw [HTt.out] at hbi
        have HG : Hid (grtP l (x :: s) = bestF l x (x :: s)) := rfl
        rw [← HG.out] at hbi ⊢
        have d0 : decide (grtP l (x :: s) < 0) = false := decide_eq_false (by omega)
        have HE : Hid (grtE (x :: s) = 0) := rfl
        generalize grtP l (x :: s) = gp at *
        clear hbi
        go_wp2
        go_ret2
        exact ⟨by rw [HP.out.1, HP.out.2, HE.out]; rfl, HBW.out⟩
end Go.Proofs.YtcfkngkenkbkaaaDoor
