/-
  Who runs: the program's greatest and Pick, the document's Pick.
-/
import Derived.Test.YtgbckpojoagbnaaGreatDoorRyRGood
namespace Go.Proofs.YtgbckpojoagbnaaGreatDoor
open Classical
open Go.RowKit
set_option linter.unusedVariables false
set_option linter.unusedSimpArgs false

/-- What greatest answers. -/
def grtE (r : List Int) : Nat := if r = [] then 17 else 0
def grtP (l : List Pro) : List Int → Int
  | [] => 0
  | x :: s => bestF l x (x :: s)
theorem grt_in {l : List Pro} {x : Int} {r : List Int} (hx : 0 ≤ x ∧ x < (l.length : Int)) (hin : ∀ i ∈ r, 0 ≤ i ∧ i < (l.length : Int)) (k : Nat) : 0 ≤ bestF l x (r.take k) ∧ bestF l x (r.take k) < (l.length : Int) := by
  rcases bestF_mem l (r.take k) x with h | h
  · rw [h]; exact hx
  · exact hin _ (List.mem_of_mem_take h)

set_option maxRecDepth 100000 in
set_option maxHeartbeats 4000000 in
theorem greatest_any {w : World} {E : Nat → Addr} (he : Er9 w E) (pa : Option Addr) (pn pc : Nat) (l : List Pro) (hp : Pros w pa pn pc l) (ra : Option Addr) (rn rc : Nat) (r : List Int) (hr : Is w ra rn rc r) (hin : ∀ i ∈ r, 0 ≤ i ∧ i < (l.length : Int)) (hmr : rn ≤ 9223372036854775807) :
    Calls Tryz.prog 40 #[.slice pa pn pc, .slice ra rn rc] w fun e w' => ∃ v, e = .returned (.tuple #[.int .i64 (grtP l r), v]) ∧ Bare E v (grtE r) ∧ Below w.heap.size w w' := by
  have HS := hide hp
  have HI := hide hr
  have HL : Hid (l.length = pn) := hp.size
  have HLR : Hid (r.length = rn) := hr.size
  have HN := hide hin
  have v17 := he.v17
  clear hp hr hin he
  cases r with
  | nil =>
    obtain rfl : rn = 0 := by have := HLR.out; simp at this; omega
    go_enter Tryz.func40, Tryz.ntmps40
    go_wp2
    go_quiet (fail)
    go_wp2
    go_ret2
    exact ⟨_, rfl, bare_sent E 17 (by decide) (by decide), drewN_below (Below.refl _ _) nq⟩
  | cons x s =>
    have hrn : rn = s.length + 1 := by have := HLR.out; simpa using this.symm
    have d0 : ((rn : Int) == 0) = false := by simp; omega
    have hx := HN.out x (by simp)
    obtain ⟨b, off, rfl, hc⟩ := HI.out.at ci1 (by decide) (k := 0) (x := x) rfl
    have q0 := hc 0 _ rfl
    simp only [Nat.add_zero, Nat.zero_mul] at q0
    have hr0 : (0 : Int) < (rn : Int) := by omega
    have HX := hide hx
    clear hc hx
    go_enter Tryz.func40, Tryz.ntmps40
    go_wp2
    clear q0
    go_loopw [6, 18] (fun bv i wr => ∃ k : Nat, k ≤ rn ∧ i = .int .i64 (k : Int) ∧ bv = .int .i64 (bestF l x ((x :: s).take k)) ∧ Hid (Below w.heap.size w wr)) (fun _ i _ => rn - (intOf i).toNat)
    case atStart => exact ⟨0, by omega, rfl, rfl, Below.refl _ _⟩
    case round =>
      obtain ⟨k, hk, rfl, rfl, hb⟩ := hrel
      by_cases hlt : k < rn
      · obtain ⟨y, hy⟩ : ∃ p, (x :: s)[k]? = some p := ⟨_, List.getElem?_eq_getElem (by rw [HLR.out]; exact hlt)⟩
        obtain ⟨b', off', e', hc⟩ := (HI.out.below hb.out).at ci1 (by decide) hy
        simp only [Option.some.injEq, Addr.mk.injEq, and_true] at e'
        obtain ⟨rfl, rfl⟩ := e'
        have q0 := hc 0 _ rfl
        simp only [Nat.add_zero, Nat.mul_one] at q0
        have hyi := HN.out y (List.mem_of_getElem? hy)
        have hbi := grt_in (l := l) HX.out HN.out k
        have HTK := hide (bestF_take l x hy)
        generalize bestF l x ((x :: s).take k) = bst at *
        rw [HL.out] at hyi hbi
        obtain ⟨yn, rfl⟩ := Int.eq_ofNat_of_zero_le hyi.1
        obtain ⟨bn, rfl⟩ := Int.eq_ofNat_of_zero_le hbi.1
        have y1 : (yn : Int) < (pn : Int) := hyi.2
        have y2 : (bn : Int) < (pn : Int) := hbi.2
        have hk1 : (k : Int) < (rn : Int) := by omega
        obtain ⟨p, hp⟩ : ∃ p, l[yn]? = some p := ⟨_, List.getElem?_eq_getElem (by rw [HL.out]; omega)⟩
        obtain ⟨p', hp'⟩ : ∃ p, l[bn]? = some p := ⟨_, List.getElem?_eq_getElem (by rw [HL.out]; omega)⟩
        obtain ⟨c, o, rfl, hrp⟩ := (HS.out.below hb.out).at pro21 (by decide) hp
        obtain ⟨c', o', e', hrp'⟩ := (HS.out.below hb.out).at pro21 (by decide) hp'
        simp only [Option.some.injEq, Addr.mk.injEq, and_true] at e'
        obtain ⟨rfl, rfl⟩ := e'
        have p18 := hrp 18 _ rfl
        have p18' := hrp' 18 _ rfl
        have HPY := hide (prioAt_of hp)
        have HPB := hide (prioAt_of hp')
        clear hc hy hyi hbi hrp hrp' hp hp'
        by_cases hgt : p'.prio < p.prio
        · have d1 : decide (p'.prio < p.prio) = true := decide_eq_true hgt
          have HB : Hid (bestF l x ((x :: s).take (k + 1)) = (yn : Int)) := by
            unfold Hid
            rw [HTK.out]
            unfold pickS
            rw [HPY.out, HPB.out, if_pos hgt]
          clear hgt
          go_wp2
          go_quiet (fail)
          go_wp2
          go_roundw
          case rel => exact ⟨k + 1, by omega, by go_num, by rw [HB.out], drewN_below hb.out nq⟩
          case measure => simp [intOf]; omega
        · have d1 : decide (p'.prio < p.prio) = false := decide_eq_false hgt
          have HB : Hid (bestF l x ((x :: s).take (k + 1)) = (bn : Int)) := by
            unfold Hid
            rw [HTK.out]
            unfold pickS
            rw [HPY.out, HPB.out, if_neg hgt]
          clear hgt
          go_wp2
          go_quiet (fail)
          go_wp2
          go_roundw
          case rel => exact ⟨k + 1, by omega, by go_num, by rw [HB.out], drewN_below hb.out nq⟩
          case measure => simp [intOf]; omega
      · obtain rfl : k = rn := by omega
        have HT : Hid ((x :: s).take k = x :: s) := by unfold Hid; rw [← HLR.out, List.take_length]
        rw [HT.out]
        go_wp2
        go_ret2
        exact ⟨_, rfl, bare_nil E, hb.out⟩

theorem pickE_good {l : List Pro} {r : List Int} {t : List Tm} (h : Good l r t) : pickE l r t = grtE r ∧ pickP l r t = grtP l r := by
  refine ⟨by unfold pickE grtE; rw [if_neg (by simpa using h)], ?_⟩
  unfold pickP
  rw [if_pos h]
  cases r <;> rfl
theorem pickE_bad {l : List Pro} {r : List Int} {t : List Tm} (h : ¬ Good l r t) : pickE l r t = 9 ∧ pickP l r t = 0 := ⟨by unfold pickE; rw [if_pos h], by unfold pickP; rw [if_neg h]⟩

set_option maxRecDepth 100000 in
set_option maxHeartbeats 4000000 in
theorem pick_any {w : World} {E : Nat → Addr} (he : Er9 w E) (pa : Option Addr) (pn pc : Nat) (l : List Pro) (hp : Pros w pa pn pc l) (ra : Option Addr) (rn rc : Nat) (r : List Int) (hr : Is w ra rn rc r) (ta : Option Addr) (tn tc : Nat) (t : List Tm) (ht : Tms w ta tn tc t) (hmp : pn ≤ 9223372036854775807) (hmr : rn ≤ 9223372036854775807) (hmt : tn ≤ 9223372036854775807) :
    Calls Tryz.prog 19 #[.agg #[.slice pa pn pc, .slice ra rn rc, .slice ta tn tc]] w fun e w' => ∃ v, e = .returned (.tuple #[.int .i64 (pickP l r t), v]) ∧ Bare E v (pickE l r t) ∧ Below w.heap.size w w' := by
  have BX : Hid (Bl (w.alloc (.cells #[.slice pa pn pc, .slice ra rn rc, .slice ta tn tc] 37)) w.heap.size [.slice pa pn pc, .slice ra rn rc, .slice ta tn tc]) := bl_alloc w #[.slice pa pn pc, .slice ra rn rc, .slice ta tn tc] 37
  have HB0 := hide (new_below w (.cells #[.slice pa pn pc, .slice ra rn rc, .slice ta tn tc] 37))
  have hz0 : w.heap.size < (w.alloc (.cells #[.slice pa pn pc, .slice ra rn rc, .slice ta tn tc] 37)).heap.size := by simp
  have HS := hide (hp.below HB0.out)
  have HI := hide (hr.below HB0.out)
  have HT := hide (ht.below HB0.out)
  have HE := hide (he.below HB0.out)
  clear hp hr ht he
  go_enter Tryz.func19, Tryz.ntmps19
  go_upto_region 1 with fail
  generalize w.alloc (.cells #[.slice pa pn pc, .slice ra rn rc, .slice ta tn tc] 37) = W0 at *
  have b0 := BX.out.cell 0 _ rfl
  have b1 := BX.out.cell 1 _ rfl
  have b2 := BX.out.cell 2 _ rfl
  go_wp2_with fail
  refine Calls.mono (rgood_any HE.out.er3 pa pn pc l HS.out ra rn rc r HI.out ta tn tc t HT.out hmp hmr hmt) ?_
  rintro e w1 ⟨rfl, x1⟩
  have B1 := hide (HB0.out.trans (x1.mono HB0.out.size))
  have BX1 := hide (BX.out.below hz0 x1)
  have HS1 := hide (HS.out.below x1)
  have HI1 := hide (HI.out.below x1)
  have HE1 := hide (HE.out.below x1)
  clear x1 b0 b1 b2
  by_cases hg : Good l r t
  · rw [decide_eq_true hg]
    have HP := hide (pickE_good hg)
    have b0 := BX1.out.cell 0 _ rfl
    have b1 := BX1.out.cell 1 _ rfl
    have HN := hide hg.2.2.1.1
    clear hg
    go_wp2_with fail
    refine Calls.mono (greatest_any HE1.out pa pn pc l HS1.out ra rn rc r HI1.out HN.out hmr) ?_
    rintro e w2 ⟨v, rfl, hv, x2⟩
    have B2 := hide (chain B1.out x2)
    have HV := hide hv
    clear x2 hv
    go_wp2
    go_ret2
    exact ⟨_, by rw [HP.out.2]; rfl, by rw [HP.out.1]; exact HV.out, B2.out⟩
  · rw [decide_eq_false hg]
    have HP := hide (pickE_bad hg)
    have v9 := HE1.out.v9
    clear hg
    go_wp2
    go_quiet (fail)
    go_wp2
    go_ret2
    exact ⟨_, by rw [HP.out.2]; rfl, by rw [HP.out.1]; exact bare_sent E 9 (by decide) (by decide), drewN_below B1.out nq⟩

end Go.Proofs.YtgbckpojoagbnaaGreatDoor
