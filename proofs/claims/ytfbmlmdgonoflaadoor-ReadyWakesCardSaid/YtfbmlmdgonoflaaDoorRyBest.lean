/-
  Who of those that wait is woken first: the program's Best and the document's.
-/
import Derived.Test.YtfbmlmdgonoflaaDoorRyAll
import Derived.Test.YtfbmlmdgonoflaaDoorRyPk
namespace Go.Proofs.YtfbmlmdgonoflaaDoor
open Classical
open Go.RowKit
set_option linter.unusedVariables false
set_option linter.unusedSimpArgs false

/-- What Best answers. -/
def bestE (l : List Pro) (r : List Int) (t : List Tm) (wt ob : Int) [Decidable (Good l r t)] : Nat := if Good l r t then grtE (waitsOf l wt ob) else 9
def bestP (l : List Pro) (r : List Int) (t : List Tm) (wt ob : Int) [Decidable (Good l r t)] : Int := if Good l r t then grtP l (waitsOf l wt ob) else 0
theorem best_good {l : List Pro} {r : List Int} {t : List Tm} (h : Good l r t) (wt ob : Int) : bestE l r t wt ob = grtE (waitsOf l wt ob) ∧ bestP l r t wt ob = grtP l (waitsOf l wt ob) := ⟨if_pos h, if_pos h⟩
theorem best_bad {l : List Pro} {r : List Int} {t : List Tm} (h : ¬ Good l r t) (wt ob : Int) : bestE l r t wt ob = 9 ∧ bestP l r t wt ob = 0 := ⟨if_neg h, if_neg h⟩

set_option maxRecDepth 100000 in
set_option maxHeartbeats 4000000 in
theorem best_any {w : World} {E : Nat → Addr} (he : Er9 w E) (pa : Option Addr) (pn pc : Nat) (l : List Pro) (hp : Pros w pa pn pc l) (ra : Option Addr) (rn rc : Nat) (r : List Int) (hr : Is w ra rn rc r) (ta : Option Addr) (tn tc : Nat) (t : List Tm) (ht : Tms w ta tn tc t) (hmp : pn ≤ 9223372036854775807) (hmr : rn ≤ 9223372036854775807) (hmt : tn ≤ 9223372036854775807) (wt ob : Int) :
    Calls Tryd.prog 13 #[.agg #[.slice pa pn pc, .slice ra rn rc, .slice ta tn tc], .int .i64 wt, .int .i64 ob] w fun e w' => ∃ v, e = .returned (.tuple #[.int .i64 (bestP l r t wt ob), v]) ∧ Bare E v (bestE l r t wt ob) ∧ Below w.heap.size w w' := by
  have BX : Hid (Bl (w.alloc (.cells #[.slice pa pn pc, .slice ra rn rc, .slice ta tn tc] 32)) w.heap.size [.slice pa pn pc, .slice ra rn rc, .slice ta tn tc]) := bl_alloc w #[.slice pa pn pc, .slice ra rn rc, .slice ta tn tc] 32
  have HB0 := hide (new_below w (.cells #[.slice pa pn pc, .slice ra rn rc, .slice ta tn tc] 32))
  have hz0 : w.heap.size < (w.alloc (.cells #[.slice pa pn pc, .slice ra rn rc, .slice ta tn tc] 32)).heap.size := by simp
  have HS := hide (hp.below HB0.out)
  have HI := hide (hr.below HB0.out)
  have HT := hide (ht.below HB0.out)
  have HE := hide (he.below HB0.out)
  have HL : Hid (l.length = pn) := hp.size
  clear hp hr ht he
  go_enter Tryd.func13, Tryd.ntmps13
  go_upto_region 1 with fail
  generalize w.alloc (.cells #[.slice pa pn pc, .slice ra rn rc, .slice ta tn tc] 32) = W0 at *
  have b0 := BX.out.cell 0 _ rfl
  have b1 := BX.out.cell 1 _ rfl
  have b2 := BX.out.cell 2 _ rfl
  go_wp2_with fail
  refine Calls.mono (rgood_any HE.out.er3 pa pn pc l HS.out ra rn rc r HI.out ta tn tc t HT.out hmp hmr hmt) ?_
  rintro e w1 ⟨rfl, x1⟩
  have B1 := hide (HB0.out.trans (x1.mono HB0.out.size))
  have BX1 := hide (BX.out.below hz0 x1)
  have HS1 := hide (HS.out.below x1)
  have HI1 := hide (HI.out.below x1)
  have HE1 := hide (HE.out.below x1)
  have HZ1 : Hid (w.heap.size < w1.heap.size) := Nat.lt_of_lt_of_le hz0 x1.size
  clear x1 b0 b1 b2
  by_cases hg : Good l r t
  · rw [decide_eq_true hg]
    have HP := hide (best_good hg wt ob)
    have HL8 : Hid (l.length ≤ 8) := hg.1
    have HFL : Hid ((waitsOf l wt ob).length ≤ 8) := Nat.le_trans (waitsK_len l wt ob l.length) hg.1
    clear hg
    have hl1 : Hid (w.heap.size < w1.heap.size) := HZ1.out
    have HW := hide (Below.refl w1.heap.size w1)
    have hpn : pn ≤ 1353245080400 := by have := HL8.out; have := HL.out; omega
    have c0 := heldC BX1.out hl1.out HW.out
    go_wp2
    go_region_held3 (fun wz => wz.cell? ⟨w.heap.size, 0, none⟩ = some (.slice pa pn pc) ∧ wz.cell? ⟨w.heap.size, 1, none⟩ = some (.slice ra rn rc) ∧ wz.cell? ⟨w.heap.size, 2, none⟩ = some (.slice ta tn tc))
      (first | exact heldC BX1.out hl1.out HW.out | exact heldC BX1.out hl1.out HW.out.drew)
      (first
        | (go_at_call 5; refine (waiters_any _ pa pn pc l (HS1.out.below (by first | exact HW.out | exact HW.out.drew)) ra rn rc ta tn tc wt ob hpn).mono ?_; rintro e wx ⟨xv, rfl, hx, bx⟩; obtain ⟨xa, xc, rfl, xi⟩ := iown_is hx; have XI := hide xi; have HW := hide (chain HW.out (by first | exact bx | exact undrewB bx)); clear hx bx xi)
        | (go_at_call 24; refine (greatest_any (HE1.out.below (by first | exact HW.out | exact HW.out.drew)) pa pn pc l (HS1.out.below (by first | exact HW.out | exact HW.out.drew)) xa _ xc (waitsOf l wt ob) XI.out waits_in (by have := HFL.out; omega)).mono ?_; rintro e wy ⟨vy, rfl, hvy, by'⟩; have HV := hide hvy; have HW := hide (chain HW.out (by first | exact by' | exact undrewB by')); clear hvy by'))
    have B2 := hide (B1.out.trans (HW.out.mono B1.out.size))
    go_wp2
    go_ret2
    exact ⟨_, by rw [HP.out.2]; rfl, by rw [HP.out.1]; exact HV.out, B2.out⟩
  · rw [decide_eq_false hg]
    have HP := hide (best_bad hg wt ob)
    have v9 := HE1.out.v9
    clear hg
    go_wp2
    go_quiet (fail)
    go_wp2
    go_ret2
    exact ⟨_, by rw [HP.out.2]; rfl, by rw [HP.out.1]; exact bare_sent E 9 (by decide) (by decide), drewN_below B1.out nq⟩


set_option maxRecDepth 100000 in
set_option maxHeartbeats 4000000 in
theorem rbest_any (w : World) (pa : Option Addr) (pn pc : Nat) (l : List Pro) (hp : Pros w pa pn pc l) (ra : Option Addr) (rn rc : Nat) (r : List Int) (hr : Is w ra rn rc r) (ta : Option Addr) (tn tc : Nat) (t : List Tm) (ht : Tms w ta tn tc t) (wt ob : Int) :
    Calls Tryd.prog 10 #[.agg #[.slice pa pn pc, .slice ra rn rc, .slice ta tn tc], .int .i64 wt, .int .i64 ob] w fun e w' => e = .returned (.tuple #[.int .i64 (bestP l r t wt ob), .int .i64 (bestE l r t wt ob : Int)]) ∧ Below w.heap.size w w' := by
  have BX : Hid (Bl (w.alloc (.cells #[.slice pa pn pc, .slice ra rn rc, .slice ta tn tc] 26)) w.heap.size [.slice pa pn pc, .slice ra rn rc, .slice ta tn tc]) := bl_alloc w #[.slice pa pn pc, .slice ra rn rc, .slice ta tn tc] 26
  have HB0 := hide (new_below w (.cells #[.slice pa pn pc, .slice ra rn rc, .slice ta tn tc] 26))
  have hz0 : w.heap.size < (w.alloc (.cells #[.slice pa pn pc, .slice ra rn rc, .slice ta tn tc] 26)).heap.size := by simp
  have HS := hide (hp.below HB0.out)
  have HI := hide (hr.below HB0.out)
  have HT := hide (ht.below HB0.out)
  have HL : Hid (l.length = pn) := hp.size
  have HLR : Hid (r.length = rn) := hr.size
  clear hp hr ht
  go_enter Tryd.func10, Tryd.ntmps10
  go_upto_region 1 with fail
  generalize w.alloc (.cells #[.slice pa pn pc, .slice ra rn rc, .slice ta tn tc] 26) = W0 at *
  have b0 := BX.out.cell 0 _ rfl
  have b1 := BX.out.cell 1 _ rfl
  have b2 := BX.out.cell 2 _ rfl
  go_wp2_with fail
  refine Calls.mono (rrgood_any W0 pa pn pc l HS.out ra rn rc r HI.out ta tn tc t HT.out) ?_
  rintro e w1 ⟨rfl, x1⟩
  have B1 := hide (HB0.out.trans (x1.mono HB0.out.size))
  have BX1 := hide (BX.out.below hz0 x1)
  have hz1 : w.heap.size < w1.heap.size := Nat.lt_of_lt_of_le hz0 x1.size
  have HS1 := hide (HS.out.below x1)
  have HI1 := hide (HI.out.below x1)
  clear x1 b0 b1 b2
  by_cases hg : Good l r t
  case neg =>
    rw [decide_eq_false hg]
    have HP := hide (best_bad hg wt ob)
    clear hg
    go_wp2
    go_ret2
    exact ⟨by rw [HP.out.1, HP.out.2]; rfl, B1.out⟩
  rw [decide_eq_true hg]
  have HP := hide (best_good hg wt ob)
  have HL8 : Hid (l.length ≤ 8) := hg.1
  have HFL : Hid ((waitsOf l wt ob).length ≤ 8) := Nat.le_trans (waitsK_len l wt ob l.length) hg.1
  clear hg
  have b0 := BX1.out.cell 0 _ rfl
  have b1 := BX1.out.cell 1 _ rfl
  have b2 := BX1.out.cell 2 _ rfl
  go_wp2_with fail
  refine Calls.mono (rwaiters_any w1 pa pn pc l HS1.out ra rn rc ta tn tc wt ob (by have := HL8.out; have := HL.out; omega)) ?_
  rintro e w2 ⟨xv, rfl, hx, x2⟩
  obtain ⟨xa, xc, rfl, xi⟩ := iown_is hx
  have HI2 := hide xi
  have HS2 := hide (HS1.out.below x2)
  have BX2 := hide (BX1.out.below hz1 x2)
  have hz2 : w.heap.size < w2.heap.size := Nat.lt_of_lt_of_le hz1 x2.size
  have B2 := hide (chain B1.out x2)
  have HN : Hid (∀ i ∈ waitsOf l wt ob, 0 ≤ i ∧ i < (l.length : Int)) := waits_in
  clear x2 hx xi b0 b1 b2
  obtain ⟨F, hF⟩ : ∃ F, waitsOf l wt ob = F := ⟨_, rfl⟩
  rw [hF] at HI2 HN HFL HP ⊢
  obtain ⟨fn, hfn⟩ : ∃ fn, F.length = fn := ⟨_, rfl⟩
  have HLF := hide hfn
  rw [hfn] at HI2 HFL ⊢
  have hf8 := HFL.out
  clear hF hfn
  go_wp2
  go_loopw [9, 10] (fun bv i wr => ∃ k : Nat, k ≤ fn ∧ i = .int .i64 (k : Int) ∧ Hid (k = 0 ∧ bv = .int .i64 (-1) ∨ ∃ x s, 0 < k ∧ F = x :: s ∧ bv = .int .i64 (bestF l x (F.take k))) ∧ Hid (Below w2.heap.size w2 wr)) (fun _ i _ => fn - (intOf i).toNat)
  case atStart => exact ⟨0, by omega, rfl, .inl ⟨rfl, rfl⟩, Below.refl _ _⟩
  case round =>
    obtain ⟨k, hk, rfl, hbest, hb⟩ := hrel
    have HBX := hide (BX2.out.below hz2 hb.out)
    have b0 := HBX.out.cell 0 _ rfl
    have HBW := hide (chain B2.out hb.out)
    by_cases hlt : k < fn
    · obtain ⟨y, hy⟩ : ∃ p, F[k]? = some p := ⟨_, List.getElem?_eq_getElem (by rw [HLF.out]; exact hlt)⟩
      obtain ⟨b, off, rfl, hc⟩ := (HI2.out.below hb.out).at ci1 (by decide) hy
      have q0 := hc 0 _ rfl
      simp only [Nat.add_zero, Nat.mul_one] at q0
      have hyi := HN.out y (List.mem_of_getElem? hy)
      rw [HL.out] at hyi
      obtain ⟨yn, rfl⟩ := Int.eq_ofNat_of_zero_le hyi.1
      have y1 : (yn : Int) < (pn : Int) := hyi.2
      have y0 : (0 : Int) ≤ (yn : Int) := by omega
      have hk1 : (k : Int) < (fn : Int) := by omega
      have HY := hide hy
      obtain ⟨p, hp⟩ : ∃ p, l[yn]? = some p := ⟨_, List.getElem?_eq_getElem (by rw [HL.out]; omega)⟩
      obtain ⟨c, o, rfl, hrp⟩ := (HS2.out.below hb.out).at pro21 (by decide) hp
      have p18 := hrp 18 _ rfl
      have HPY := hide (prioAt_of hp)
      rcases hbest.out with ⟨rfl, rfl⟩ | ⟨x, s, hk0, rfl, rfl⟩
      · have HB : Hid (∃ x s, 0 < 0 + 1 ∧ F = x :: s ∧ Value.int .i64 (yn : Int) = .int .i64 (bestF l x (F.take (0 + 1)))) := by
          cases F with
          | nil => simp at hy
          | cons x s =>
            simp at hy
            subst hy
            exact ⟨_, s, by omega, rfl, by simp [bestF, bestF_self]⟩
        simp only [Nat.add_zero] at q0
        clear hc hy hyi hrp hp
        go_wp2
        go_quiet (fail)
        go_wp2
        go_roundw
        case rel => exact ⟨0 + 1, by omega, by go_num, .inr HB.out, drewN_below hb.out nq⟩
        case measure => simp [intOf]; omega
      · have hxi := HN.out x (by simp)
        have hbi := grt_in (l := l) hxi HN.out k
        have HTK := hide (bestF_take l x hy)
        generalize bestF l x ((x :: s).take k) = bst at *
        rw [HL.out] at hbi
        obtain ⟨bn, rfl⟩ := Int.eq_ofNat_of_zero_le hbi.1
        have y2 : (bn : Int) < (pn : Int) := hbi.2
        have y3 : (0 : Int) ≤ (bn : Int) := by omega
        have d0 : decide ((bn : Int) < 0) = false := decide_eq_false (by omega)
        obtain ⟨p', hp'⟩ : ∃ p, l[bn]? = some p := ⟨_, List.getElem?_eq_getElem (by rw [HL.out]; omega)⟩
        obtain ⟨c', o', e', hrp'⟩ := (HS2.out.below hb.out).at pro21 (by decide) hp'
        simp only [Option.some.injEq, Addr.mk.injEq, and_true] at e'
        obtain ⟨rfl, rfl⟩ := e'
        have p18' := hrp' 18 _ rfl
        have HPB := hide (prioAt_of hp')
        clear hc hy hyi hxi hbi hrp hrp' hp hp'
        by_cases hgt : p'.prio < p.prio
        · have d1 : decide (p'.prio < p.prio) = true := decide_eq_true hgt
          have HB : Hid (bestF l x ((x :: s).take (k + 1)) = (yn : Int)) := by
            unfold Hid
            rw [HTK.out]
            unfold pickS
            rw [HPY.out, HPB.out, if_pos hgt]
          clear hgt
          go_wp2
          go_quiet (fail)
          go_wp2
          go_roundw
          case rel => exact ⟨k + 1, by omega, by go_num, .inr ⟨x, s, by omega, rfl, by rw [HB.out]⟩, drewN_below hb.out nq⟩
          case measure => simp [intOf]; omega
        · have d1 : decide (p'.prio < p.prio) = false := decide_eq_false hgt
          have HB : Hid (bestF l x ((x :: s).take (k + 1)) = (bn : Int)) := by
            unfold Hid
            rw [HTK.out]
            unfold pickS
            rw [HPY.out, HPB.out, if_neg hgt]
          clear hgt
          go_wp2
          go_quiet (fail)
          go_wp2
          go_roundw
          case rel => exact ⟨k + 1, by omega, by go_num, .inr ⟨x, s, by omega, rfl, by rw [HB.out]⟩, drewN_below hb.out nq⟩
          case measure => simp [intOf]; omega
    · obtain rfl : k = fn := by omega
      rcases hbest.out with ⟨rfl, rfl⟩ | ⟨x, s, hk0, rfl, rfl⟩
      · obtain rfl : F = [] := List.length_eq_zero_iff.1 HLF.out
        go_wp2
        go_ret2
        exact ⟨by rw [HP.out.1, HP.out.2]; rfl, HBW.out⟩
      · have HTt : Hid ((x :: s).take k = x :: s) := by unfold Hid; rw [← HLF.out, List.take_length]
        rw [HTt.out]
        have hbi := grt_in (l := l) (HN.out x (by simp)) HN.out k
        rw [HTt.out] at hbi
        have HG : Hid (grtP l (x :: s) = bestF l x (x :: s)) := rfl
        rw [← HG.out] at hbi ⊢
        have d0 : decide (grtP l (x :: s) < 0) = false := decide_eq_false (by omega)
        have HE : Hid (grtE (x :: s) = 0) := rfl
        generalize grtP l (x :: s) = gp at *
        clear hbi
        go_wp2
        go_ret2
        exact ⟨by rw [HP.out.1, HP.out.2, HE.out]; rfl, HBW.out⟩
end Go.Proofs.YtfbmlmdgonoflaaDoor
