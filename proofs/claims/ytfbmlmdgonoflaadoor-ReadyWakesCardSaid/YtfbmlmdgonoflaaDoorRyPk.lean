/-
  Who runs: the program's greatest and Pick, the document's Pick.
-/
import Derived.Test.YtfbmlmdgonoflaaDoorRyRGood
namespace Go.Proofs.YtfbmlmdgonoflaaDoor
open Classical
open Go.RowKit
set_option linter.unusedVariables false
set_option linter.unusedSimpArgs false

/-- What greatest answers. -/
def grtE (r : List Int) : Nat := if r = [] then 17 else 0
def grtP (l : List Pro) : List Int → Int
  | [] => 0
  | x :: s => bestF l x (x :: s)
theorem grt_in {l : List Pro} {x : Int} {r : List Int} (hx : 0 ≤ x ∧ x < (l.length : Int)) (hin : ∀ i ∈ r, 0 ≤ i ∧ i < (l.length : Int)) (k : Nat) : 0 ≤ bestF l x (r.take k) ∧ bestF l x (r.take k) < (l.length : Int) := by
  rcases bestF_mem l (r.take k) x with h | h
  · rw [h]; exact hx
  · exact hin _ (List.mem_of_mem_take h)

set_option maxRecDepth 100000 in
set_option maxHeartbeats 4000000 in
theorem greatest_any {w : World} {E : Nat → Addr} (he : Er9 w E) (pa : Option Addr) (pn pc : Nat) (l : List Pro) (hp : Pros w pa pn pc l) (ra : Option Addr) (rn rc : Nat) (r : List Int) (hr : Is w ra rn rc r) (hin : ∀ i ∈ r, 0 ≤ i ∧ i < (l.length : Int)) (hmr : rn ≤ 9223372036854775807) :
    Calls Tryd.prog 24 #[.slice pa pn pc, .slice ra rn rc] w fun e w' => ∃ v, e = .returned (.tuple #[.int .i64 (grtP l r), v]) ∧ Bare E v (grtE r) ∧ Below w.heap.size w w' := by
  have HS := hide hp
  have HI := hide hr
  have HL : Hid (l.length = pn) := hp.size
  have HLR : Hid (r.length = rn) := hr.size
  have HN := hide hin
  have v17 := he.v17
  clear hp hr hin he
  cases r with
  | nil =>
    obtain rfl : rn = 0 := by have := HLR.out; simp at this; omega
    go_enter Tryd.func24, Tryd.ntmps24
    go_wp2
    go_quiet (fail)
    go_wp2
    go_ret2
    exact ⟨_, rfl, bare_sent E 17 (by decide) (by decide), drewN_below (Below.refl _ _) nq⟩
  | cons x s =>
    have hrn : rn = s.length + 1 := by have := HLR.out; simpa using this.symm
    have d0 : ((rn : Int) == 0) = false := by simp; omega
    have hx := HN.out x (by simp)
    obtain ⟨b, off, rfl, hc⟩ := HI.out.at ci1 (by decide) (k := 0) (x := x) rfl
    have q0 := hc 0 _ rfl
    simp only [Nat.add_zero, Nat.zero_mul] at q0
    have hr0 : (0 : Int) < (rn : Int) := by omega
    have HX := hide hx
    clear hc hx
    go_enter Tryd.func24, Tryd.ntmps24
    go_wp2
    clear q0
    go_loopw [6, 18] (fun bv i wr => ∃ k : Nat, k ≤ rn ∧ i = .int .i64 (k : Int) ∧ bv = .int .i64 (bestF l x ((x :: s).take k)) ∧ Hid (Below w.heap.size w wr)) (fun _ i _ => rn - (intOf i).toNat)
    case atStart => exact ⟨0, by omega, rfl, rfl, Below.refl _ _⟩
    case round =>
      obtain ⟨k, hk, rfl, rfl, hb⟩ := hrel
      by_cases hlt : k < rn
      · obtain ⟨y, hy⟩ : ∃ p, (x :: s)[k]? = some p := ⟨_, List.getElem?_eq_getElem (by rw [HLR.out]; exact hlt)⟩
        obtain ⟨b', off', e', hc⟩ := (HI.out.below hb.out).at ci1 (by decide) hy
        simp only [Option.some.injEq, Addr.mk.injEq, and_true] at e'
        obtain ⟨rfl, rfl⟩ := e'
        have q0 := hc 0 _ rfl
        simp only [Nat.add_zero, Nat.mul_one] at q0
        have hyi := HN.out y (List.mem_of_getElem? hy)
        have hbi := grt_in (l := l) HX.out HN.out k
        have HTK := hide (bestF_take l x hy)
        generalize bestF l x ((x :: s).take k) = bst at *
        rw [HL.out] at hyi hbi
        obtain ⟨yn, rfl⟩ := Int.eq_ofNat_of_zero_le hyi.1
        obtain ⟨bn, rfl⟩ := Int.eq_ofNat_of_zero_le hbi.1
        have y1 : (yn : Int) < (pn : Int) := hyi.2
        have y2 : (bn : Int) < (pn : Int) := hbi.2
        have hk1 : (k : Int) < (rn : Int) := by omega
        obtain ⟨p, hp⟩ : ∃ p, l[yn]? = some p := ⟨_, List.getElem?_eq_getElem (by rw [HL.out]; omega)⟩
        obtain ⟨p', hp'⟩ : ∃ p, l[bn]? = some p := ⟨_, List.getElem?_eq_getElem (by rw [HL.out]; omega)⟩
        obtain ⟨c, o, rfl, hrp⟩ := (HS.out.below hb.out).at pro21 (by decide) hp
        obtain ⟨c', o', e', hrp'⟩ := (HS.out.below hb.out).at pro21 (by decide) hp'
        simp only [Option.some.injEq, Addr.mk.injEq, and_true] at e'
        obtain ⟨rfl, rfl⟩ := e'
        have p18 := hrp 18 _ rfl
        have p18' := hrp' 18 _ rfl
        have HPY := hide (prioAt_of hp)
        have HPB := hide (prioAt_of hp')
        clear hc hy hyi hbi hrp hrp' hp hp'
        by_cases hgt : p'.prio < p.prio
        · have d1 : decide (p'.prio < p.prio) = true := decide_eq_true hgt
          have HB : Hid (bestF l x ((x :: s).take (k + 1)) = (yn : Int)) := by
            unfold Hid
            rw [HTK.out]
            unfold pickS
            rw [HPY.out, HPB.out, if_pos hgt]
          clear hgt
          go_wp2
          go_quiet (fail)
          go_wp2
          go_roundw
          case rel => exact ⟨k + 1, by omega, by go_num, by rw [HB.out], drewN_below hb.out nq⟩
          case measure => simp [intOf]; omega
        · have d1 : decide (p'.prio < p.prio) = false := decide_eq_false hgt
          have HB : Hid (bestF l x ((x :: s).take (k + 1)) = (bn : Int)) := by
            unfold Hid
            rw [HTK.out]
            unfold pickS
            rw [HPY.out, HPB.out, if_neg hgt]
          clear hgt
          go_wp2
          go_quiet (fail)
          go_wp2
          go_roundw
          case rel => exact ⟨k + 1, by omega, by go_num, by rw [HB.out], drewN_below hb.out nq⟩
          case measure => simp [intOf]; omega
      · obtain rfl : k = rn := by omega
        have HT : Hid ((x :: s).take k = x :: s) := by unfold Hid; rw [← HLR.out, List.take_length]
        rw [HT.out]
        go_wp2
        go_ret2
        exact ⟨_, rfl, bare_nil E, hb.out⟩

theorem pickE_good {l : List Pro} {r : List Int} {t : List Tm} (h : Good l r t) : pickE l r t = grtE r ∧ pickP l r t = grtP l r := by
  refine ⟨by unfold pickE grtE; rw [if_neg (by simpa using h)], ?_⟩
  unfold pickP
  rw [if_pos h]
  cases r <;> rfl
theorem pickE_bad {l : List Pro} {r : List Int} {t : List Tm} (h : ¬ Good l r t) : pickE l r t = 9 ∧ pickP l r t = 0 := ⟨by unfold pickE; rw [if_pos h], by unfold pickP; rw [if_neg h]⟩

end Go.Proofs.YtfbmlmdgonoflaaDoor
