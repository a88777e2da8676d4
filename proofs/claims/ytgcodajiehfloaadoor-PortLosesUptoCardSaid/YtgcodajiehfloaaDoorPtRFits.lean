/-
  Does a port fit its plan: the document's Fits.
-/
import Derived.Test.YtgcodajiehfloaaDoorPtFits0
namespace Go.Proofs.YtgcodajiehfloaaDoor
open Go.RowKit
set_option linter.unusedVariables false
set_option linter.unusedSimpArgs false

theorem fit_is (k s d : Int) (l : List ByteArray) (age : Int) : fitB k s d l age = (decide ((l.length : Int) ≤ d ∧ 0 ≤ age ∧ age ≤ 255) && shorts s l && (decide (age = 0) || (decide (k = 1) && decide (0 < (l.length : Int))))) := by
  unfold fitB
  have h := ma_is k l.length
  cases shorts s l
  · simp
  · rw [Bool.and_true, Bool.and_true, Bool.eq_iff_iff]
    simp only [decide_eq_true_eq, Bool.and_eq_true, Bool.or_eq_true]
    omega

set_option maxRecDepth 100000 in
set_option maxHeartbeats 4000000 in
theorem refFits_any (k s d r age : Int) (a : Option Addr) (len cap : Nat) (l : List ByteArray) (w : World) (hs : Sts w a len cap l) :
    Calls Tryd.prog 42 #[.agg #[.int .i64 k, .int .i64 s, .int .i64 d, .int .i64 r], .agg #[.slice a len cap, .int .i64 age]] w fun e w' => e = .returned (.bool (fitB k s d l age)) ∧ Below w.heap.size w w' := by
  have HS := hide hs
  have hl := hs.size
  have hm := hs.most
  have HF := hide (fit_is k s d l age)
  clear hs
  have PQ := hide (pq_alloc w k s d r (.slice a len cap) age)
  have B0 := hide (pq_below w k s d r (.slice a len cap) age)
  go_enter Tryd.func42, Tryd.ntmps42
  go_wp2_with fail
  all_goals generalize (w.alloc (.cells #[.int .i64 k, .int .i64 s, .int .i64 d, .int .i64 r] 23)).alloc (.cells #[.slice a len cap, .int .i64 age] 26) = W0 at *
  all_goals first
    | (go_ret; exact ⟨ret_bool (by rw [HF.out, decide_eq_false (by rw [hl]; omega), Bool.false_and, Bool.false_and]), B0.out⟩)
    | skip
  have c0 := PQ.out.c0
  have c1 := PQ.out.c1
  have q0 := PQ.out.q0
  have q1 := PQ.out.q1
  clear PQ
  go_loopw [5] (fun i wr => ∃ j : Nat, j ≤ len ∧ i = .int .i64 (j : Int) ∧ shorts s (l.take j) = true ∧ Hid (Below W0.heap.size W0 wr)) (fun i _ => len - (intOf i).toNat)
  case atStart => exact ⟨0, by omega, rfl, rfl, Below.refl _ _⟩
  case round =>
    obtain ⟨j, hj, rfl, hsh, hb⟩ := hrel
    have k0 := cell_below c0 hb.out
    have k1 := cell_below c1 hb.out
    have k2 := cell_below q0 hb.out
    have k3 := cell_below q1 hb.out
    have DW := hide (chain B0.out hb.out)
    have HSH := hide hsh
    clear hsh c0 c1 q0 q1
    by_cases hlt : j < len
    · obtain ⟨x, hx⟩ : ∃ x, l[j]? = some x := ⟨_, List.getElem?_eq_getElem (by rw [HS.out.size]; exact hlt)⟩
      obtain ⟨b, off, rfl, e1⟩ := (HS.out.below DW.out).cell hx
      have hxs : x.size ≤ 9223372036854775807 := HS.out.small x (List.mem_of_getElem? hx)
      have HX := hide hx
      clear hx
      by_cases hgt : (x.size : Int) ≤ s
      · have hd : decide (s < (x.size : Int)) = false := decide_eq_false (by omega)
        go_wp2_with fail
        go_quiet (fail)
        go_wp2
        go_roundw
        case rel => exact ⟨j + 1, by omega, by go_num, by rw [shorts_next HX.out, HSH.out, decide_eq_true hgt]; rfl, drewN_below hb.out nq⟩
        case measure => simp [intOf]; omega
      · have hd : decide (s < (x.size : Int)) = true := decide_eq_true (by omega)
        go_wp2_with fail
        go_quiet (fail)
        go_wp2
        go_ret
        refine ⟨ret_bool ?_, drewN_below DW.out nq⟩
        rw [HF.out, shorts_no (k := j + 1) (by rw [shorts_next HX.out, decide_eq_false (by omega), Bool.and_false]), Bool.and_false, Bool.false_and]
    · obtain rfl : j = len := by omega
      have HT : Hid (l.take j = l) := by unfold Hid; rw [← HS.out.size, List.take_length]
      have HG : Hid (fitB k s d l age = (decide (age = 0) || (decide (k = 1) && decide (0 < (j : Int))))) := by
        unfold Hid
        have h9 := HSH.out
        rw [HT.out] at h9
        rw [HF.out, h9, decide_eq_true (by rw [hl]; omega), hl]
        rfl
      clear HF HSH HT
      go_wp2
      all_goals go_ret
      all_goals refine ⟨ret_bool ?_, DW.out⟩
      all_goals (rw [HG.out]; clear HG; simp_all; done)
end Go.Proofs.YtgcodajiehfloaaDoor
