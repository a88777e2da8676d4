/-
  Does a port fit its plan: the program's fits, its loop.
-/
import Derived.Test.YtgcodajiehfloaaDoorPtFits0
import Derived.Deep.DeepCutAuto
namespace Go.Proofs.YtgcodajiehfloaaDoor
open Go.RowKit
set_option linter.unusedVariables false
set_option linter.unusedSimpArgs false

set_option maxRecDepth 100000 in
set_option maxHeartbeats 4000000 in
theorem fits_yes (k s d r age : Int) (a : Option Addr) (len cap : Nat) (l : List ByteArray) (w : World) (hs : Sts w a len cap l) (h1 : decide (d < (len : Int)) = false) (h2 : decide (age < 0) = false) (h3 : decide (mage k len < age) = false) :
    Calls Tryd.prog 39 #[.agg #[.int .i64 k, .int .i64 s, .int .i64 d, .int .i64 r], .agg #[.slice a len cap, .int .i64 age]] w fun e w' => e = .returned (.bool (shorts s l)) ∧ Below w.heap.size w w' := by
  have HS := hide hs
  have hl := hs.size
  have hm := hs.most
  clear hs
  have HM := hide (fun w2 => mostAge_any k s d r age a len cap w2 hm)
  have PQ := hide (pq_alloc w k s d r (.slice a len cap) age)
  have B0 := hide (pq_below w k s d r (.slice a len cap) age)
  go_enter Tryd.func39, Tryd.ntmps39
  go_wp2_with fail
  generalize (w.alloc (.cells #[.int .i64 k, .int .i64 s, .int .i64 d, .int .i64 r] 23)).alloc (.cells #[.slice a len cap, .int .i64 age] 26) = W0 at *
  have q0 := PQ.out.q0
  have q1 := PQ.out.q1
  have c0 := PQ.out.c0
  have c1 := PQ.out.c1
  have c2 := PQ.out.c2
  have c3 := PQ.out.c3
  go_cut [25] (fun v wx => v = .bool false ∧ Below W0.heap.size W0 wx)
  case first =>
    go_region_with (go_at_call 40; refine (HM.out _).mono ?_; rintro e w5 ⟨rfl, b5⟩; have bb : Below W0.heap.size W0 w5 := ⟨b5.os, b5.tape, b5.output, b5.size, b5.block⟩; have B5 := hide bb; have k1 := cell_below q1 bb; clear b5 bb)
    all_goals go_wp2
    all_goals go_meet
    all_goals exact ⟨rfl, B5.out⟩
  case rest =>
    obtain ⟨rfl, b5⟩ := hcut
    have k0 := cell_below q0 b5
    have k2 := cell_below c1 b5
    have B5 := hide b5
    have DW := hide (chain B0.out b5)
    clear b5 q0 q1 c0 c1 c2 c3 HM PQ
    go_wp2
    go_loopw [29] (fun i wr => ∃ j : Nat, j ≤ len ∧ i = .int .i64 (j : Int) ∧ shorts s (l.take j) = true ∧ Hid (Below wc.heap.size wc wr)) (fun i _ => len - (intOf i).toNat)
    case atStart => exact ⟨0, by omega, rfl, rfl, Below.refl _ _⟩
    case round =>
      obtain ⟨j, hj, rfl, hsh, hb⟩ := hrel
      have k3 := cell_below k2 hb.out
      have HSH := hide hsh
      clear hsh
      by_cases hlt : j < len
      · obtain ⟨x, hx⟩ : ∃ x, l[j]? = some x := ⟨_, List.getElem?_eq_getElem (by rw [HS.out.size]; exact hlt)⟩
        obtain ⟨b, off, rfl, e1⟩ := (HS.out.below (chain DW.out hb.out)).cell hx
        have hxs : x.size ≤ 9223372036854775807 := HS.out.small x (List.mem_of_getElem? hx)
        have HX := hide hx
        clear hx
        by_cases hgt : (x.size : Int) ≤ s
        · have hd : decide (s < (x.size : Int)) = false := decide_eq_false (by omega)
          go_wp2
          go_roundw
          case rel => exact ⟨j + 1, by omega, by go_num, by rw [shorts_next HX.out, HSH.out, decide_eq_true hgt]; rfl, hb.out⟩
          case measure => simp [intOf]; omega
        · have hd : decide (s < (x.size : Int)) = true := decide_eq_true (by omega)
          go_wp2
          go_ret
          refine ⟨ret_bool ?_, chain DW.out hb.out⟩
          exact (shorts_no (k := j + 1) (by rw [shorts_next HX.out, decide_eq_false (by omega), Bool.and_false])).symm
      · obtain rfl : j = len := by omega
        have HT : Hid (l.take j = l) := by unfold Hid; rw [← HS.out.size, List.take_length]
        go_wp2
        go_ret
        refine ⟨ret_bool ?_, chain DW.out hb.out⟩
        have h9 := HSH.out
        rw [HT.out] at h9
        exact h9.symm

theorem fits_any (k s d r age : Int) (a : Option Addr) (len cap : Nat) (l : List ByteArray) (w : World) (hs : Sts w a len cap l) :
    Calls Tryd.prog 39 #[.agg #[.int .i64 k, .int .i64 s, .int .i64 d, .int .i64 r], .agg #[.slice a len cap, .int .i64 age]] w fun e w' => e = .returned (.bool (fitB k s d l age)) ∧ Below w.heap.size w w' := by
  have hl := hs.size
  by_cases h : (l.length : Int) ≤ d ∧ 0 ≤ age ∧ age ≤ mage k l.length
  · have e : fitB k s d l age = shorts s l := by unfold fitB; rw [decide_eq_true h, Bool.true_and]
    rw [e]
    rw [hl] at h
    exact fits_yes k s d r age a len cap l w hs (decide_eq_false (by omega)) (decide_eq_false (by omega)) (decide_eq_false (by omega))
  · have e : fitB k s d l age = false := by unfold fitB; rw [decide_eq_false h, Bool.false_and]
    rw [e]
    rw [hl] at h
    refine fits_no k s d r age a len cap l w hs ?_
    by_cases g1 : d < (len : Int)
    · exact .inl (decide_eq_true g1)
    · by_cases g2 : age < 0
      · exact .inr (.inl ⟨decide_eq_false g1, decide_eq_true g2⟩)
      · exact .inr (.inr ⟨decide_eq_false g1, decide_eq_false g2, decide_eq_true (by omega)⟩)
end Go.Proofs.YtgcodajiehfloaaDoor
