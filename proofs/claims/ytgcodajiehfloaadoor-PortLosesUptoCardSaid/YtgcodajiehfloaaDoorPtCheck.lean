/-
  Does a port fit its plan: Check of the program and of the document.
-/
import Derived.Test.YtgcodajiehfloaaDoorPtRChk
import Derived.Test.YtgcodajiehfloaaDoorPtFits
import Derived.Test.YtgcodajiehfloaaDoorPtRFits
namespace Go.Proofs.YtgcodajiehfloaaDoor
open Go.RowKit
set_option linter.unusedVariables false
set_option linter.unusedSimpArgs false

/-- The number of Check's error. -/
def chkErr (k s d r : Int) (l : List ByteArray) (age : Int) : Nat := if planErr k s d r = 0 then (if fitB k s d l age = true then 0 else 9) else 8

set_option maxRecDepth 100000 in
set_option maxHeartbeats 4000000 in
theorem check_any {w : World} {E : Nat → Addr} (he : Errs w E) (k s d r age : Int) (a : Option Addr) (len cap : Nat) (l : List ByteArray) (hs : Sts w a len cap l) :
    Calls Tryd.prog 32 #[.agg #[.int .i64 k, .int .i64 s, .int .i64 d, .int .i64 r], .agg #[.slice a len cap, .int .i64 age]] w fun e w' => ∃ v, e = .returned v ∧ Bare E v (chkErr k s d r l age) ∧ Below w.heap.size w w' := by
  have HS := hide hs
  have HE := hide he
  have PQ := hide (pq_alloc w k s d r (.slice a len cap) age)
  have B0 := hide (pq_below w k s d r (.slice a len cap) age)
  clear hs he
  go_enter Tryd.func32, Tryd.ntmps32
  go_wp2_with fail
  generalize (w.alloc (.cells #[.int .i64 k, .int .i64 s, .int .i64 d, .int .i64 r] 23)).alloc (.cells #[.slice a len cap, .int .i64 age] 26) = W0 at *
  refine Calls.mono (checkPlan_any (HE.out.below B0.out) k s d r) ?_
  rintro e w1 ⟨v, rfl, hv, b1⟩
  have D1 := hide (chain B0.out b1)
  have P1 := hide (PQ.out.below b1)
  clear b1 PQ B0
  rcases hv with ⟨rfl, h0⟩ | ⟨h1, h2, rfl⟩
  · have c0 := P1.out.c0
    have c1 := P1.out.c1
    have c2 := P1.out.c2
    have c3 := P1.out.c3
    have q0 := P1.out.q0
    have q1 := P1.out.q1
    go_wp2_with fail
    refine Calls.mono (fits_any k s d r age a len cap l w1 (HS.out.below D1.out)) ?_
    rintro e w2 ⟨rfl, b2⟩
    have v9 := (HE.out.below (chain D1.out b2)).v9
    have D2 := hide (chain D1.out b2)
    clear b2 D1 P1 c0 c1 c2 c3 q0 q1
    have HC : Hid (chkErr k s d r l age = if fitB k s d l age = true then 0 else 9) := by unfold Hid chkErr; rw [if_pos h0]
    cases hf : fitB k s d l age
    · rw [hf] at HC
      go_wp2
      go_ret
      exact ⟨_, rfl, bare_is 9 HC.out (by decide) (by decide), D2.out⟩
    · rw [hf] at HC
      go_wp2
      go_ret
      exact ⟨_, rfl, bare_no HC.out, D2.out⟩
  · have v8 := (HE.out.below D1.out).v8
    unfold sent
    go_wp2
    go_ret
    exact ⟨_, rfl, bare_is 8 (by unfold chkErr; rw [if_neg (by omega)]) (by decide) (by decide), D1.out⟩

set_option maxRecDepth 100000 in
set_option maxHeartbeats 4000000 in
theorem refCheck_any {w : World} (k s d r age : Int) (a : Option Addr) (len cap : Nat) (l : List ByteArray) (hs : Sts w a len cap l) :
    Calls Tryd.prog 43 #[.agg #[.int .i64 k, .int .i64 s, .int .i64 d, .int .i64 r], .agg #[.slice a len cap, .int .i64 age]] w fun e w' => e = .returned (.int .i64 (chkErr k s d r l age : Int)) ∧ Below w.heap.size w w' := by
  have HS := hide hs
  have PQ := hide (pq_alloc w k s d r (.slice a len cap) age)
  have B0 := hide (pq_below w k s d r (.slice a len cap) age)
  clear hs
  go_enter Tryd.func43, Tryd.ntmps43
  go_wp2_with fail
  generalize (w.alloc (.cells #[.int .i64 k, .int .i64 s, .int .i64 d, .int .i64 r] 23)).alloc (.cells #[.slice a len cap, .int .i64 age] 26) = W0 at *
  refine Calls.mono (refCheckPlan_any k s d r W0) ?_
  rintro e w1 ⟨rfl, b1⟩
  have D1 := hide (chain B0.out b1)
  have P1 := hide (PQ.out.below b1)
  clear b1 PQ B0
  by_cases h0 : planErr k s d r = 0
  · rw [h0]
    have c0 := P1.out.c0
    have c1 := P1.out.c1
    have c2 := P1.out.c2
    have c3 := P1.out.c3
    have q0 := P1.out.q0
    have q1 := P1.out.q1
    have HC : Hid (chkErr k s d r l age = if fitB k s d l age = true then 0 else 9) := by unfold Hid chkErr; rw [if_pos h0]
    clear h0
    go_wp2_with fail
    refine Calls.mono (refFits_any k s d r age a len cap l w1 (HS.out.below D1.out)) ?_
    rintro e w2 ⟨rfl, b2⟩
    have D2 := hide (chain D1.out b2)
    clear b2 D1 P1 c0 c1 c2 c3 q0 q1
    cases hf : fitB k s d l age
    · rw [hf] at HC
      go_wp2
      go_ret
      exact ⟨ret_int (by rw [HC.out]; rfl), D2.out⟩
    · rw [hf] at HC
      go_wp2
      go_ret
      exact ⟨ret_int (by rw [HC.out]; rfl), D2.out⟩
  · have HC : Hid (chkErr k s d r l age = 8) := by unfold Hid chkErr; rw [if_neg h0]
    have hne : ((planErr k s d r : Int) != 0) = true := by simp; omega
    generalize planErr k s d r = P at *
    clear h0
    go_wp2
    go_ret
    exact ⟨ret_int (by rw [HC.out]; rfl), D1.out⟩
end Go.Proofs.YtgcodajiehfloaaDoor
