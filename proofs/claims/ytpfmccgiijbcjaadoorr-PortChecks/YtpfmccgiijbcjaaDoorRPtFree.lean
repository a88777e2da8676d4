/-
  Free and Most, of the program and of the document.
-/
import Derived.Test.YtpfmccgiijbcjaaDoorRPtAge2
import Derived.Test.YtpfmccgiijbcjaaDoorRPtSmall
namespace Go.Proofs.YtpfmccgiijbcjaaDoorR
open Go.RowKit
set_option linter.unusedVariables false
set_option linter.unusedSimpArgs false

def freeErr (k s d r : Int) (l : List ByteArray) (age : Int) : Nat := if chkErr k s d r l age = 0 then (if k = 3 ∨ k = 4 then 0 else 7) else chkErr k s d r l age
def freeB (k s d r : Int) (l : List ByteArray) (age : Int) : Bool := if chkErr k s d r l age = 0 then (if k = 3 then decide (0 < l.length) else if k = 4 then decide ((l.length : Int) < d) else false) else false
def mostErr (k s d r : Int) : Nat := if planErr k s d r = 0 then 0 else 8
def mostV (k s d r : Int) : Int := if planErr k s d r = 0 then (if k = 1 then 3 + s else if k = 3 then 2 + d * (1 + s) else 2) else 0

set_option maxRecDepth 100000 in
set_option maxHeartbeats 4000000 in
theorem free_any {w : World} {E : Nat → Addr} (he : Errs w E) (k s d r age : Int) (a : Option Addr) (len cap : Nat) (l : List ByteArray) (hs : Sts w a len cap l) :
    Calls Tryd.prog 18 #[.agg #[.int .i64 k, .int .i64 s, .int .i64 d, .int .i64 r], .agg #[.slice a len cap, .int .i64 age]] w fun e w' => ∃ v, e = .returned (.tuple #[.bool (freeB k s d r l age), v]) ∧ Bare E v (freeErr k s d r l age) ∧ Below w.heap.size w w' := by
  have HS := hide hs
  have HE := hide he
  have hl := hs.size
  have PQ := hide (pq_alloc w k s d r (.slice a len cap) age)
  have B0 := hide (pq_below w k s d r (.slice a len cap) age)
  clear hs he
  go_enter Tryd.func18, Tryd.ntmps18
  go_wp2_with fail
  generalize (w.alloc (.cells #[.int .i64 k, .int .i64 s, .int .i64 d, .int .i64 r] 23)).alloc (.cells #[.slice a len cap, .int .i64 age] 26) = W0 at *
  refine Calls.mono (check_any (HE.out.below B0.out) k s d r age a len cap l (HS.out.below B0.out)) ?_
  rintro e w1 ⟨v, rfl, hv, b1⟩
  have D1 := hide (chain B0.out b1)
  have P1 := hide (PQ.out.below b1)
  clear b1 PQ B0
  rcases hv with ⟨rfl, h0⟩ | ⟨h1, h2, rfl⟩
  · have c0 := P1.out.c0
    have c2 := P1.out.c2
    have q0 := P1.out.q0
    have v7 := (HE.out.below D1.out).v7
    have hm := HS.out.most
    by_cases k3 : k = 3
    · subst k3
      have HA : Hid (freeErr 3 s d r l age = 0) := by unfold Hid freeErr; rw [if_pos h0]; rfl
      have HB : Hid (freeB 3 s d r l age = decide (0 < len)) := by unfold Hid freeB; rw [if_pos h0, if_pos rfl, hl]
      go_wp2
      all_goals go_ret2
      all_goals exact ⟨_, by rw [HB.out]; rfl, bare_no HA.out, D1.out⟩
    · have e3 : (k == 3) = false := by simp [k3]
      by_cases k4 : k = 4
      · subst k4
        have HA : Hid (freeErr 4 s d r l age = 0) := by unfold Hid freeErr; rw [if_pos h0]; rfl
        have HB : Hid (freeB 4 s d r l age = decide ((len : Int) < d)) := by unfold Hid freeB; rw [if_pos h0, if_neg k3, if_pos rfl, hl]
        clear k3 e3
        go_wp2
        all_goals go_ret2
        all_goals exact ⟨_, by rw [HB.out]; rfl, bare_no HA.out, D1.out⟩
      · have e4 : (k == 4) = false := by simp [k4]
        have HA : Hid (freeErr k s d r l age = 7) := by unfold Hid freeErr; rw [if_pos h0, if_neg (by omega)]
        have HB : Hid (freeB k s d r l age = false) := by unfold Hid freeB; rw [if_pos h0, if_neg k3, if_neg k4]
        clear k3 k4
        go_wp2
        go_quiet (fail)
        go_wp2
        go_ret2
        exact ⟨_, by rw [HB.out]; rfl, bare_is 7 HA.out (by decide) (by decide), drewN_below D1.out nq⟩
  · have HA : Hid (freeErr k s d r l age = chkErr k s d r l age) := by unfold Hid freeErr; rw [if_neg (by omega)]
    have HB : Hid (freeB k s d r l age = false) := by unfold Hid freeB; rw [if_neg (by omega)]
    unfold sent
    go_wp2
    go_ret2
    exact ⟨_, by rw [HB.out]; rfl, by rw [HA.out]; exact bare_sent E _ h1 h2, D1.out⟩

set_option maxRecDepth 100000 in
set_option maxHeartbeats 4000000 in
theorem refFree_any {w : World} (k s d r age : Int) (a : Option Addr) (len cap : Nat) (l : List ByteArray) (hs : Sts w a len cap l) :
    Calls Tryd.prog 19 #[.agg #[.int .i64 k, .int .i64 s, .int .i64 d, .int .i64 r], .agg #[.slice a len cap, .int .i64 age]] w fun e w' => e = .returned (.tuple #[.bool (freeB k s d r l age), .int .i64 (freeErr k s d r l age : Int)]) ∧ Below w.heap.size w w' := by
  have HS := hide hs
  have hl := hs.size
  have PQ := hide (pq_alloc w k s d r (.slice a len cap) age)
  have B0 := hide (pq_below w k s d r (.slice a len cap) age)
  clear hs
  go_enter Tryd.func19, Tryd.ntmps19
  go_wp2_with fail
  generalize (w.alloc (.cells #[.int .i64 k, .int .i64 s, .int .i64 d, .int .i64 r] 23)).alloc (.cells #[.slice a len cap, .int .i64 age] 26) = W0 at *
  refine Calls.mono (refCheck_any k s d r age a len cap l (HS.out.below B0.out)) ?_
  rintro e w1 ⟨rfl, b1⟩
  have D1 := hide (chain B0.out b1)
  have P1 := hide (PQ.out.below b1)
  clear b1 PQ B0
  by_cases h0 : chkErr k s d r l age = 0
  · have c0 := P1.out.c0
    have c2 := P1.out.c2
    have q0 := P1.out.q0
    have hm := HS.out.most
    by_cases k3 : k = 3
    · subst k3
      have HA : Hid (freeErr 3 s d r l age = 0) := by unfold Hid freeErr; rw [if_pos h0]; rfl
      have HB : Hid (freeB 3 s d r l age = decide (0 < len)) := by unfold Hid freeB; rw [if_pos h0, if_pos rfl, hl]
      rw [h0]
      clear h0
      go_wp2
      all_goals go_ret2
      all_goals exact ⟨by rw [HB.out, HA.out]; rfl, D1.out⟩
    · have e3 : (k == 3) = false := by simp [k3]
      by_cases k4 : k = 4
      · subst k4
        have HA : Hid (freeErr 4 s d r l age = 0) := by unfold Hid freeErr; rw [if_pos h0]; rfl
        have HB : Hid (freeB 4 s d r l age = decide ((len : Int) < d)) := by unfold Hid freeB; rw [if_pos h0, if_neg k3, if_pos rfl, hl]
        rw [h0]
        clear k3 e3 h0
        go_wp2
        all_goals go_ret2
        all_goals exact ⟨by rw [HB.out, HA.out]; rfl, D1.out⟩
      · have e4 : (k == 4) = false := by simp [k4]
        have HA : Hid (freeErr k s d r l age = 7) := by unfold Hid freeErr; rw [if_pos h0, if_neg (by omega)]
        have HB : Hid (freeB k s d r l age = false) := by unfold Hid freeB; rw [if_pos h0, if_neg k3, if_neg k4]
        rw [h0]
        clear k3 k4 h0
        go_wp2
        go_ret2
        exact ⟨by rw [HB.out, HA.out]; rfl, D1.out⟩
  · have HA : Hid (freeErr k s d r l age = chkErr k s d r l age) := by unfold Hid freeErr; rw [if_neg h0]
    have HB : Hid (freeB k s d r l age = false) := by unfold Hid freeB; rw [if_neg h0]
    have hne : ((chkErr k s d r l age : Int) != 0) = true := by simp; omega
    generalize hP : chkErr k s d r l age = P at *
    clear h0
    go_wp2
    go_ret2
    exact ⟨by rw [HB.out, HA.out]; rfl, D1.out⟩

set_option maxRecDepth 100000 in
set_option maxHeartbeats 4000000 in
theorem most_any {w : World} {E : Nat → Addr} (he : Errs w E) (k s d r : Int) :
    Calls Tryd.prog 20 #[.agg #[.int .i64 k, .int .i64 s, .int .i64 d, .int .i64 r]] w fun e w' => ∃ v, e = .returned (.tuple #[.int .i64 (mostV k s d r), v]) ∧ Bare E v (mostErr k s d r) ∧ Below w.heap.size w w' := by
  have HE := hide he
  have B0 : Hid (Below w.heap.size w (w.alloc (.cells #[.int .i64 k, .int .i64 s, .int .i64 d, .int .i64 r] 23))) := (Below.refl _ _).alloc (Nat.le_refl _) _
  have c0 : (w.alloc (.cells #[.int .i64 k, .int .i64 s, .int .i64 d, .int .i64 r] 23)).cell? ⟨w.heap.size, 0, none⟩ = some (.int .i64 k) := by rw [World.cell?_alloc_at _ _ _ _ rfl]; rfl
  have c1 : (w.alloc (.cells #[.int .i64 k, .int .i64 s, .int .i64 d, .int .i64 r] 23)).cell? ⟨w.heap.size, 1, none⟩ = some (.int .i64 s) := by rw [World.cell?_alloc_at _ _ _ _ rfl]; rfl
  have c2 : (w.alloc (.cells #[.int .i64 k, .int .i64 s, .int .i64 d, .int .i64 r] 23)).cell? ⟨w.heap.size, 2, none⟩ = some (.int .i64 d) := by rw [World.cell?_alloc_at _ _ _ _ rfl]; rfl
  have c3 : (w.alloc (.cells #[.int .i64 k, .int .i64 s, .int .i64 d, .int .i64 r] 23)).cell? ⟨w.heap.size, 3, none⟩ = some (.int .i64 r) := by rw [World.cell?_alloc_at _ _ _ _ rfl]; rfl
  have C0 := hide c0
  have C1 := hide c1
  have C2 := hide c2
  have C3 := hide c3
  clear he c0 c1 c2 c3
  go_enter Tryd.func20, Tryd.ntmps20
  go_wp2_with fail
  generalize w.alloc (.cells #[.int .i64 k, .int .i64 s, .int .i64 d, .int .i64 r] 23) = W0 at *
  refine Calls.mono (checkPlan_any (HE.out.below B0.out) k s d r) ?_
  rintro e w1 ⟨v, rfl, hv, b1⟩
  have D1 := hide (chain B0.out b1)
  have c0 := cell_below C0.out b1
  have c1 := cell_below C1.out b1
  have c2 := cell_below C2.out b1
  have c3 := cell_below C3.out b1
  clear b1 B0 C0 C1 C2 C3
  rcases hv with ⟨rfl, h0⟩ | ⟨h1, h2, rfl⟩
  · have HA : Hid (mostErr k s d r = 0) := by unfold Hid mostErr; rw [if_pos h0]
    have hp := pe_is k s d r
    go_wp2_with fail
    refine Calls.mono (isIn_any k s d r w1) ?_
    rintro e w2 ⟨rfl, b2⟩
    have D2 := hide (chain D1.out b2)
    have k1 := cell_below c1 b2
    have k2 := cell_below c2 b2
    clear b2 c0 c1 c2 c3 D1
    cases hk : kin k
    · have HV : Hid (mostV k s d r = 2) := by
        unfold Hid mostV
        unfold kin at hk
        simp only [Bool.or_eq_false_iff, beq_eq_false_iff_ne, ne_eq] at hk
        rw [if_pos h0, if_neg hk.1, if_neg hk.2]
      clear hp
      go_wp2
      go_ret2
      exact ⟨_, by rw [HV.out]; rfl, bare_no HA.out, D2.out⟩
    · have HV : Hid (mostV k s d r = 2 + d * (1 + s)) := by
        unfold Hid mostV
        unfold kin at hk
        simp only [Bool.or_eq_true, beq_iff_eq] at hk
        rw [if_pos h0]
        rcases hk with hk | hk
        · rw [if_pos hk, show d = 1 by omega]
          omega
        · rw [if_neg (by omega), if_pos hk]
      have hds : 0 ≤ d * (1 + s) ∧ d * (1 + s) ≤ 8 * 33 := by
        have h1 : 0 ≤ d := by omega
        have h2 : d ≤ 8 := by omega
        have h3 : 0 ≤ 1 + s := by omega
        have h4 : 1 + s ≤ 33 := by omega
        exact ⟨Int.mul_nonneg h1 h3, Int.mul_le_mul h2 h4 h3 (by omega)⟩
      have w1' : IntKind.i64.wrap (1 + s) = 1 + s := by rw [IntKind.wrap_i64]; omega
      have w2' : IntKind.i64.wrap (d * (1 + s)) = d * (1 + s) := by rw [IntKind.wrap_i64]; omega
      have w3' : IntKind.i64.wrap (2 + d * (1 + s)) = 2 + d * (1 + s) := by rw [IntKind.wrap_i64]; omega
      clear hp hds
      go_wp2
      first
        | (go_ret2; exact ⟨_, by rw [HV.out]; rfl, bare_no HA.out, D2.out⟩)
        | (go_quiet (fail); go_wp2; go_ret2; exact ⟨_, by rw [HV.out]; rfl, bare_no HA.out, drewN_below D2.out nq⟩)
  · have HA : Hid (mostErr k s d r = 8) := by unfold Hid mostErr; rw [if_neg (by omega)]
    have HB : Hid (mostV k s d r = 0) := by unfold Hid mostV; rw [if_neg (by omega)]
    have v8 := (HE.out.below D1.out).v8
    unfold sent
    go_wp2
    go_quiet (fail)
    go_wp2
    go_ret2
    exact ⟨_, by rw [HB.out]; rfl, bare_is 8 HA.out (by decide) (by decide), drewN_below D1.out nq⟩

set_option maxRecDepth 100000 in
set_option maxHeartbeats 4000000 in
theorem refMost_any {w : World} (k s d r : Int) :
    Calls Tryd.prog 21 #[.agg #[.int .i64 k, .int .i64 s, .int .i64 d, .int .i64 r]] w fun e w' => e = .returned (.tuple #[.int .i64 (mostV k s d r), .int .i64 (mostErr k s d r : Int)]) ∧ Below w.heap.size w w' := by
  have B0 : Hid (Below w.heap.size w (w.alloc (.cells #[.int .i64 k, .int .i64 s, .int .i64 d, .int .i64 r] 23))) := (Below.refl _ _).alloc (Nat.le_refl _) _
  have c0 : (w.alloc (.cells #[.int .i64 k, .int .i64 s, .int .i64 d, .int .i64 r] 23)).cell? ⟨w.heap.size, 0, none⟩ = some (.int .i64 k) := by rw [World.cell?_alloc_at _ _ _ _ rfl]; rfl
  have c1 : (w.alloc (.cells #[.int .i64 k, .int .i64 s, .int .i64 d, .int .i64 r] 23)).cell? ⟨w.heap.size, 1, none⟩ = some (.int .i64 s) := by rw [World.cell?_alloc_at _ _ _ _ rfl]; rfl
  have c2 : (w.alloc (.cells #[.int .i64 k, .int .i64 s, .int .i64 d, .int .i64 r] 23)).cell? ⟨w.heap.size, 2, none⟩ = some (.int .i64 d) := by rw [World.cell?_alloc_at _ _ _ _ rfl]; rfl
  have C0 := hide c0
  have C1 := hide c1
  have C2 := hide c2
  clear c0 c1 c2
  go_enter Tryd.func21, Tryd.ntmps21
  go_wp2_with fail
  generalize w.alloc (.cells #[.int .i64 k, .int .i64 s, .int .i64 d, .int .i64 r] 23) = W0 at *
  refine Calls.mono (refCheckPlan_any k s d r W0) ?_
  rintro e w1 ⟨rfl, b1⟩
  have D1 := hide (chain B0.out b1)
  have c0 := cell_below C0.out b1
  have c1 := cell_below C1.out b1
  have c2 := cell_below C2.out b1
  clear b1 B0 C0 C1 C2
  by_cases h0 : planErr k s d r = 0
  · have HA : Hid (mostErr k s d r = 0) := by unfold Hid mostErr; rw [if_pos h0]
    have hp := pe_is k s d r
    by_cases k1 : k = 1
    · subst k1
      have HV : Hid (mostV 1 s d r = 3 + s) := by unfold Hid mostV; rw [if_pos h0, if_pos rfl]
      have w1' : IntKind.i64.wrap (3 + s) = 3 + s := by rw [IntKind.wrap_i64]; omega
      rw [h0]
      clear hp h0
      go_wp2
      go_ret2
      exact ⟨by rw [HV.out, HA.out]; rfl, D1.out⟩
    · have e1 : (k == 1) = false := by simp [k1]
      by_cases k3 : k = 3
      · subst k3
        have HV : Hid (mostV 3 s d r = 2 + d * (1 + s)) := by unfold Hid mostV; rw [if_pos h0, if_neg k1, if_pos rfl]
        have hds : 0 ≤ d * (1 + s) ∧ d * (1 + s) ≤ 8 * 33 := by
          have h1 : 0 ≤ d := by omega
          have h2 : d ≤ 8 := by omega
          have h3 : 0 ≤ 1 + s := by omega
          have h4 : 1 + s ≤ 33 := by omega
          exact ⟨Int.mul_nonneg h1 h3, Int.mul_le_mul h2 h4 h3 (by omega)⟩
        have w1' : IntKind.i64.wrap (1 + s) = 1 + s := by rw [IntKind.wrap_i64]; omega
        have w2' : IntKind.i64.wrap (d * (1 + s)) = d * (1 + s) := by rw [IntKind.wrap_i64]; omega
        have w3' : IntKind.i64.wrap (2 + d * (1 + s)) = 2 + d * (1 + s) := by rw [IntKind.wrap_i64]; omega
        rw [h0]
        clear hp hds k1 h0 e1
        go_wp2
        first
          | (go_ret2; exact ⟨by rw [HV.out, HA.out]; rfl, D1.out⟩)
          | (go_quiet (fail); go_wp2; go_ret2; exact ⟨by rw [HV.out, HA.out]; rfl, drewN_below D1.out nq⟩)
      · have e3 : (k == 3) = false := by simp [k3]
        have HV : Hid (mostV k s d r = 2) := by unfold Hid mostV; rw [if_pos h0, if_neg k1, if_neg k3]
        rw [h0]
        clear hp k1 k3 h0
        go_wp2
        go_ret2
        exact ⟨by rw [HV.out, HA.out]; rfl, D1.out⟩
  · have HA : Hid (mostErr k s d r = 8) := by unfold Hid mostErr; rw [if_neg h0]
    have HB : Hid (mostV k s d r = 0) := by unfold Hid mostV; rw [if_neg h0]
    have hne : ((planErr k s d r : Int) != 0) = true := by simp; omega
    generalize hP : planErr k s d r = P at *
    clear h0
    go_wp2
    go_ret2
    exact ⟨by rw [HB.out, HA.out]; rfl, D1.out⟩
end Go.Proofs.YtpfmccgiijbcjaaDoorR
