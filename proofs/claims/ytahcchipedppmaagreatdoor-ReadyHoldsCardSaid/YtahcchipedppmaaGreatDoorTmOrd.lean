/-
  timer's order of timers, with package cmp's two functions; IsSortedFunc.
-/
import Derived.Test.YtahcchipedppmaaGreatDoorTmBase
namespace Go.Proofs.YtahcchipedppmaaGreatDoor
open Go.RowKit
set_option linter.unusedVariables false
set_option linter.unusedSimpArgs false

def cmpI (x y : Int) : Int := if x < y then -1 else if y < x then 1 else 0
/-- What order answers. -/
def cmpT (a b : Tm) : Int := if cmpI a.due b.due ≠ 0 then cmpI a.due b.due else cmpI a.proc b.proc
theorem cmpT_lt (a b : Tm) : decide (cmpT a b < 0) = a.lt b := by
  unfold cmpT cmpI Tm.lt
  rw [decide_eq_decide]
  repeat' split
  all_goals omega

theorem isNaN_any (x : Int) (w : World) : Calls Tryz.prog 89 #[.int .i64 x] w fun e w' => e = .returned (.bool false) ∧ w' = w := by
  go_enter Tryz.func89, Tryz.ntmps89
  go_wp2
  go_ret
  exact ⟨rfl, rfl⟩

theorem compare_any (x y : Int) (w : World) : Calls Tryz.prog 75 #[.int .i64 x, .int .i64 y] w fun e w' => e = .returned (.int .i64 (cmpI x y)) ∧ w' = w := by
  have HN := hide isNaN_any
  have HC : Hid (cmpI x y = if x < y then -1 else if y < x then 1 else 0) := rfl
  by_cases h1 : x < y
  · have d1 : decide (x < y) = true := decide_eq_true h1
    rw [if_pos h1] at HC
    clear h1
    go_enter Tryz.func75, Tryz.ntmps75
    go_wp2_with (refine Calls.mono (HN.out _ _) ?_; rintro e w' ⟨rfl, rfl⟩)
    go_ret
    exact ⟨by rw [HC.out]; rfl, rfl⟩
  · have d1 : decide (x < y) = false := decide_eq_false h1
    rw [if_neg h1] at HC
    by_cases h2 : y < x
    · have d2 : decide (y < x) = true := decide_eq_true h2
      rw [if_pos h2] at HC
      clear h1 h2
      go_enter Tryz.func75, Tryz.ntmps75
      go_wp2_with (refine Calls.mono (HN.out _ _) ?_; rintro e w' ⟨rfl, rfl⟩)
      go_ret
      exact ⟨by rw [HC.out]; rfl, rfl⟩
    · have d2 : decide (y < x) = false := decide_eq_false h2
      rw [if_neg h2] at HC
      clear h1 h2
      go_enter Tryz.func75, Tryz.ntmps75
      go_wp2_with (refine Calls.mono (HN.out _ _) ?_; rintro e w' ⟨rfl, rfl⟩)
      go_ret
      exact ⟨by rw [HC.out]; rfl, rfl⟩

set_option maxRecDepth 100000 in
theorem or_any (g c : Nat) (x y : Int) (w : World) (h0 : w.cell? ⟨g, 0, none⟩ = some (.int .i64 x)) (h1 : w.cell? ⟨g, 1, none⟩ = some (.int .i64 y)) :
    Calls Tryz.prog 74 #[.slice (some ⟨g, 0, none⟩) 2 c] w fun e w' => e = .returned (.int .i64 (if x ≠ 0 then x else y)) ∧ w' = w := by
  by_cases hx : x = 0
  · subst hx
    rw [show (if (0 : Int) ≠ 0 then 0 else y) = y from rfl]
    by_cases hy : y = 0
    · subst hy
      go_enter Tryz.func74, Tryz.ntmps74
      go_wp2
      refine wp_loop_rounds 3 ?_
      rw [rounds_succ]
      go_wp2
      rw [rounds_succ]
      go_wp2
      rw [rounds_succ]
      go_wp2
      go_ret
      exact ⟨rfl, rfl⟩
    · have d2 : (y != 0) = true := by simp [hy]
      clear hy
      go_enter Tryz.func74, Tryz.ntmps74
      go_wp2
      refine wp_loop_rounds 2 ?_
      rw [rounds_succ]
      go_wp2
      rw [rounds_succ]
      go_wp2
      go_ret
      exact ⟨rfl, rfl⟩
  · rw [show (if x ≠ 0 then x else y) = x from if_pos hx]
    have d2 : (x != 0) = true := by simp [hx]
    clear hx
    go_enter Tryz.func74, Tryz.ntmps74
    go_wp2
    refine wp_loop_rounds 1 ?_
    rw [rounds_succ]
    go_wp2
    go_ret
    exact ⟨rfl, rfl⟩

theorem or_is (g c : Nat) (x y r : Int) (hr : r = if x ≠ 0 then x else y) (w : World) (h0 : w.cell? ⟨g, 0, none⟩ = some (.int .i64 x)) (h1 : w.cell? ⟨g, 1, none⟩ = some (.int .i64 y)) :
    Calls Tryz.prog 74 #[.slice (some ⟨g, 0, none⟩) 2 c] w fun e w' => e = .returned (.int .i64 r) ∧ w' = w := by
  rw [hr]
  exact or_any g c x y w h0 h1

set_option maxRecDepth 100000 in
set_option maxHeartbeats 4000000 in
theorem order_any (a b : Tm) (w : World) : Calls Tryz.prog 62 #[.agg #[.int .i64 a.proc, .int .i64 a.due], .agg #[.int .i64 b.proc, .int .i64 b.due]] w fun e w' => e = .returned (.int .i64 (cmpT a b)) ∧
    w' = (((w.alloc (.cells #[.int .i64 a.proc, .int .i64 a.due] 51)).alloc (.cells #[.int .i64 b.proc, .int .i64 b.due] 51)).alloc (.cells #[.int .i64 (cmpI a.due b.due), .int .i64 (cmpI a.proc b.proc)] 3)).drew := by
  have HC := hide compare_any
  have HO := hide or_is
  have HT : Hid (cmpT a b = if cmpI a.due b.due ≠ 0 then cmpI a.due b.due else cmpI a.proc b.proc) := rfl
  generalize cmpT a b = r at *
  have T1 := two_alloc w (.int .i64 a.proc) (.int .i64 a.due) 51
  have T2 := two_alloc (w.alloc (.cells #[.int .i64 a.proc, .int .i64 a.due] 51)) (.int .i64 b.proc) (.int .i64 b.due) 51
  have T1 := hide (T1.below (new_below (w.alloc (.cells #[.int .i64 a.proc, .int .i64 a.due] 51)) (.cells #[.int .i64 b.proc, .int .i64 b.due] 51)))
  have T2 := hide T2
  have e2 : (w.alloc (.cells #[.int .i64 a.proc, .int .i64 a.due] 51)).heap.size = w.heap.size + 1 := by simp
  rw [e2] at T2
  clear e2
  have TO := two_alloc ((w.alloc (.cells #[.int .i64 a.proc, .int .i64 a.due] 51)).alloc (.cells #[.int .i64 b.proc, .int .i64 b.due] 51)) (.int .i64 (cmpI a.due b.due)) (.int .i64 (cmpI a.proc b.proc)) 3
  have e3 : ((w.alloc (.cells #[.int .i64 a.proc, .int .i64 a.due] 51)).alloc (.cells #[.int .i64 b.proc, .int .i64 b.due] 51)).heap.size = w.heap.size + 1 + 1 := by simp
  rw [e3] at TO
  have CO0 := hide (TO.below ((Below.refl _ _).drew)).c0
  have CO1 := hide (TO.below ((Below.refl _ _).drew)).c1
  clear TO e3
  have q10 := T1.out.c0
  have q11 := T1.out.c1
  have q20 := T2.out.c0
  have q21 := T2.out.c1
  go_enter Tryz.func62, Tryz.ntmps62
  go_wp2
  go_region_held3 (fun wz => wz.cell? ⟨w.heap.size, 0, none⟩ = some (.int .i64 a.proc) ∧ wz.cell? ⟨w.heap.size, 1, none⟩ = some (.int .i64 a.due) ∧ wz.cell? ⟨w.heap.size + 1, 0, none⟩ = some (.int .i64 b.proc) ∧ wz.cell? ⟨w.heap.size + 1, 1, none⟩ = some (.int .i64 b.due))
    (first | exact ⟨T1.out.c0, T1.out.c1, T2.out.c0, T2.out.c1⟩ | (have q1 := T1.out.below ((Below.refl _ _).drew); have q2 := T2.out.below ((Below.refl _ _).drew); exact ⟨cell_below q1.c0 (new_below _ _), cell_below q1.c1 (new_below _ _), cell_below q2.c0 (new_below _ _), cell_below q2.c1 (new_below _ _)⟩))
    (first | (go_at_call 75; refine (HC.out _ _ _).mono ?_; rintro e w' ⟨rfl, rfl⟩) | (go_at_call 74; refine (HO.out (w.heap.size + 1 + 1) 2 (cmpI a.due b.due) (cmpI a.proc b.proc) r HT.out _ CO0.out CO1.out).mono ?_; rintro e w' ⟨rfl, rfl⟩))
  go_wp2
  go_ret
  exact ⟨rfl, rfl⟩
end Go.Proofs.YtahcchipedppmaaGreatDoor
