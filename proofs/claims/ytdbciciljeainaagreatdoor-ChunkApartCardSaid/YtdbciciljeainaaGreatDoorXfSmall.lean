/-
  The program's small tests of notes.
-/
import Derived.Test.YtdbciciljeainaaGreatDoorXfMath
import Derived.Test.YtdbciciljeainaaGreatDoorRcs
import Derived.Deep.QuietTactic
import Derived.Deep.Cut
import Derived.Deep.Upon
namespace Go.Proofs.YtdbciciljeainaaGreatDoor
open Go.RowKit
set_option linter.unusedVariables false
set_option linter.unusedSimpArgs false

theorem ret_b {a b : Bool} (h : a = b) : Ending.returned (.bool a) = .returned (.bool b) := by rw [h]
theorem xnew (w : World) (o : Obj) : Below w.heap.size w (w.alloc o) := (Below.refl _ _).alloc (Nat.le_refl _) _
set_option maxRecDepth 100000 in
theorem isNumber_any (x : Int) (w : World) : Calls Tryz.prog 57 #[.int .i64 x] w fun e w' => e = .returned (.bool (okNum x)) ∧ w' = w := by
  go_enter Tryz.func57, Tryz.ntmps57
  go_wp2
  all_goals go_ret
  all_goals refine ⟨ret_b ?_, rfl⟩
  all_goals (unfold okNum; simp_all <;> (intros; omega))
set_option maxRecDepth 100000 in
theorem isTotal_any (x : Int) (w : World) : Calls Tryz.prog 32 #[.int .i64 x] w fun e w' => e = .returned (.bool (okTot x)) ∧ w' = w := by
  go_enter Tryz.func32, Tryz.ntmps32
  go_wp2
  all_goals go_ret
  all_goals refine ⟨ret_b ?_, rfl⟩
  all_goals (unfold okTot; simp_all <;> (intros; omega))
set_option maxRecDepth 100000 in
theorem isStage_any (x : Int) (w : World) : Calls Tryz.prog 31 #[.int .i64 x] w fun e w' => e = .returned (.bool (okSt x)) ∧ w' = w := by
  go_enter Tryz.func31, Tryz.ntmps31
  go_wp2
  all_goals go_ret
  all_goals refine ⟨ret_b ?_, rfl⟩
  all_goals (unfold okSt; simp_all)
set_option maxRecDepth 100000 in
theorem isName_any (p b r m : Int) (w : World) : Calls Tryz.prog 30 #[.int .i64 p, .agg #[.int .i64 b, .int .i64 r, .int .i64 m]] w fun e w' => e = .returned (.bool (okNm p b r m)) ∧ Below w.heap.size w w' := by
  have D0 := hide (xnew w (.cells #[.int .i64 b, .int .i64 r, .int .i64 m] 23))
  have f0 : (w.alloc (.cells #[.int .i64 b, .int .i64 r, .int .i64 m] 23)).cell? ⟨w.heap.size, 0, none⟩ = some (.int .i64 b) := by rw [World.cell?_alloc_at _ _ _ _ rfl]; rfl
  have f1 : (w.alloc (.cells #[.int .i64 b, .int .i64 r, .int .i64 m] 23)).cell? ⟨w.heap.size, 1, none⟩ = some (.int .i64 r) := by rw [World.cell?_alloc_at _ _ _ _ rfl]; rfl
  have f2 : (w.alloc (.cells #[.int .i64 b, .int .i64 r, .int .i64 m] 23)).cell? ⟨w.heap.size, 2, none⟩ = some (.int .i64 m) := by rw [World.cell?_alloc_at _ _ _ _ rfl]; rfl
  have HN := hide isNumber_any
  obtain ⟨R, hR⟩ : ∃ R, okNm p b r m = R := ⟨_, rfl⟩
  rw [hR]
  have HR := hide hR
  clear hR
  go_enter Tryz.func30, Tryz.ntmps30
  go_upto_region 1 with fail
  generalize w.alloc (.cells #[.int .i64 b, .int .i64 r, .int .i64 m] 23) = W0 at *
  by_cases h0 : 0 ≤ p
  · by_cases h8 : p < 8
    · cases hb : okNum b with
      | false =>
        go_wp2_with (refine Calls.mono (HN.out _ _) ?_; rintro e w' ⟨rfl, rfl⟩; rw [hb])
        go_ret
        exact ⟨ret_b (by rw [← HR.out]; simp [okNm, hb]), D0.out⟩
      | true =>
        cases hr : okNum r with
        | false =>
          go_wp2_with (refine Calls.mono (HN.out _ _) ?_; rintro e w' ⟨rfl, rfl⟩; first | rw [hb] | rw [hr])
          go_ret
          exact ⟨ret_b (by rw [← HR.out]; simp [okNm, hb, hr]), D0.out⟩
        | true =>
          go_wp2_with (refine Calls.mono (HN.out _ _) ?_; rintro e w' ⟨rfl, rfl⟩; first | rw [hb] | rw [hr] | skip)
          go_ret
          exact ⟨ret_b (by rw [← HR.out]; simp [okNm, hb, hr, h0, h8]), D0.out⟩
    · go_wp2
      go_ret
      exact ⟨ret_b (by rw [← HR.out]; unfold okNm; rw [decide_eq_false (show ¬ p < 8 by omega)]; simp), D0.out⟩
  · go_wp2
    go_ret
    exact ⟨ret_b (by rw [← HR.out]; unfold okNm; rw [decide_eq_false (show ¬ 0 ≤ p by omega)]; simp), D0.out⟩
set_option maxRecDepth 100000 in
theorem isPiece_any (d : ByteArray) (i t : Int) (w : World) (hd : d.size ≤ 9223372036854775807) (h1 : -9223372036854775807 ≤ t) (h2 : t ≤ 9223372036854775807) : Calls Tryz.prog 33 #[.string d, .int .i64 i, .int .i64 t] w fun e w' => e = .returned (.bool (pieceOk d i t)) ∧ w' = w := by
  obtain ⟨u, hu⟩ : ∃ u, u = t - 1 := ⟨_, rfl⟩
  have hw : wrap64 (t - 1) = u := by rw [← IntWalk.i64_left, IntKind.wrap_i64]; omega
  have hw' : IntKind.i64.wrap (t - 1) = u := by rw [IntKind.wrap_i64]; omega
  obtain ⟨n, hn⟩ : ∃ n, d.size = n := ⟨_, rfl⟩
  by_cases he : i = u
  · subst he
    have HP : Hid (pieceOk d i t = (decide (1 ≤ n) && decide (n ≤ 128))) := by unfold Hid pieceOk; rw [if_pos hu, hn]
    clear hu h1 h2
    by_cases c1 : 1 ≤ n
    · by_cases c2 : n ≤ 128
      · have d1 : (1 : Int) ≤ (n : Int) := by omega
        have d2 : (n : Int) ≤ 128 := by omega
        rw [HP.out]
        go_enter Tryz.func33, Tryz.ntmps33
        go_wp2
        go_ret
        exact ⟨ret_b (by simp [c1, c2]), rfl⟩
      · have d1 : (1 : Int) ≤ (n : Int) := by omega
        have d2 : ¬ (n : Int) ≤ 128 := by omega
        rw [HP.out]
        go_enter Tryz.func33, Tryz.ntmps33
        go_wp2
        go_ret
        exact ⟨ret_b (by simp [c2]), rfl⟩
    · have d1 : ¬ (1 : Int) ≤ (n : Int) := by omega
      rw [HP.out]
      go_enter Tryz.func33, Tryz.ntmps33
      go_wp2
      go_ret
      exact ⟨ret_b (by simp [c1]), rfl⟩
  · have HP : Hid (pieceOk d i t = (n == 128)) := by unfold Hid pieceOk; rw [if_neg (by rw [← hu]; exact he), hn]
    have h9 : (i == u) = false := by simpa using he
    clear hu h1 h2 he
    rw [HP.out]
    by_cases c1 : n = 128
    · have d1 : ((n : Int) == 128) = true := by simp; omega
      go_enter Tryz.func33, Tryz.ntmps33
      go_wp2
      go_ret
      exact ⟨ret_b (by simp [c1]), rfl⟩
    · have d1 : ((n : Int) == 128) = false := by simp; omega
      go_enter Tryz.func33, Tryz.ntmps33
      go_wp2
      go_ret
      exact ⟨ret_b (by simp [c1]), rfl⟩
end Go.Proofs.YtdbciciljeainaaGreatDoor
