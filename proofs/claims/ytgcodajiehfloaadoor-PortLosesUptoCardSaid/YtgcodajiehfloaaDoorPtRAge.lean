/-
  A frame goes by: the document's Age.
-/
import Derived.Test.YtgcodajiehfloaaDoorPtAdd
import Derived.Deep.DeepCutAuto
namespace Go.Proofs.YtgcodajiehfloaaDoor
open Go.RowKit
set_option linter.unusedVariables false
set_option linter.unusedSimpArgs false

theorem slk_mt (w : World) (base : Nat) (ad : Addr) : SLk w base (.slice (some ad) 0 0) [] := .inr ⟨rfl, rfl, ad, rfl⟩
theorem new_below' (w : World) (o : Obj) : Below w.heap.size w (w.alloc o) := (Below.refl _ _).alloc (Nat.le_refl _) _
theorem newd_below (w : World) (o : Obj) : Below w.heap.size w (w.alloc o).drew := (new_below' w o).drew
theorem newd2_below (w : World) (o o' : Obj) : Below w.heap.size w ((w.alloc o).alloc o').drew := (chain (new_below' w o) (new_below' _ o')).drew
theorem newd2_size (w : World) (o o' : Obj) : ((w.alloc o).alloc o').drew.heap.size = w.heap.size + 2 := by
  show ((w.alloc o).alloc o').heap.size = _
  simp

set_option maxRecDepth 100000 in
set_option maxHeartbeats 4000000 in
theorem refAge_any {w : World} (k s d r age : Int) (a : Option Addr) (len cap : Nat) (l : List ByteArray) (hs : Sts w a len cap l) :
    Calls Tryd.prog 24 #[.agg #[.int .i64 k, .int .i64 s, .int .i64 d, .int .i64 r], .agg #[.slice a len cap, .int .i64 age]] w fun e w' => ∃ x, e = .returned (.tuple #[.agg #[x, .int .i64 (ageA k s d r l age)], .int .i64 (chkErr k s d r l age : Int)]) ∧ SLk w' w.heap.size x (ageL k s d r l age) ∧ Below w.heap.size w w' := by
  have HS := hide hs
  have hl := hs.size
  have PQ := hide (pqr_pq w k s d r (.slice a len cap) age (.slice none 0 0) (.int .i64 0))
  have B0 := hide (pqr_below w k s d r (.slice a len cap) age (.slice none 0 0) (.int .i64 0))
  have T0 := hide (pqr_two w k s d r (.slice a len cap) age (.slice none 0 0) (.int .i64 0))
  have hz := pqr_size w k s d r (.slice a len cap) age (.slice none 0 0) (.int .i64 0)
  clear hs
  go_enter Tryd.func24, Tryd.ntmps24
  go_wp2_with fail
  generalize ((w.alloc (.cells #[.int .i64 k, .int .i64 s, .int .i64 d, .int .i64 r] 23)).alloc (.cells #[.slice a len cap, .int .i64 age] 26)).alloc (.cells #[.slice none 0 0, .int .i64 0] 26) = W0 at *
  refine Calls.mono (refCheck_any k s d r age a len cap l (HS.out.below B0.out)) ?_
  rintro e w1 ⟨rfl, b1⟩
  have D1 := hide (chain B0.out b1)
  have P1 := hide (PQ.out.below b1)
  have T1 := hide (T0.out.below b1)
  have hz1 : W0.heap.size ≤ w1.heap.size := b1.size
  clear b1 PQ B0 T0
  by_cases h0 : chkErr k s d r l age = 0
  · have HA : Hid (ageA k s d r l age = agedV k len age) := by unfold Hid ageA; rw [if_pos h0, hl]
    have HL : Hid (ageL k s d r l age = l) := by unfold Hid ageL; rw [if_pos h0]
    have hage := chk0_age h0
    rw [h0]
    have q0 := P1.out.q0
    have q1 := P1.out.q1
    have HR := hide (HS.out.row.below D1.out)
    have hm := HS.out.most
    have ta := (two_alloc w1 (.slice none 0 0) (.int .i64 0) 26).below (new_below' _ (.cells #[] 9))
    have tb := two_alloc (w1.alloc (.cells #[] 9)) (.slice none 0 0) (.int .i64 0) 26
    rw [show (w1.alloc (.cells #[] 9)).heap.size = w1.heap.size + 1 by simp] at tb
    have TA : Hid (Two ((w1.alloc (.cells #[.slice none 0 0, .int .i64 0] 26)).alloc (.cells #[] 9)).drew w1.heap.size (.slice none 0 0) (.int .i64 0)) := ta.below ((Below.refl _ _).drew)
    have TB : Hid (Two ((w1.alloc (.cells #[] 9)).alloc (.cells #[.slice none 0 0, .int .i64 0] 26)).drew (w1.heap.size + 1) (.slice none 0 0) (.int .i64 0)) := tb.below ((Below.refl _ _).drew)
    clear ta tb
    go_wp2_with fail
    go_cut [7] (fun v7 wx => ∃ (g : Nat) (a5 : Option Addr) (c5 : Nat), v7 = .pointer (some ⟨g, 0, none⟩) ∧ w1.heap.size ≤ g ∧ Two wx g (.slice a5 len c5) (.int .i64 age) ∧ SLk wx w1.heap.size (.slice a5 len c5) l ∧ (∀ u, SLk (wx.setCell ⟨g, 1, none⟩ u) w1.heap.size (.slice a5 len c5) l) ∧ Below w1.heap.size w1 wx)
    case first =>
      go_region_held3 (fun wz => wz.cell? ⟨w.heap.size + 1, 0, none⟩ = some (.slice a len cap) ∧ wz.cell? ⟨w.heap.size + 1, 1, none⟩ = some (.int .i64 age)) (first | exact ⟨q0, q1⟩ | exact ⟨cell_below q0 (newd_below _ _), cell_below q1 (newd_below _ _)⟩ | exact ⟨cell_below q0 (newd2_below _ _ _), cell_below q1 (newd2_below _ _ _)⟩ | exact ⟨cell_below q0 B5.out, cell_below q1 B5.out⟩ | exact ⟨cell_below q0 (chain B5.out (new_below' _ _)), cell_below q1 (chain B5.out (new_below' _ _))⟩ | exact ⟨cell_below q0 ((B5.out.setCell (p := ⟨w1.heap.size, 0, none⟩) (Nat.le_refl _) _).setCell (p := ⟨w1.heap.size, 1, none⟩) (Nat.le_refl _) _), cell_below q1 ((B5.out.setCell (p := ⟨w1.heap.size, 0, none⟩) (Nat.le_refl _) _).setCell (p := ⟨w1.heap.size, 1, none⟩) (Nat.le_refl _) _)⟩ | exact ⟨cell_below q0 ((B5.out.setCell (p := ⟨w1.heap.size + 1, 0, none⟩) (Nat.le_succ _) _).setCell (p := ⟨w1.heap.size + 1, 1, none⟩) (Nat.le_succ _) _), cell_below q1 ((B5.out.setCell (p := ⟨w1.heap.size + 1, 0, none⟩) (Nat.le_succ _) _).setCell (p := ⟨w1.heap.size + 1, 1, none⟩) (Nat.le_succ _) _)⟩)
        (first
          | (refine step_sts (by rfl) (.tmp 15) (.tmp 17) (by rfl) (w1.heap.size + 2) (.slice (some ⟨w1.heap.size + 1, 0, none⟩) 0 0) [] (by simp [Act.eval, Act.put]) (slk_mt _ _ _) a len cap l (by simp [Act.eval, Act.put]) hl (HR.out.below (newd2_below w1 (.cells #[.slice none 0 0, .int .i64 0] 26) (.cells #[] 9))) (by simp; omega) (Nat.le_of_eq (newd2_size _ _ _).symm) ?_; intro v5 w5 h5 b5; have B5 : Hid (Below w1.heap.size w1 w5) := (newd2_below w1 (.cells #[.slice none 0 0, .int .i64 0] 26) (.cells #[] 9)).trans (b5.mono (by omega)); rw [List.nil_append] at h5; obtain ⟨a5, c5, rfl, _⟩ := h5.row; rw [hl] at h5 ⊢; have O5 := hide h5; have T5 := hide (TA.out.low b5 (by omega)); have ga := T5.out.c0; have gb := T5.out.c1; have gc := T5.out.f0; have gd := T5.out.f1; clear h5 b5)
          | (refine step_sts (by rfl) (.tmp 15) (.tmp 17) (by rfl) (w1.heap.size + 2) (.slice (some ⟨w1.heap.size, 0, none⟩) 0 0) [] (by simp [Act.eval, Act.put]) (slk_mt _ _ _) a len cap l (by simp [Act.eval, Act.put]) hl (HR.out.below (newd2_below w1 (.cells #[] 9) (.cells #[.slice none 0 0, .int .i64 0] 26))) (by simp; omega) (Nat.le_of_eq (newd2_size _ _ _).symm) ?_; intro v5 w5 h5 b5; have B5 : Hid (Below w1.heap.size w1 w5) := (newd2_below w1 (.cells #[] 9) (.cells #[.slice none 0 0, .int .i64 0] 26)).trans (b5.mono (by omega)); rw [List.nil_append] at h5; obtain ⟨a5, c5, rfl, _⟩ := h5.row; rw [hl] at h5 ⊢; have O5 := hide h5; have T5 := hide (TB.out.low b5 (by omega)); have ga := T5.out.c0; have gb := T5.out.c1; have gc := T5.out.f0; have gd := T5.out.f1; clear h5 b5)
          | (refine step_sts (by rfl) (.tmp 15) (.tmp 17) (by rfl) w1.heap.size (.slice (some ⟨w1.heap.size, 0, none⟩) 0 0) [] (by simp [Act.eval, Act.put]) (slk_mt _ _ _) a len cap l (by simp [Act.eval, Act.put]) hl (HR.out.below (newd_below w1 (.cells #[] 9))) (by simp; omega) (newd_below w1 (.cells #[] 9)).size ?_; intro v5 w5 h5 b5; have B5 : Hid (Below w1.heap.size w1 w5) := (newd_below w1 (.cells #[] 9)).trans b5; rw [List.nil_append] at h5; obtain ⟨a5, c5, rfl, _⟩ := h5.row; rw [hl] at h5 ⊢; have O5 := hide h5; clear h5 b5))
      all_goals go_wp2
      all_goals go_meet
      all_goals first
        | exact ⟨_, _, _, rfl, Nat.le_refl _, (fin_port (u := .int .i64 age) T5.out O5.out B5.out (by omega) (Nat.le_refl _)).1, (fin_port (u := .int .i64 age) T5.out O5.out B5.out (by omega) (Nat.le_refl _)).2.1.weaken (by omega), fun u => ((fin_port (u := .int .i64 age) T5.out O5.out B5.out (by omega) (Nat.le_refl _)).2.1.setCell (by show w1.heap.size < _; omega) u).weaken (by omega), (fin_port (u := .int .i64 age) T5.out O5.out B5.out (by omega) (Nat.le_refl _)).2.2⟩
        | exact ⟨_, _, _, rfl, Nat.le_succ _, (fin_port (u := .int .i64 age) T5.out O5.out B5.out (by omega) (Nat.le_succ _)).1, (fin_port (u := .int .i64 age) T5.out O5.out B5.out (by omega) (Nat.le_succ _)).2.1.weaken (by omega), fun u => ((fin_port (u := .int .i64 age) T5.out O5.out B5.out (by omega) (Nat.le_succ _)).2.1.setCell (by show w1.heap.size + 1 < _; omega) u).weaken (by omega), (fin_port (u := .int .i64 age) T5.out O5.out B5.out (by omega) (Nat.le_succ _)).2.2⟩
        | exact ⟨_, _, _, rfl, B5.out.size, two_alloc w5 _ _ _, O5.out.below (new_below' _ _), fun u => O5.out.below ((new_below' w5 _).setCell (Nat.le_refl _) u), chain B5.out (new_below' _ _)⟩
    case rest =>
      obtain ⟨g, a5, c5, rfl, hg, t5, o5, o5', b5⟩ := hcut
      have P5 := hide (P1.out.below b5)
      have T5 := hide (T1.out.below b5)
      have TG := hide t5
      have O5 := hide o5
      have O5' := hide o5'
      have B5 := hide b5
      have D5 := hide (chain D1.out b5)
      have hz5 : w1.heap.size ≤ wc.heap.size := b5.size
      clear t5 o5 o5' b5 q0 q1 TA TB HR D1 P1 T1
      have k0 := P5.out.c0
      have m0 := P5.out.q0
      have m1 := P5.out.q1
      by_cases hc : k = 1 ∧ ¬ len = 0
      · obtain ⟨rfl, hc2⟩ := hc
        have hposn : 0 < len := by omega
        have hw : IntKind.i64.wrap (age + 1) = age + 1 := by rw [IntKind.wrap_i64]; omega
        have r0 := TG.out.c0
        have r1 := TG.out.c1
        have s0 := TG.out.f0
        have s1 := TG.out.f1
        by_cases hb : (255 : Int) < age + 1
        · have hA : agedV 1 len age = 255 := by unfold agedV mage; simp only [hc2, not_false_eq_true, and_self, if_true]; rw [if_pos hb]
          have TQ := hide (TG.out.one (.int .i64 (255)))
          have TR := hide (T5.out.far (b' := g) (o := 1) (u := .int .i64 (255)) (by omega))
          have DR := hide (D5.out.setCell (p := ⟨g, 1, none⟩) (by show w.heap.size ≤ g; omega) (.int .i64 (255)))
          have OR := hide (O5'.out (.int .i64 (255)))
          have x0 := TQ.out.c0
          have x1 := TQ.out.c1
          have y0 := TR.out.c0
          have y1 := TR.out.c1
          have z0 := TR.out.f0
          have z1 := TR.out.f1
          go_wp2
          have FP := hide (fin_port (u := .int .i64 (255)) TR.out OR.out DR.out (by omega) (by omega))
          generalize ((wc.setCell ⟨g, 1, none⟩ (.int .i64 (255))).setCell ⟨w.heap.size + 1 + 1, 0, none⟩ (.slice a5 len c5)).setCell ⟨w.heap.size + 1 + 1, 1, none⟩ (.int .i64 (255)) = W9 at *
          have e0 := FP.out.1.c0
          have e1 := FP.out.1.c1
          (try simp only [Exit.inBlock, Exit.then])
          refine bodyPost_ret (v := .tuple #[.agg #[.slice a5 len c5, .int .i64 (255)], .int .i64 0]) (by simp [results, Tryd.results24, go_sem, e0, e1]) rfl ?_
          exact ⟨_, by rw [HA.out, hA]; (try rw [h0]); (try rfl), by rw [HL.out]; exact FP.out.2.1.weaken (by omega), FP.out.2.2⟩
        · have hA : agedV 1 len age = age + 1 := by unfold agedV mage; simp only [hc2, not_false_eq_true, and_self, if_true]; rw [if_neg hb]
          have TQ := hide (TG.out.one (.int .i64 (age + 1)))
          have TR := hide (T5.out.far (b' := g) (o := 1) (u := .int .i64 (age + 1)) (by omega))
          have DR := hide (D5.out.setCell (p := ⟨g, 1, none⟩) (by show w.heap.size ≤ g; omega) (.int .i64 (age + 1)))
          have OR := hide (O5'.out (.int .i64 (age + 1)))
          have x0 := TQ.out.c0
          have x1 := TQ.out.c1
          have y0 := TR.out.c0
          have y1 := TR.out.c1
          have z0 := TR.out.f0
          have z1 := TR.out.f1
          go_wp2
          have FP := hide (fin_port (u := .int .i64 (age + 1)) TR.out OR.out DR.out (by omega) (by omega))
          generalize ((wc.setCell ⟨g, 1, none⟩ (.int .i64 (age + 1))).setCell ⟨w.heap.size + 1 + 1, 0, none⟩ (.slice a5 len c5)).setCell ⟨w.heap.size + 1 + 1, 1, none⟩ (.int .i64 (age + 1)) = W9 at *
          have e0 := FP.out.1.c0
          have e1 := FP.out.1.c1
          (try simp only [Exit.inBlock, Exit.then])
          refine bodyPost_ret (v := .tuple #[.agg #[.slice a5 len c5, .int .i64 (age + 1)], .int .i64 0]) (by simp [results, Tryd.results24, go_sem, e0, e1]) rfl ?_
          exact ⟨_, by rw [HA.out, hA]; (try rw [h0]); (try rfl), by rw [HL.out]; exact FP.out.2.1.weaken (by omega), FP.out.2.2⟩
      · have HB : Hid (agedV k len age = age) := by
          have h2 := (chk0 h0).2
          unfold fitB at h2
          simp only [Bool.and_eq_true, decide_eq_true_eq] at h2
          rw [hl] at h2
          have h3 := ma_is k len
          have h4 : mage k len = 0 := by omega
          unfold Hid agedV
          rw [h4, if_pos (by omega)]
          omega
        have r0 := TG.out.c0
        have r1 := TG.out.c1
        have y0 := T5.out.c0
        have y1 := T5.out.c1
        have z0 := T5.out.f0
        have z1 := T5.out.f1
        by_cases hk1 : k = 1
        · have hn : len = 0 := by omega
          subst hk1 hn
          go_wp2
          have FP := hide (fin_port (u := .int .i64 age) T5.out O5.out D5.out (by omega) (by omega))
          generalize (wc.setCell ⟨w.heap.size + 1 + 1, 0, none⟩ (.slice a5 0 c5)).setCell ⟨w.heap.size + 1 + 1, 1, none⟩ (.int .i64 age) = W9 at *
          have e0 := FP.out.1.c0
          have e1 := FP.out.1.c1
          (try simp only [Exit.inBlock, Exit.then])
          refine bodyPost_ret (v := .tuple #[.agg #[.slice a5 0 c5, .int .i64 age], .int .i64 0]) (by simp [results, Tryd.results24, go_sem, e0, e1]) rfl ?_
          exact ⟨_, by rw [HA.out, HB.out]; (try rw [h0]); (try rfl), by rw [HL.out]; exact FP.out.2.1.weaken (by omega), FP.out.2.2⟩
        · have ek : (k == 1) = false := by simp [hk1]
          clear hc hk1
          go_wp2
          have FP := hide (fin_port (u := .int .i64 age) T5.out O5.out D5.out (by omega) (by omega))
          generalize (wc.setCell ⟨w.heap.size + 1 + 1, 0, none⟩ (.slice a5 len c5)).setCell ⟨w.heap.size + 1 + 1, 1, none⟩ (.int .i64 age) = W9 at *
          have e0 := FP.out.1.c0
          have e1 := FP.out.1.c1
          (try simp only [Exit.inBlock, Exit.then])
          refine bodyPost_ret (v := .tuple #[.agg #[.slice a5 len c5, .int .i64 age], .int .i64 0]) (by simp [results, Tryd.results24, go_sem, e0, e1]) rfl ?_
          exact ⟨_, by rw [HA.out, HB.out]; (try rw [h0]); (try rfl), by rw [HL.out]; exact FP.out.2.1.weaken (by omega), FP.out.2.2⟩
  · have HA : Hid (ageA k s d r l age = 0) := by unfold Hid ageA; rw [if_neg h0]
    have HL : Hid (ageL k s d r l age = []) := by unfold Hid ageL; rw [if_neg h0]
    have g0 := T1.out.c0
    have g1 := T1.out.c1
    have f0 := T1.out.f0
    have f1 := T1.out.f1
    have hne : ((chkErr k s d r l age : Int) != 0) = true := by simp; omega
    generalize hP : chkErr k s d r l age = P at *
    clear h0
    go_wp2
    have FP := hide (fin_port (u := .int .i64 0) T1.out (slk_nil w1 W0.heap.size) D1.out (by omega) (by omega))
    generalize (w1.setCell ⟨w.heap.size + 1 + 1, 0, none⟩ (.slice none 0 0)).setCell ⟨w.heap.size + 1 + 1, 1, none⟩ (.int .i64 0) = W9 at *
    have e0 := FP.out.1.c0
    have e1 := FP.out.1.c1
    (try simp only [Exit.inBlock, Exit.then])
    refine bodyPost_ret (v := .tuple #[.agg #[.slice none 0 0, .int .i64 0], .int .i64 (P : Int)]) (by simp [results, Tryd.results24, go_sem, e0, e1]) rfl ?_
    exact ⟨_, by rw [HA.out, hP], by rw [HL.out]; exact FP.out.2.1.weaken (by omega), FP.out.2.2⟩
end Go.Proofs.YtgcodajiehfloaaDoor
