/-
  A message more: the document's with, add, Put and Write.
-/
import Derived.Test.YtgcodajiehfloaaDoorPtPut
import Derived.Test.YtgcodajiehfloaaDoorPtRAge
namespace Go.Proofs.YtgcodajiehfloaaDoor
open Go.RowKit
set_option linter.unusedVariables false
set_option linter.unusedSimpArgs false

set_option maxRecDepth 100000 in
theorem refWith_any (a : Option Addr) (len cap : Nat) (l : List ByteArray) (D : ByteArray) (w : World) (hs : Sts w a len cap l) :
    Calls Tryd.prog 50 #[.slice a len cap, .string D] w fun e w' => ∃ v, e = .returned v ∧ SLk w' w.heap.size v (l ++ [D]) ∧ Below w.heap.size w w' := by
  have HS := hide hs
  have hl := hs.size
  have hm := hs.most
  clear hs
  have D0 : Hid (Below w.heap.size w (w.alloc (.cells #[] 9))) := (Below.refl _ _).alloc (Nat.le_refl _) _
  go_enter Tryd.func50, Tryd.ntmps50
  go_wp2_with (first
    | (at_builtin; refine append_sts rfl (.tmp 5) (.tmp 6) rfl w.heap.size _ [] rfl (slk_empty w _ (Nat.le_refl _)) a len cap l rfl hl (HS.out.row.below D0.out) (by simp; omega) D0.out.size ?_; intro v1 w1 h1 b1; rw [List.nil_append] at h1; have O1 := hide h1; have D1 := hide (D0.out.trans b1); have hz1 := D1.out.size; clear h1 b1)
    | (at_builtin; refine append_sts rfl (.tmp 7) (.tmp 9) rfl w.heap.size _ l rfl (O1.out.below (new_below' w1 (.cells #[.string D] 9))) (some ⟨w1.heap.size, 0, none⟩) 1 1 [D] rfl rfl (row_lit w1 D) (by rw [hl]; omega) (Nat.le_trans hz1 (new_below' w1 (.cells #[.string D] 9)).size) ?_; intro v3 w3 h3 b3; have O3 := hide h3; have D3 := hide ((chain D1.out (new_below' w1 (.cells #[.string D] 9))).trans b3); clear h3 b3))
  go_ret
  exact ⟨_, rfl, O3.out, D3.out⟩

set_option maxRecDepth 100000 in
set_option maxHeartbeats 4000000 in
theorem refAdd_any {w : World} (b : Bool) (k s d r age : Int) (a : Option Addr) (len cap : Nat) (l : List ByteArray) (D : ByteArray) (hs : Sts w a len cap l) (hD : D.size ≤ 9223372036854775807) :
    Calls Tryd.prog 44 #[.agg #[.int .i64 k, .int .i64 s, .int .i64 d, .int .i64 r], .agg #[.slice a len cap, .int .i64 age], .string D, .bool b] w fun e w' => ∃ x, e = .returned (.tuple #[.agg #[x, .int .i64 0], .int .i64 (movErr b k s d r l age D : Int)]) ∧ SLk w' w.heap.size x (movL b k s d r l age D) ∧ Below w.heap.size w w' := by
  have HS := hide hs
  have hl := hs.size
  have hm := hs.most
  have PQ := hide (pqr_pq w k s d r (.slice a len cap) age (.slice none 0 0) (.int .i64 0))
  have B0 := hide (pqr_below w k s d r (.slice a len cap) age (.slice none 0 0) (.int .i64 0))
  have T0 := hide (pqr_two w k s d r (.slice a len cap) age (.slice none 0 0) (.int .i64 0))
  have hz := pqr_size w k s d r (.slice a len cap) age (.slice none 0 0) (.int .i64 0)
  clear hs
  go_enter Tryd.func44, Tryd.ntmps44
  go_wp2_with fail
  generalize ((w.alloc (.cells #[.int .i64 k, .int .i64 s, .int .i64 d, .int .i64 r] 23)).alloc (.cells #[.slice a len cap, .int .i64 age] 26)).alloc (.cells #[.slice none 0 0, .int .i64 0] 26) = W0 at *
  refine Calls.mono (refCheck_any k s d r age a len cap l (HS.out.below B0.out)) ?_
  rintro e w1 ⟨rfl, b1⟩
  have D1 := hide (chain B0.out b1)
  have P1 := hide (PQ.out.below b1)
  have T1 := hide (T0.out.below b1)
  have hz1 : W0.heap.size ≤ w1.heap.size := b1.size
  clear b1 PQ B0 T0
  by_cases h0 : chkErr k s d r l age = 0
  · have hp := pe_is k s d r
    have hp0 := (chk0 h0).1
    have hkr : 1 ≤ k ∧ k ≤ 4 := by omega
    clear hp hp0
    have c0 := P1.out.c0
    have c1 := P1.out.c1
    have c2 := P1.out.c2
    have c3 := P1.out.c3
    rw [h0]
    go_wp2_with fail
    refine Calls.mono (refIsIn_any k s d r w1) ?_
    rintro e w2 ⟨rfl, b2⟩
    have D2 := hide (chain D1.out b2)
    have P2 := hide (P1.out.below b2)
    have T2 := hide (T1.out.below b2)
    have hz2 : w1.heap.size ≤ w2.heap.size := b2.size
    clear b2 c0 c1 c2 c3 D1 P1 T1
    have c0 := P2.out.c0
    have c1 := P2.out.c1
    have c2 := P2.out.c2
    have q0 := P2.out.q0
    have g0 := T2.out.c0
    have g1 := T2.out.c1
    have f0 := T2.out.f0
    have f1 := T2.out.f1
    by_cases hk : kin k = b
    · have hkb : (kin k == b) = true := by simp [hk]
      have hkb2 : (kin k != b) = false := by simp [hk]
      rw [hk]
      by_cases g1 : s < (D.size : Int)
      · have hd : decide (s < (D.size : Int)) = true := decide_eq_true g1
        have HA : Hid (movErr b k s d r l age D = 11) := by unfold Hid movErr addErr; rw [if_pos h0, if_pos hk, if_pos g1]
        have HL : Hid (movL b k s d r l age D = []) := by unfold Hid movL addL; rw [if_pos ⟨h0, hk⟩, if_neg (by unfold addErr; rw [if_pos g1]; decide)]
        go_wp2
        have FP := hide (fin_port (u := .int .i64 0) T2.out (slk_nil w2 W0.heap.size) D2.out (by omega) (by omega))
        generalize (w2.setCell ⟨w.heap.size + 1 + 1, 0, none⟩ (.slice none 0 0)).setCell ⟨w.heap.size + 1 + 1, 1, none⟩ (.int .i64 0) = W9 at *
        have e0 := FP.out.1.c0
        have e1 := FP.out.1.c1
        (try simp only [Exit.inBlock, Exit.then])
        refine bodyPost_ret (v := .tuple #[.agg #[.slice none 0 0, .int .i64 0], .int .i64 11]) (by simp [results, Tryd.results44, go_sem, e0, e1]; try rfl) rfl ?_
        exact ⟨_, by rw [HA.out]; rfl, by rw [HL.out]; exact FP.out.2.1.weaken (by omega), FP.out.2.2⟩
      · have hd : decide (s < (D.size : Int)) = false := decide_eq_false g1
        by_cases k2 : k ≤ 2
        · have hkq : kque k = false := by unfold kque; simp; omega
          have hdk : decide (k ≤ 2) = true := decide_eq_true k2
          have HA : Hid (movErr b k s d r l age D = 0) := by unfold Hid movErr addErr; rw [if_pos h0, if_pos hk, if_neg g1, if_pos hkq]
          have HL : Hid (movL b k s d r l age D = [D]) := by unfold Hid movL addL; rw [if_pos ⟨h0, hk⟩, if_pos (by unfold addErr; rw [if_neg g1, if_pos hkq]), if_neg (by rw [hkq]; decide)]
          have TA := hide (T2.out.below (new_below' w2 (.cells #[.string D] 9)))
          have DA := hide (chain D2.out (new_below' w2 (.cells #[.string D] 9)))
          have OA := hide (slk_lit w2 W0.heap.size D (by omega))
          clear g0 g1 f0 f1
          have g0 := TA.out.c0
          have gg1 := TA.out.c1
          have f0 := TA.out.f0
          have f1 := TA.out.f1
          go_wp2
          have FP := hide (fin_port (u := .int .i64 0) TA.out OA.out DA.out (by omega) (by omega))
          generalize ((w2.alloc (.cells #[.string D] 9)).setCell ⟨w.heap.size + 1 + 1, 0, none⟩ (.slice (some ⟨w2.heap.size, 0, none⟩) 1 1)).setCell ⟨w.heap.size + 1 + 1, 1, none⟩ (.int .i64 0) = W9 at *
          have e0 := FP.out.1.c0
          have e1 := FP.out.1.c1
          (try simp only [Exit.inBlock, Exit.then])
          refine bodyPost_ret (v := .tuple #[.agg #[.slice (some ⟨w2.heap.size, 0, none⟩) 1 1, .int .i64 0], .int .i64 0]) (by simp [results, Tryd.results44, go_sem, e0, e1]; try rfl) rfl ?_
          exact ⟨_, by rw [HA.out]; rfl, by rw [HL.out]; exact FP.out.2.1.weaken (by omega), FP.out.2.2⟩
        · have hkq : kque k = true := by unfold kque; simp; omega
          have hdk : decide (k ≤ 2) = false := decide_eq_false k2
          by_cases g2 : (len : Int) = d
          · have hd2 : ((len : Int) == d) = true := by simp [g2]
            have HA : Hid (movErr b k s d r l age D = 14) := by unfold Hid movErr addErr; rw [if_pos h0, if_pos hk, if_neg g1, if_neg (by rw [hkq]; decide), if_pos (by rw [hl]; exact g2)]
            have HL : Hid (movL b k s d r l age D = []) := by unfold Hid movL addL; rw [if_pos ⟨h0, hk⟩, if_neg (by unfold addErr; rw [if_neg g1, if_neg (by rw [hkq]; decide), if_pos (by rw [hl]; exact g2)]; decide)]
            clear g2
            go_wp2
            have FP := hide (fin_port (u := .int .i64 0) T2.out (slk_nil w2 W0.heap.size) D2.out (by omega) (by omega))
            generalize (w2.setCell ⟨w.heap.size + 1 + 1, 0, none⟩ (.slice none 0 0)).setCell ⟨w.heap.size + 1 + 1, 1, none⟩ (.int .i64 0) = W9 at *
            have e0 := FP.out.1.c0
            have e1 := FP.out.1.c1
            (try simp only [Exit.inBlock, Exit.then])
            refine bodyPost_ret (v := .tuple #[.agg #[.slice none 0 0, .int .i64 0], .int .i64 14]) (by simp [results, Tryd.results44, go_sem, e0, e1]; try rfl) rfl ?_
            exact ⟨_, by rw [HA.out]; rfl, by rw [HL.out]; exact FP.out.2.1.weaken (by omega), FP.out.2.2⟩
          · have hd2 : ((len : Int) == d) = false := by simp [g2]
            have HA : Hid (movErr b k s d r l age D = 0) := by unfold Hid movErr addErr; rw [if_pos h0, if_pos hk, if_neg g1, if_neg (by rw [hkq]; decide), if_neg (by rw [hl]; exact g2)]
            have HL : Hid (movL b k s d r l age D = l ++ [D]) := by unfold Hid movL addL; rw [if_pos ⟨h0, hk⟩, if_pos (by unfold addErr; rw [if_neg g1, if_neg (by rw [hkq]; decide), if_neg (by rw [hl]; exact g2)]), if_pos hkq]
            clear g2
            go_wp2_with fail
            refine Calls.mono (refWith_any a len cap l D w2 (HS.out.below D2.out)) ?_
            rintro e w3 ⟨v3, rfl, o3, b3⟩
            obtain ⟨a3, c3', rfl, _⟩ := o3.row
            have O3 := hide o3
            have D3 := hide (chain D2.out b3)
            have T3 := hide (T2.out.below b3)
            have hz3 : w2.heap.size ≤ w3.heap.size := b3.size
            clear o3 b3 D2 T2 P2 c0 c1 c2 q0 g0 g1 f0 f1
            have g0 := T3.out.c0
            have gg1 := T3.out.c1
            have f0 := T3.out.f0
            have f1 := T3.out.f1
            generalize hn3 : (l ++ [D]).length = n3 at *
            go_wp2
            have FP := hide (fin_port (u := .int .i64 0) T3.out O3.out D3.out (by omega) (by omega))
            generalize (w3.setCell ⟨w.heap.size + 1 + 1, 0, none⟩ (.slice a3 n3 c3')).setCell ⟨w.heap.size + 1 + 1, 1, none⟩ (.int .i64 0) = W9 at *
            have e0 := FP.out.1.c0
            have e1 := FP.out.1.c1
            (try simp only [Exit.inBlock, Exit.then])
            refine bodyPost_ret (v := .tuple #[.agg #[.slice a3 n3 c3', .int .i64 0], .int .i64 0]) (by simp [results, Tryd.results44, go_sem, e0, e1]; try rfl) rfl ?_
            exact ⟨_, by rw [HA.out]; rfl, by rw [HL.out]; exact FP.out.2.1.weaken (by omega), FP.out.2.2⟩
    · have hkb : (kin k == b) = false := by simp [hk]
      have hkb2 : (kin k != b) = true := by simp [hk]
      have HA : Hid (movErr b k s d r l age D = 7) := by unfold Hid movErr; rw [if_pos h0, if_neg hk]
      have HL : Hid (movL b k s d r l age D = []) := by unfold Hid movL; rw [if_neg (fun h => hk h.2)]
      generalize kin k = kk at *
      have hkk : kk = !b := by cases kk <;> cases b <;> simp_all
      subst hkk
      clear hk hkb hkb2
      cases b <;> go_wp2
      all_goals have FP := hide (fin_port (u := .int .i64 0) T2.out (slk_nil w2 W0.heap.size) D2.out (by omega) (by omega))
      all_goals generalize (w2.setCell ⟨w.heap.size + 1 + 1, 0, none⟩ (.slice none 0 0)).setCell ⟨w.heap.size + 1 + 1, 1, none⟩ (.int .i64 0) = W9 at *
      all_goals have e0 := FP.out.1.c0
      all_goals have e1 := FP.out.1.c1
      all_goals (try simp only [Exit.inBlock, Exit.then])
      all_goals refine bodyPost_ret (v := .tuple #[.agg #[.slice none 0 0, .int .i64 0], .int .i64 7]) (by simp [results, Tryd.results44, go_sem, e0, e1]) rfl ?_
      all_goals exact ⟨_, by rw [HA.out]; rfl, by rw [HL.out]; exact FP.out.2.1.weaken (by omega), FP.out.2.2⟩
  · have HA : Hid (movErr b k s d r l age D = chkErr k s d r l age) := by unfold Hid movErr; rw [if_neg h0]
    have HL : Hid (movL b k s d r l age D = []) := by unfold Hid movL; rw [if_neg (fun h => h0 h.1)]
    have g0 := T1.out.c0
    have g1 := T1.out.c1
    have f0 := T1.out.f0
    have f1 := T1.out.f1
    have hne : ((chkErr k s d r l age : Int) != 0) = true := by simp; omega
    generalize hP : chkErr k s d r l age = P at *
    clear h0
    go_wp2
    have FP := hide (fin_port (u := .int .i64 0) T1.out (slk_nil w1 W0.heap.size) D1.out (by omega) (by omega))
    generalize (w1.setCell ⟨w.heap.size + 1 + 1, 0, none⟩ (.slice none 0 0)).setCell ⟨w.heap.size + 1 + 1, 1, none⟩ (.int .i64 0) = W9 at *
    have e0 := FP.out.1.c0
    have e1 := FP.out.1.c1
    (try simp only [Exit.inBlock, Exit.then])
    refine bodyPost_ret (v := .tuple #[.agg #[.slice none 0 0, .int .i64 0], .int .i64 (P : Int)]) (by simp [results, Tryd.results44, go_sem, e0, e1]; try rfl) rfl ?_
    exact ⟨_, by rw [HA.out], by rw [HL.out]; exact FP.out.2.1.weaken (by omega), FP.out.2.2⟩
end Go.Proofs.YtgcodajiehfloaaDoor
