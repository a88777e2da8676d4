/-
  The document's Good of a stage.
-/
import Derived.Test.YtdbciciljeainaaGreatDoorXrChk
import Derived.Test.YtdbciciljeainaaGreatDoorXfGood
import Derived.BigQuiet
namespace Go.Proofs.YtdbciciljeainaaGreatDoor
open Go.RowKit FerryCrc
set_option linter.unusedVariables false
set_option linter.unusedSimpArgs false

set_option maxRecDepth 100000 in
set_option maxHeartbeats 4000000 in
theorem rgoodS_any (s : Sg) (a : Option Addr) (n c : Nat) (P : List ByteArray) {w : World} (hP : Txs w a n c P) :
    Calls Tryz.prog 17 #[.agg (s.cells (.slice a n c)).toArray] w fun e w' => e = .returned (.bool (goodB s P)) ∧ Below w.heap.size w w' := by
  obtain ⟨pt, st, tt, b, r, m⟩ := s
  obtain ⟨R, hR⟩ : ∃ R, goodB ⟨pt, st, tt, b, r, m⟩ P = R := ⟨_, rfl⟩
  rw [hR]
  have hn := hP.size
  have HR : Hid (R = (okPt pt && okNs b r m && okSt st && okTot tt && decide ((n : Int) = tt) && pOk tt 0 P)) := by rw [← hR, ← hn]; unfold goodB; simp only; rw [okNm_parts]; rfl
  unfold Sg.cells
  simp only
  obtain ⟨W, hW, B0, D0⟩ := box1 w [.int .i64 pt, .int .i64 st, .int .i64 tt, .int .i64 b, .int .i64 r, .int .i64 m, .slice a n c] 26
  have HB0 := hide B0
  have HD := hide D0
  have HP := hide (hP.below D0)
  have HWD := hide hW
  have H1 := hide rpart_any
  have H2 := hide (fun w' => rnumbers_any b r m w')
  clear hR hP B0 D0 hW
  go_enter Tryz.func17, Tryz.ntmps17
  go_upto_region 1 with fail
  have hW := HWD.out
  clear HWD
  simp only [hW]
  clear hW
  obtain ⟨X, hX⟩ : ∃ X, (okPt pt && okNs b r m && okSt st && okTot tt && decide ((n : Int) = tt)) = X := ⟨_, rfl⟩
  have HX := hide hX
  have HR2 : Hid (R = (X && pOk tt 0 P)) := by unfold Hid; rw [HR.out, hX]
  clear hX HR
  go_cut [41] from 4 to 41 (fun v wz => v = .bool (!X) ∧ Hid (Below W.heap.size W wz))
  case first =>
    clear HR2
    have g0 := HB0.out.cell 0 rfl
    have g1 := HB0.out.cell 1 rfl
    have g2 := HB0.out.cell 2 rfl
    have g3 := HB0.out.cell 3 rfl
    have g4 := HB0.out.cell 4 rfl
    have g5 := HB0.out.cell 5 rfl
    have g6 := HB0.out.cell 6 rfl
    cases h1 : okPt pt with
    | false =>
      have hx : X = false := by rw [← HX.out, h1]; rfl
      subst hx
      clear HX
      go_wp2_with (go_at_call 34; refine Calls.mono (H1.out _ _) ?_; rintro e w' ⟨rfl, rfl⟩; rw [h1])
      go_meet
      case rel => exact ⟨rfl, Below.refl _ _⟩
    | true =>
      cases h2 : okNs b r m with
      | false =>
        have hx : X = false := by rw [← HX.out, h1, h2]; rfl
        subst hx
        clear HX
        go_wp2_with (first | (go_at_call 34; refine Calls.mono (H1.out _ _) ?_; rintro e w' ⟨rfl, rfl⟩; rw [h1]) | (go_at_call 35; refine Calls.mono (H2.out _) ?_; rintro e w5 ⟨rfl, b5⟩; rw [h2]; have BB := hide b5; replace HB0 := hide (HB0.out.below b5); clear b5 g0 g1 g2 g3 g4 g5 g6; have g1 := HB0.out.cell 1 rfl; have g2 := HB0.out.cell 2 rfl; have g6 := HB0.out.cell 6 rfl))
        go_meet
        case rel => exact ⟨rfl, BB.out⟩
      | true =>
        by_cases h3 : st = 1 ∨ st = 2
        · have hs : okSt st = true := okSt_iff.2 h3
          by_cases h4 : tt < 1
          · have hx : X = false := by rw [← HX.out]; unfold okTot; rw [decide_eq_false (show ¬ 1 ≤ tt by omega)]; simp
            subst hx
            clear HX hs
            rcases h3 with rfl | rfl
            all_goals
              go_wp2_with (first | (go_at_call 34; refine Calls.mono (H1.out _ _) ?_; rintro e w' ⟨rfl, rfl⟩; rw [h1]) | (go_at_call 35; refine Calls.mono (H2.out _) ?_; rintro e w5 ⟨rfl, b5⟩; rw [h2]; have BB := hide b5; replace HB0 := hide (HB0.out.below b5); clear b5 g0 g1 g2 g3 g4 g5 g6; have g1 := HB0.out.cell 1 rfl; have g2 := HB0.out.cell 2 rfl; have g6 := HB0.out.cell 6 rfl))
              go_meet
              case rel => exact ⟨rfl, BB.out⟩
          · by_cases h5 : 32 < tt
            · have hx : X = false := by rw [← HX.out]; unfold okTot; rw [decide_eq_false (show ¬ tt ≤ 32 by omega)]; simp
              subst hx
              clear HX hs
              rcases h3 with rfl | rfl
              all_goals
                go_wp2_with (first | (go_at_call 34; refine Calls.mono (H1.out _ _) ?_; rintro e w' ⟨rfl, rfl⟩; rw [h1]) | (go_at_call 35; refine Calls.mono (H2.out _) ?_; rintro e w5 ⟨rfl, b5⟩; rw [h2]; have BB := hide b5; replace HB0 := hide (HB0.out.below b5); clear b5 g0 g1 g2 g3 g4 g5 g6; have g1 := HB0.out.cell 1 rfl; have g2 := HB0.out.cell 2 rfl; have g6 := HB0.out.cell 6 rfl))
                go_meet
                case rel => exact ⟨rfl, BB.out⟩
            · have ht : okTot tt = true := okTot_iff.2 ⟨by omega, by omega⟩
              have f4 : decide (tt < 1) = false := decide_eq_false h4
              have f5 : decide (32 < tt) = false := decide_eq_false h5
              clear h4 h5
              by_cases h6 : (n : Int) = tt
              · have hx : X = true := by rw [← HX.out, h1, h2, hs, ht, decide_eq_true h6]; rfl
                subst hx
                have f6 : ((n : Int) != tt) = false := by simpa using h6
                have f7 : ((n : Int) == tt) = true := by simpa using h6
                clear HX hs ht h6
                rcases h3 with rfl | rfl
                all_goals
                  go_wp2_with (first | (go_at_call 34; refine Calls.mono (H1.out _ _) ?_; rintro e w' ⟨rfl, rfl⟩; rw [h1]) | (go_at_call 35; refine Calls.mono (H2.out _) ?_; rintro e w5 ⟨rfl, b5⟩; rw [h2]; have BB := hide b5; replace HB0 := hide (HB0.out.below b5); clear b5 g0 g1 g2 g3 g4 g5 g6; have g1 := HB0.out.cell 1 rfl; have g2 := HB0.out.cell 2 rfl; have g6 := HB0.out.cell 6 rfl))
                  go_meet
                  case rel => exact ⟨rfl, BB.out⟩
              · have hx : X = false := by rw [← HX.out, decide_eq_false h6]; simp
                subst hx
                have f6 : ((n : Int) != tt) = true := by simpa using h6
                have f7 : ((n : Int) == tt) = false := by simpa using h6
                clear HX hs ht h6
                rcases h3 with rfl | rfl
                all_goals
                  go_wp2_with (first | (go_at_call 34; refine Calls.mono (H1.out _ _) ?_; rintro e w' ⟨rfl, rfl⟩; rw [h1]) | (go_at_call 35; refine Calls.mono (H2.out _) ?_; rintro e w5 ⟨rfl, b5⟩; rw [h2]; have BB := hide b5; replace HB0 := hide (HB0.out.below b5); clear b5 g0 g1 g2 g3 g4 g5 g6; have g1 := HB0.out.cell 1 rfl; have g2 := HB0.out.cell 2 rfl; have g6 := HB0.out.cell 6 rfl))
                  go_meet
                  case rel => exact ⟨rfl, BB.out⟩
        · have hs : okSt st = false := by
            cases h : okSt st with
            | false => rfl
            | true => exact absurd (okSt_iff.1 h) h3
          have hx : X = false := by rw [← HX.out, hs]; simp
          subst hx
          have e1 : (st == 1) = false := by simp; omega
          have e2 : (st == 2) = false := by simp; omega
          have e3 : (st != 1) = true := by simp; omega
          have e4 : (st != 2) = true := by simp; omega
          clear HX hs h3
          go_wp2_with (first | (go_at_call 34; refine Calls.mono (H1.out _ _) ?_; rintro e w' ⟨rfl, rfl⟩; rw [h1]) | (go_at_call 35; refine Calls.mono (H2.out _) ?_; rintro e w5 ⟨rfl, b5⟩; rw [h2]; have BB := hide b5; replace HB0 := hide (HB0.out.below b5); clear b5 g0 g1 g2 g3 g4 g5 g6; have g1 := HB0.out.cell 1 rfl; have g2 := HB0.out.cell 2 rfl; have g6 := HB0.out.cell 6 rfl))
          go_meet
          case rel => exact ⟨rfl, BB.out⟩
  case rest =>
    obtain ⟨rfl, HBB⟩ := hcut
    obtain ⟨w1, hw1⟩ : ∃ z, z = wc := ⟨_, rfl⟩
    subst hw1
    replace HB0 := hide (HB0.out.below HBB.out)
    replace HD := hide (chain HD.out HBB.out)
    replace HP := hide (HP.out.below HBB.out)
    clear HBB H1 H2
    cases X with
    | false =>
      go_wp2
      go_ret
      exact ⟨ret_b (by rw [HR2.out]; rfl), HD.out⟩
    | true =>
      have hx := HX.out
      simp only [Bool.and_eq_true, decide_eq_true_eq, okTot_iff] at hx
      obtain ⟨⟨-, t1, t2⟩, h4⟩ := hx
      subst h4
      have HR3 : Hid (R = pOk (n : Int) 0 P) := by unfold Hid; rw [HR2.out]; simp
      have hnn : n ≤ 32 := by omega
      clear HR2 HX t1 t2
      go_wp2_with fail
      go_loopw [3] (fun i wr => ∃ k : Nat, k ≤ n ∧ i = .int .i64 (k : Int) ∧ Hid (R = pOk (n : Int) k (P.drop k)) ∧ Hid (Below w1.heap.size w1 wr)) (fun i _ => n - (intOf i).toNat)
      case atStart => exact ⟨0, Nat.zero_le _, rfl, HR3.out, Below.refl _ _⟩
      case round =>
        obtain ⟨k, hk, rfl, HQ, HB⟩ := hrel
        have g2 := (HB0.out.below HB.out).cell 2 rfl
        have g6 := (HB0.out.below HB.out).cell 6 rfl
        by_cases hlt : k < n
        · obtain ⟨x, hx⟩ : ∃ x, P[k]? = some x := ⟨_, List.getElem?_eq_getElem (by omega)⟩
          have HX : Hid (R = ((decide (x.size = 0) || pieceOk x (k : Int) (n : Int)) && pOk (n : Int) (k + 1) (P.drop (k + 1)))) := by
            have hkl : k < P.length := by omega
            rw [HQ.out, List.drop_eq_getElem_cons hkl, show P[k] = x by rw [List.getElem?_eq_getElem hkl] at hx; simpa using hx]
            rfl
          obtain ⟨b1, o1, rfl, hc1⟩ := (HP.out.below HB.out).at tv1 (by decide) hx
          have n0 := hc1 0 _ rfl
          rw [Nat.mul_one, Nat.add_zero] at n0
          have hk1 : (k : Int) < (n : Int) := by omega
          clear hc1 hx
          by_cases h0 : x.size = 0
          · --
            have hxe : x = ⟨#[]⟩ := by
              obtain ⟨⟨l⟩⟩ := x
              have : l.length = 0 := h0
              rw [List.length_eq_zero_iff.1 this]
            have hdn : x.toList = [] := by rw [ByteArray.toList_eq, hxe]
            have hdt : x.toList.isEmpty = true := by rw [hdn]; rfl
            have HX2 : Hid (R = pOk (n : Int) (k + 1) (P.drop (k + 1))) := by rw [HX.out, decide_eq_true h0]; rfl
            clear HX h0 hxe
            go_wp2_with fail
            go_quiet (fail)
            go_wp2
            exact ⟨⟨k + 1, by omega, by simp, HX2.out, ⟨HB.out.os, HB.out.tape, HB.out.output, HB.out.size, HB.out.block⟩⟩, by simp [intOf]; omega⟩
          · --
            have hdt := list_ne h0
            have hdn := toList_ne h0
            have hpc : Hid (∀ ww : World, Calls Tryz.prog 36 #[.int .i64 (k : Int), .int .i64 (n : Int), .int .i64 (x.size : Int)] ww fun e w' => e = .returned (.bool (pieceOk x (k : Int) (n : Int))) ∧ w' = ww) := fun ww => rfits_any x (k : Int) (n : Int) ww (by omega) (by omega)
            cases h5 : pieceOk x (k : Int) (n : Int) with
            | false =>
              rw [h5, decide_eq_false h0] at HX
              rw [h5] at hpc
              go_wp2_with fail
              go_quiet ((go_at_call 36; refine Calls.quiet_of_same (hpc.out _)))
              go_wp2
              go_ret
              exact ⟨ret_b (by rw [HX.out]; rfl), ⟨(chain HD.out HB.out).os, (chain HD.out HB.out).tape, (chain HD.out HB.out).output, (chain HD.out HB.out).size, (chain HD.out HB.out).block⟩⟩
            | true =>
              rw [h5, decide_eq_false h0] at HX
              rw [h5] at hpc
              go_wp2_with fail
              go_quiet ((go_at_call 36; refine Calls.quiet_of_same (hpc.out _)))
              go_wp2
              exact ⟨⟨k + 1, by omega, by simp, by rw [HX.out]; rfl, ⟨HB.out.os, HB.out.tape, HB.out.output, HB.out.size, HB.out.block⟩⟩, by simp [intOf]; omega⟩
        · obtain rfl : k = n := by omega
          have hnk : ¬ (k : Int) < (k : Int) := by omega
          go_wp2
          go_ret
          exact ⟨ret_b (by rw [HQ.out, List.drop_of_length_le (by omega)]; rfl), chain HD.out HB.out⟩
end Go.Proofs.YtdbciciljeainaaGreatDoor
