/-
  The document's form of notes: fits, ranges, Check, chunk.
-/
import Derived.Test.YtdbciciljeainaaGreatDoorXrCut
namespace Go.Proofs.YtdbciciljeainaaGreatDoor
open Go.RowKit FerryCrc
set_option linter.unusedVariables false
set_option linter.unusedSimpArgs false

set_option maxRecDepth 100000 in
theorem rfits_any (d : ByteArray) (i t : Int) (w : World) (h1 : -9223372036854775807 ≤ t) (h2 : t ≤ 9223372036854775807) : Calls Tryz.prog 36 #[.int .i64 i, .int .i64 t, .int .i64 (d.size : Int)] w fun e w' => e = .returned (.bool (pieceOk d i t)) ∧ w' = w := by
  obtain ⟨u, hu⟩ : ∃ u, u = t - 1 := ⟨_, rfl⟩
  have hw : wrap64 (t - 1) = u := by rw [← IntWalk.i64_left, IntKind.wrap_i64]; omega
  have hw' : IntKind.i64.wrap (t - 1) = u := by rw [IntKind.wrap_i64]; omega
  obtain ⟨n, hn⟩ : ∃ n, d.size = n := ⟨_, rfl⟩
  rw [hn]
  by_cases he : i = u
  · subst he
    have HP : Hid (pieceOk d i t = (decide (1 ≤ n) && decide (n ≤ 128))) := by unfold Hid pieceOk; rw [if_pos hu, hn]
    clear hu h1 h2 hn
    rw [HP.out]
    by_cases c1 : 1 ≤ n
    · by_cases c2 : n ≤ 128
      · have d1 : (1 : Int) ≤ (n : Int) := by omega
        have d2 : (n : Int) ≤ 128 := by omega
        go_enter Tryz.func36, Tryz.ntmps36
        go_wp2
        go_ret
        exact ⟨ret_b (by simp [c1, c2]), rfl⟩
      · have d1 : (1 : Int) ≤ (n : Int) := by omega
        have d2 : ¬ (n : Int) ≤ 128 := by omega
        go_enter Tryz.func36, Tryz.ntmps36
        go_wp2
        go_ret
        exact ⟨ret_b (by simp [c2]), rfl⟩
    · have d1 : ¬ (1 : Int) ≤ (n : Int) := by omega
      go_enter Tryz.func36, Tryz.ntmps36
      go_wp2
      go_ret
      exact ⟨ret_b (by simp [c1]), rfl⟩
  · have HP : Hid (pieceOk d i t = (n == 128)) := by unfold Hid pieceOk; rw [if_neg (by rw [← hu]; exact he), hn]
    have h9 : (i == u) = false := by simpa using he
    clear hu h1 h2 he hn
    rw [HP.out]
    by_cases c1 : n = 128
    · have d1 : ((n : Int) == 128) = true := by simp; omega
      go_enter Tryz.func36, Tryz.ntmps36
      go_wp2
      go_ret
      exact ⟨ret_b (by simp [c1]), rfl⟩
    · have d1 : ((n : Int) == 128) = false := by simp; omega
      go_enter Tryz.func36, Tryz.ntmps36
      go_wp2
      go_ret
      exact ⟨ret_b (by simp [c1]), rfl⟩

def rgs (n : Nt) : Bool := nmN n && stagedN n && countedN n && filledN n
def bad3 (n : Nt) : Bool := !(nmN n) || (!(n.sum == 0) && !(n.kind == 2))
theorem rgs_b3 {n : Nt} (h : bad3 n = true) : rgs n = false := by
  unfold bad3 at h
  unfold rgs
  cases h1 : nmN n with
  | false => rfl
  | true =>
    rw [h1] at h
    simp at h
    obtain ⟨h2, h3⟩ := h
    have : filledN n = false := by
      unfold filledN
      split <;> simp [h2, h3]
    rw [this]
    simp
theorem rgs_ok {n : Nt} (h3 : bad3 n = false) (h5 : stagedN n = true) (h7 : countedN n = true) : rgs n = if n.kind = 1 then pieceOk n.data n.index n.total else decide (n.data.size = 0) := by
  unfold bad3 at h3
  simp at h3
  unfold rgs
  rw [h3.1, h5, h7]
  unfold filledN
  by_cases hk : n.kind = 1
  · rw [if_pos hk, if_pos hk]
    have : n.sum = 0 := by
      by_cases hs : n.sum = 0
      · exact hs
      · have := h3.2 hs
        omega
    simp [this]
  · rw [if_neg hk, if_neg hk]
    by_cases hs : n.sum = 0
    · simp [hs]
    · simp [h3.2 hs]
theorem counted_total {n : Nt} (h : countedN n = true) : -9223372036854775807 ≤ n.total := by
  unfold countedN at h
  split at h
  · simp [okTot] at h; omega
  · simp at h; omega
set_option maxRecDepth 100000 in
set_option maxHeartbeats 4000000 in
theorem rranges_any (k pt b r m st ix tt sm : Int) (d : ByteArray) (w : World) (hd : d.size ≤ 9223372036854775807) (h1 : -9223372036854775808 ≤ tt) (h2 : tt ≤ 9223372036854775807) : Calls Tryz.prog 39 #[.agg #[.int .i64 k, .int .i64 pt, .int .i64 b, .int .i64 r, .int .i64 m, .int .i64 st, .int .i64 ix, .int .i64 tt, .int .u32 sm, .string d]] w fun e w' => e = .returned (.bool (rgs ⟨k, pt, b, r, m, st, ix, tt, sm, d⟩)) ∧ Below w.heap.size w w' := by
  obtain ⟨W, hW, B0, D0⟩ := box1 w [.int .i64 k, .int .i64 pt, .int .i64 b, .int .i64 r, .int .i64 m, .int .i64 st, .int .i64 ix, .int .i64 tt, .int .u32 sm, .string d] 33
  have HB0 := hide B0
  have HD := hide D0
  have HWD := hide hW
  have H1 := hide rpart_any
  have H2 := hide (fun w' => rnumbers_any b r m w')
  have H3 : Hid (-9223372036854775807 ≤ tt → ∀ w', Calls Tryz.prog 36 #[.int .i64 ix, .int .i64 tt, .int .i64 (d.size : Int)] w' fun e w2 => e = .returned (.bool (pieceOk d ix tt)) ∧ w2 = w') := fun h w' => rfits_any d ix tt w' h h2
  obtain ⟨R, hR⟩ : ∃ R, rgs ⟨k, pt, b, r, m, st, ix, tt, sm, d⟩ = R := ⟨_, rfl⟩
  rw [hR]
  have HQ3 : Hid (bad3 ⟨k, pt, b, r, m, st, ix, tt, sm, d⟩ = true → R = false) := fun h => by rw [← hR]; exact rgs_b3 h
  have HQ5 : Hid (stagedN ⟨k, pt, b, r, m, st, ix, tt, sm, d⟩ = false → R = false) := fun h => by rw [← hR]; unfold rgs; rw [h]; simp
  have HQ7 : Hid (countedN ⟨k, pt, b, r, m, st, ix, tt, sm, d⟩ = false → R = false) := fun h => by rw [← hR]; unfold rgs; rw [h]; simp
  have HQT : Hid (countedN ⟨k, pt, b, r, m, st, ix, tt, sm, d⟩ = true → -9223372036854775807 ≤ tt) := fun h => counted_total h
  have HQ9 : Hid (bad3 ⟨k, pt, b, r, m, st, ix, tt, sm, d⟩ = false → stagedN ⟨k, pt, b, r, m, st, ix, tt, sm, d⟩ = true → countedN ⟨k, pt, b, r, m, st, ix, tt, sm, d⟩ = true → R = if k = 1 then pieceOk d ix tt else decide (d.size = 0)) := fun a1 a2 a3 => by rw [← hR]; exact rgs_ok a1 a2 a3
  clear B0 D0 hW hR h1 h2
  go_enter Tryz.func39, Tryz.ntmps39
  go_upto_region 1 with fail
  have hW := HWD.out
  simp only [hW]
  clear hW HWD
  have g0 := HB0.out.cell 0 rfl
  have g1 := HB0.out.cell 1 rfl
  have g2 := HB0.out.cell 2 rfl
  have g3 := HB0.out.cell 3 rfl
  have g4 := HB0.out.cell 4 rfl
  have g5 := HB0.out.cell 5 rfl
  have g6 := HB0.out.cell 6 rfl
  have g7 := HB0.out.cell 7 rfl
  have g8 := HB0.out.cell 8 rfl
  have g9 := HB0.out.cell 9 rfl
  obtain ⟨S, hS⟩ : ∃ S, decide (k = 1 ∨ k = 7 ∨ k = 2 ∨ k = 3) = S := ⟨_, rfl⟩
  obtain ⟨P, hP⟩ : ∃ P, decide (k = 1 ∨ k = 7) = P := ⟨_, rfl⟩
  have HSS := hide hS
  have HPP := hide hP
  clear hS hP
  go_cut [3] from 5 to 22 (fun v wz => v = .bool S ∧ wz = W)
  case first =>
    by_cases hk : k = 1 ∨ k = 7 ∨ k = 2 ∨ k = 3
    · have hs : S = true := by rw [← HSS.out]; exact decide_eq_true hk
      subst hs
      clear HSS HPP HQ3 HQ5 HQ7 HQT HQ9
      rcases hk with rfl | rfl | rfl | rfl
      all_goals
        go_wp2_with fail
        go_meet
        case rel => exact ⟨rfl, rfl⟩
    · have hs : S = false := by rw [← HSS.out]; exact decide_eq_false hk
      subst hs
      have e1 : (k == 1) = false := by simp; omega
      have e7 : (k == 7) = false := by simp; omega
      have e2 : (k == 2) = false := by simp; omega
      have e3 : (k == 3) = false := by simp; omega
      clear hk HSS HPP HQ3 HQ5 HQ7 HQT HQ9
      go_wp2_with fail
      go_meet
      case rel => exact ⟨rfl, rfl⟩
  case rest =>
    obtain ⟨rfl, rfl⟩ := hcut
    go_upto_region 2 with fail
    go_cut [4] from 23 to 30 (fun v wz => v = .bool P ∧ wz = wc)
    case first =>
      by_cases hk : k = 1 ∨ k = 7
      · have hs : P = true := by rw [← HPP.out]; exact decide_eq_true hk
        subst hs
        clear HSS HPP HQ3 HQ5 HQ7 HQT HQ9
        rcases hk with rfl | rfl
        all_goals
          go_wp2_with fail
          go_meet
          case rel => exact ⟨rfl, rfl⟩
      · have hs : P = false := by rw [← HPP.out]; exact decide_eq_false hk
        subst hs
        have e1 : (k == 1) = false := by simp; omega
        have e7 : (k == 7) = false := by simp; omega
        clear hk HSS HPP HQ3 HQ5 HQ7 HQT HQ9
        go_wp2_with fail
        go_meet
        case rel => exact ⟨rfl, rfl⟩
    case rest =>
      obtain ⟨rfl, rfl⟩ := hcut
      obtain ⟨w0, hw0⟩ : ∃ z, z = wc := ⟨_, rfl⟩
      subst hw0
      obtain ⟨X3, hX3⟩ : ∃ X3, bad3 ⟨k, pt, b, r, m, st, ix, tt, sm, d⟩ = X3 := ⟨_, rfl⟩
      have HX3 := hide hX3
      have HX3b : Hid (X3 = (!(okPt pt && okNs b r m) || (!(sm == 0) && !(k == 2)))) := by rw [← hX3]; unfold bad3 nmN; simp only; rw [okNm_parts]; rfl
      clear hX3
      go_upto_region 3 with fail
      go_cut [50] from 31 to 50 (fun v wz => v = .bool X3 ∧ Hid (Below w0.heap.size w0 wz))
      case first =>
        clear HSS HPP HQ3 HQ5 HQ7 HQT HQ9 HX3
        cases a1 : okPt pt with
        | false =>
          have hx : X3 = true := by rw [HX3b.out, a1]; rfl
          subst hx
          clear HX3b
          go_wp2_with (go_at_call 34; refine Calls.mono (H1.out _ _) ?_; rintro e w' ⟨rfl, rfl⟩; rw [a1])
          go_meet
          case rel => exact ⟨rfl, Below.refl _ _⟩
        | true =>
          cases a2 : okNs b r m with
          | false =>
            have hx : X3 = true := by rw [HX3b.out, a1, a2]; rfl
            subst hx
            clear HX3b
            go_wp2_with (first | (go_at_call 34; refine Calls.mono (H1.out _ _) ?_; rintro e w' ⟨rfl, rfl⟩; rw [a1]) | (go_at_call 35; refine Calls.mono (H2.out _) ?_; rintro e w5 ⟨rfl, b5⟩; rw [a2]; have BB := hide b5; clear b5))
            go_meet
            case rel => exact ⟨rfl, BB.out⟩
          | true =>
            by_cases a3 : sm = 0
            · subst a3
              have hx : X3 = false := by rw [HX3b.out, a1, a2]; rfl
              subst hx
              clear HX3b
              go_wp2_with (first | (go_at_call 34; refine Calls.mono (H1.out _ _) ?_; rintro e w' ⟨rfl, rfl⟩; rw [a1]) | (go_at_call 35; refine Calls.mono (H2.out _) ?_; rintro e w5 ⟨rfl, b5⟩; rw [a2]; have BB := hide b5; replace HB0 := hide (HB0.out.below b5); clear b5 g0 g8; have g0 := HB0.out.cell 0 rfl; have g8 := HB0.out.cell 8 rfl))
              go_meet
              case rel => exact ⟨rfl, BB.out⟩
            · have e8 : (sm == 0) = false := by simpa using a3
              have e9 : (sm != 0) = true := by simpa using a3
              by_cases a4 : k = 2
              · subst a4
                have hx : X3 = false := by rw [HX3b.out, a1, a2, e8]; rfl
                subst hx
                clear HX3b
                go_wp2_with (first | (go_at_call 34; refine Calls.mono (H1.out _ _) ?_; rintro e w' ⟨rfl, rfl⟩; rw [a1]) | (go_at_call 35; refine Calls.mono (H2.out _) ?_; rintro e w5 ⟨rfl, b5⟩; rw [a2]; have BB := hide b5; replace HB0 := hide (HB0.out.below b5); clear b5 g0 g8; have g0 := HB0.out.cell 0 rfl; have g8 := HB0.out.cell 8 rfl))
                go_meet
                case rel => exact ⟨rfl, BB.out⟩
              · have e6 : (k == 2) = false := by simpa using a4
                have e7 : (k != 2) = true := by simpa using a4
                have hx : X3 = true := by rw [HX3b.out, a1, a2, e8, e6]; rfl
                subst hx
                clear HX3b
                go_wp2_with (first | (go_at_call 34; refine Calls.mono (H1.out _ _) ?_; rintro e w' ⟨rfl, rfl⟩; rw [a1]) | (go_at_call 35; refine Calls.mono (H2.out _) ?_; rintro e w5 ⟨rfl, b5⟩; rw [a2]; have BB := hide b5; replace HB0 := hide (HB0.out.below b5); clear b5 g0 g8; have g0 := HB0.out.cell 0 rfl; have g8 := HB0.out.cell 8 rfl))
                go_meet
                case rel => exact ⟨rfl, BB.out⟩
      case rest =>
        obtain ⟨rfl, HBB⟩ := hcut
        obtain ⟨w1, hw1⟩ : ∃ z, z = wc := ⟨_, rfl⟩
        subst hw1
        replace HB0 := hide (HB0.out.below HBB.out)
        replace HD := hide (chain HD.out HBB.out)
        clear g0 g1 g2 g3 g4 g5 g6 g7 g8 g9 HBB H1 H2 HX3b
        have g0 := HB0.out.cell 0 rfl
        have g5 := HB0.out.cell 5 rfl
        have g6 := HB0.out.cell 6 rfl
        have g7 := HB0.out.cell 7 rfl
        have g9 := HB0.out.cell 9 rfl
        cases X3 with
        | true =>
          have HF := hide (HQ3.out HX3.out)
          go_wp2
          go_ret
          exact ⟨ret_b HF.out.symm, HD.out⟩
        | false =>
          obtain ⟨X5, hX5⟩ : ∃ X5, stagedN ⟨k, pt, b, r, m, st, ix, tt, sm, d⟩ = X5 := ⟨_, rfl⟩
          have HX5 := hide hX5
          have HX5b : Hid (X5 = if S = true then okSt st else st == 0) := by
            rw [← hX5]
            unfold stagedN
            by_cases hk : k = 1 ∨ k = 7 ∨ k = 2 ∨ k = 3
            · exact (if_pos hk).trans (if_pos (by rw [← HSS.out]; exact decide_eq_true hk)).symm
            · exact (if_neg hk).trans (if_neg (by rw [← HSS.out, decide_eq_false hk]; decide)).symm
          clear hX5
          go_upto_region 5 with fail
          go_cut [70] from 51 to 70 (fun v wz => v = .bool (!X5) ∧ wz = w1)
          case first =>
            clear HSS HPP HQ3 HQ5 HQ7 HQT HQ9 HX3 HX5 H3
            cases S with
            | true =>
              by_cases c1 : st = 1
              · subst c1
                have hx : X5 = true := by rw [HX5b.out]; rfl
                subst hx
                clear HX5b
                go_wp2_with fail
                go_meet
                case rel => exact ⟨rfl, rfl⟩
              · by_cases c2 : st = 2
                · subst c2
                  have hx : X5 = true := by rw [HX5b.out]; rfl
                  subst hx
                  clear HX5b
                  go_wp2_with fail
                  go_meet
                  case rel => exact ⟨rfl, rfl⟩
                · have e1 : (st == 1) = false := by simpa using c1
                  have e2 : (st == 2) = false := by simpa using c2
                  have e3 : (st != 1) = true := by simpa using c1
                  have e4 : (st != 2) = true := by simpa using c2
                  have hx : X5 = false := by rw [HX5b.out]; simp [okSt, c1, c2]
                  subst hx
                  clear HX5b c1 c2
                  go_wp2_with fail
                  go_meet
                  case rel => exact ⟨rfl, rfl⟩
            | false =>
              by_cases c1 : st = 0
              · subst c1
                have hx : X5 = true := by rw [HX5b.out]; rfl
                subst hx
                clear HX5b
                go_wp2_with fail
                go_meet
                case rel => exact ⟨rfl, rfl⟩
              · have e1 : (st == 0) = false := by simpa using c1
                have e3 : (st != 0) = true := by simpa using c1
                have hx : X5 = false := by rw [HX5b.out]; simp [c1]
                subst hx
                clear HX5b c1
                go_wp2_with fail
                go_meet
                case rel => exact ⟨rfl, rfl⟩
          case rest =>
            obtain ⟨rfl, rfl⟩ := hcut
            obtain ⟨w2, hw2⟩ : ∃ z, z = wc := ⟨_, rfl⟩
            subst hw2
            cases X5 with
            | false =>
              have HF := hide (HQ5.out HX5.out)
              go_wp2
              go_ret
              exact ⟨ret_b HF.out.symm, HD.out⟩
            | true =>
              obtain ⟨X7, hX7⟩ : ∃ X7, countedN ⟨k, pt, b, r, m, st, ix, tt, sm, d⟩ = X7 := ⟨_, rfl⟩
              have HX7 := hide hX7
              have HX7b : Hid (X7 = if P = true then okTot tt && decide (0 ≤ ix) && decide (ix < tt) else ix == 0 && tt == 0) := by
                rw [← hX7]
                unfold countedN
                by_cases hk : k = 1 ∨ k = 7
                · exact (if_pos hk).trans (if_pos (by rw [← HPP.out]; exact decide_eq_true hk)).symm
                · exact (if_neg hk).trans (if_neg (by rw [← HPP.out, decide_eq_false hk]; decide)).symm
              clear hX7
              go_upto_region 7 with fail
              go_cut [107] from 71 to 107 (fun v wz => v = .bool (!X7) ∧ wz = w2)
              case first =>
                clear HSS HPP HQ3 HQ5 HQ7 HQT HQ9 HX3 HX5 HX5b HX7 H3
                cases P with
                | true =>
                  by_cases c1 : tt < 1
                  · have hx : X7 = false := by rw [HX7b.out]; unfold okTot; rw [decide_eq_false (show ¬ 1 ≤ tt by omega)]; rfl
                    subst hx
                    clear HX7b
                    go_wp2_with fail
                    go_meet
                    case rel => exact ⟨rfl, rfl⟩
                  · by_cases c2 : 32 < tt
                    · have hx : X7 = false := by rw [HX7b.out]; unfold okTot; rw [decide_eq_false (show ¬ tt ≤ 32 by omega)]; simp
                      subst hx
                      clear HX7b
                      go_wp2_with fail
                      go_meet
                      case rel => exact ⟨rfl, rfl⟩
                    · by_cases c3 : ix < 0
                      · have hx : X7 = false := by rw [HX7b.out]; rw [decide_eq_false (show ¬ 0 ≤ ix by omega)]; simp
                        subst hx
                        clear HX7b
                        go_wp2_with fail
                        go_meet
                        case rel => exact ⟨rfl, rfl⟩
                      · by_cases c4 : tt ≤ ix
                        · have hx : X7 = false := by rw [HX7b.out]; rw [decide_eq_false (show ¬ ix < tt by omega)]; simp
                          subst hx
                          clear HX7b
                          go_wp2_with fail
                          go_meet
                          case rel => exact ⟨rfl, rfl⟩
                        · have hx : X7 = true := by rw [HX7b.out]; simp [okTot]; omega
                          subst hx
                          clear HX7b
                          go_wp2_with fail
                          go_meet
                          case rel => exact ⟨rfl, rfl⟩
                | false =>
                  by_cases c1 : tt = 0
                  · subst c1
                    by_cases c2 : ix = 0
                    · subst c2
                      have hx : X7 = true := by rw [HX7b.out]; rfl
                      subst hx
                      clear HX7b
                      go_wp2_with fail
                      go_meet
                      case rel => exact ⟨rfl, rfl⟩
                    · have e1 : (ix == 0) = false := by simpa using c2
                      have e3 : (ix != 0) = true := by simpa using c2
                      have hx : X7 = false := by rw [HX7b.out]; simp [c2]
                      subst hx
                      clear HX7b c2
                      go_wp2_with fail
                      go_meet
                      case rel => exact ⟨rfl, rfl⟩
                  · have e1 : (tt == 0) = false := by simpa using c1
                    have e3 : (tt != 0) = true := by simpa using c1
                    have hx : X7 = false := by rw [HX7b.out]; simp [c1]
                    subst hx
                    clear HX7b c1
                    go_wp2_with fail
                    go_meet
                    case rel => exact ⟨rfl, rfl⟩
              case rest =>
                obtain ⟨rfl, rfl⟩ := hcut
                obtain ⟨w3, hw3⟩ : ∃ z, z = wc := ⟨_, rfl⟩
                subst hw3
                cases X7 with
                | false =>
                  have HF := hide (HQ7.out HX7.out)
                  go_wp2
                  go_ret
                  exact ⟨ret_b HF.out.symm, HD.out⟩
                | true =>
                  have HT := hide (H3.out (HQT.out HX7.out))
                  have HF := hide (HQ9.out HX3.out HX5.out HX7.out)
                  clear HQ3 HQ5 HQ7 HQT HQ9 HX3 HX5 HX7 HX5b HX7b HSS HPP H3
                  by_cases hk : k = 1
                  · subst hk
                    go_wp2_with (refine Calls.mono (HT.out _) ?_; rintro e w' ⟨rfl, rfl⟩)
                    go_ret
                    exact ⟨ret_b (by rw [HF.out]; rfl), HD.out⟩
                  · have e1 : (k == 1) = false := by simpa using hk
                    have HF2 : Hid (R = decide (d.size = 0)) := by rw [HF.out]; exact if_neg hk
                    clear HF HT hk
                    by_cases hs : d.size = 0
                    · have hd0 : d = ⟨#[]⟩ := by
                        apply ByteArray.ext
                        exact Array.eq_empty_of_size_eq_zero hs
                      subst hd0
                      go_wp2
                      go_ret
                      exact ⟨ret_b (by rw [HF2.out]; rfl), HD.out⟩
                    · have hdt := toList_ne hs
                      have hdn : ¬ d = ⟨#[]⟩ := fun e => hs (by rw [e]; rfl)
                      have hde : decide (d = ⟨#[]⟩) = false := decide_eq_false hdn
                      go_wp2
                      go_ret
                      exact ⟨ret_b (by rw [HF2.out, decide_eq_false hs]; exact List.isEmpty_eq_false_iff.2 hdt), HD.out⟩
set_option maxRecDepth 100000 in
set_option maxHeartbeats 1000000 in
theorem rcheck_any (k pt b r m st ix tt sm : Int) (d : ByteArray) (w : World) (hd : d.size ≤ 9223372036854775807) (h1 : -9223372036854775808 ≤ tt) (h2 : tt ≤ 9223372036854775807) : Calls Tryz.prog 20 #[.agg #[.int .i64 k, .int .i64 pt, .int .i64 b, .int .i64 r, .int .i64 m, .int .i64 st, .int .i64 ix, .int .i64 tt, .int .u32 sm, .string d]] w fun e w' => e = .returned (.int .i64 (chk ⟨k, pt, b, r, m, st, ix, tt, sm, d⟩ : Int)) ∧ Below w.heap.size w w' := by
  obtain ⟨W, hW, B0, D0⟩ := box1 w [.int .i64 k, .int .i64 pt, .int .i64 b, .int .i64 r, .int .i64 m, .int .i64 st, .int .i64 ix, .int .i64 tt, .int .u32 sm, .string d] 33
  have HB0 := hide B0
  have HD := hide D0
  have HWD := hide hW
  have H1 := hide (fun w' => rranges_any k pt b r m st ix tt sm d w' hd h1 h2)
  obtain ⟨R, hR⟩ : ∃ R, chk ⟨k, pt, b, r, m, st, ix, tt, sm, d⟩ = R := ⟨_, rfl⟩
  rw [hR]
  have HR : Hid (R = if k < 1 ∨ 7 < k then 7 else if rgs ⟨k, pt, b, r, m, st, ix, tt, sm, d⟩ = true then 0 else 4) := by rw [← hR]; rfl
  clear B0 D0 hW hR h1 h2 hd
  go_enter Tryz.func20, Tryz.ntmps20
  go_upto_region 1 with fail
  have hW := HWD.out
  simp only [hW]
  clear hW HWD
  have g0 := HB0.out.cell 0 rfl
  have g1 := HB0.out.cell 1 rfl
  have g2 := HB0.out.cell 2 rfl
  have g3 := HB0.out.cell 3 rfl
  have g4 := HB0.out.cell 4 rfl
  have g5 := HB0.out.cell 5 rfl
  have g6 := HB0.out.cell 6 rfl
  have g7 := HB0.out.cell 7 rfl
  have g8 := HB0.out.cell 8 rfl
  have g9 := HB0.out.cell 9 rfl
  by_cases hk : k < 1 ∨ 7 < k
  · have HF : Hid (R = 7) := by rw [HR.out]; exact if_pos hk
    clear HR H1
    by_cases hk1 : k < 1
    · go_wp2
      go_ret
      exact ⟨by rw [HF.out]; rfl, HD.out⟩
    · have hk7 : 7 < k := by omega
      clear hk
      go_wp2
      go_ret
      exact ⟨by rw [HF.out]; rfl, HD.out⟩
  · have HF : Hid (R = if rgs ⟨k, pt, b, r, m, st, ix, tt, sm, d⟩ = true then 0 else 4) := by rw [HR.out]; exact if_neg hk
    have hk1 : ¬ k < 1 := by omega
    have hk7 : ¬ 7 < k := by omega
    clear HR hk
    obtain ⟨X, hX⟩ : ∃ X, rgs ⟨k, pt, b, r, m, st, ix, tt, sm, d⟩ = X := ⟨_, rfl⟩
    rw [hX] at HF H1
    clear hX
    go_upto_region 3 with fail
    go_wp2_with fail
    refine Calls.mono (H1.out _) ?_
    rintro e w1 ⟨rfl, b1⟩
    replace HD := hide (chain HD.out b1)
    clear b1 H1 g0 g1 g2 g3 g4 g5 g6 g7 g8 g9
    cases X with
    | true =>
      go_wp2
      go_ret
      exact ⟨by rw [HF.out]; rfl, HD.out⟩
    | false =>
      go_wp2
      go_ret
      exact ⟨by rw [HF.out]; rfl, HD.out⟩
set_option maxRecDepth 100000 in
set_option maxHeartbeats 1000000 in
theorem rchunk_any (k pt b r m st ix tt sm : Int) (d : ByteArray) (w : World) (hd : d.size ≤ 9223372036854775807) (h1 : -9223372036854775808 ≤ tt) (h2 : tt ≤ 9223372036854775807) : Calls Tryz.prog 25 #[.agg #[.int .i64 k, .int .i64 pt, .int .i64 b, .int .i64 r, .int .i64 m, .int .i64 st, .int .i64 ix, .int .i64 tt, .int .u32 sm, .string d]] w fun e w' => e = .returned (.int .i64 (begE ⟨k, pt, b, r, m, st, ix, tt, sm, d⟩ : Int)) ∧ Below w.heap.size w w' := by
  obtain ⟨W, hW, B0, D0⟩ := box1 w [.int .i64 k, .int .i64 pt, .int .i64 b, .int .i64 r, .int .i64 m, .int .i64 st, .int .i64 ix, .int .i64 tt, .int .u32 sm, .string d] 33
  have HB0 := hide B0
  have HD := hide D0
  have HWD := hide hW
  have H1 := hide (fun w' => rcheck_any k pt b r m st ix tt sm d w' hd h1 h2)
  obtain ⟨R, hR⟩ : ∃ R, begE ⟨k, pt, b, r, m, st, ix, tt, sm, d⟩ = R := ⟨_, rfl⟩
  rw [hR]
  have HR : Hid (R = if chk ⟨k, pt, b, r, m, st, ix, tt, sm, d⟩ = 0 then (if k = 1 then 0 else 7) else chk ⟨k, pt, b, r, m, st, ix, tt, sm, d⟩) := by rw [← hR]; rfl
  clear B0 D0 hW hR h1 h2 hd
  go_enter Tryz.func25, Tryz.ntmps25
  go_upto_region 1 with fail
  have hW := HWD.out
  simp only [hW]
  clear hW HWD
  have g0 := HB0.out.cell 0 rfl
  have g1 := HB0.out.cell 1 rfl
  have g2 := HB0.out.cell 2 rfl
  have g3 := HB0.out.cell 3 rfl
  have g4 := HB0.out.cell 4 rfl
  have g5 := HB0.out.cell 5 rfl
  have g6 := HB0.out.cell 6 rfl
  have g7 := HB0.out.cell 7 rfl
  have g8 := HB0.out.cell 8 rfl
  have g9 := HB0.out.cell 9 rfl
  obtain ⟨X, hX⟩ : ∃ X, chk ⟨k, pt, b, r, m, st, ix, tt, sm, d⟩ = X := ⟨_, rfl⟩
  rw [hX] at HR H1
  clear hX
  go_wp2_with fail
  refine Calls.mono (H1.out _) ?_
  rintro e w1 ⟨rfl, b1⟩
  replace HD := hide (chain HD.out b1)
  replace HB0 := hide (HB0.out.below b1)
  clear b1 H1 g0 g1 g2 g3 g4 g5 g6 g7 g8 g9
  have g0 := HB0.out.cell 0 rfl
  by_cases hx : X = 0
  · subst hx
    by_cases hk : k = 1
    · subst hk
      go_wp2
      go_ret
      exact ⟨by rw [HR.out]; rfl, HD.out⟩
    · have e1 : (k == 1) = false := by simpa using hk
      have e2 : (k != 1) = true := by simpa using hk
      have HF : Hid (R = 7) := by rw [HR.out, if_pos rfl]; exact if_neg hk
      clear hk HR
      go_wp2
      go_ret
      exact ⟨by rw [HF.out]; rfl, HD.out⟩
  · have HF : Hid (R = X) := by rw [HR.out]; exact if_neg hx
    have e1 : (((X : Nat) : Int) == 0) = false := by simp; omega
    have e2 : (((X : Nat) : Int) != 0) = true := by simp; omega
    clear hx HR
    go_wp2
    go_ret
    exact ⟨by rw [HF.out]; rfl, HD.out⟩
end Go.Proofs.YtdbciciljeainaaGreatDoor
