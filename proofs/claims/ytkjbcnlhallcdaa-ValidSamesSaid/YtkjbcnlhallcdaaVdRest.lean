/-
  The document's rest: are two states the same in all but Epoch and pages?
-/
import Derived.Test.YtkjbcnlhallcdaaVdInts
import Derived.Test.YtkjbcnlhallcdaaVsSame
import Derived.Deep.Cut
namespace Go.Proofs.Ytkjbcnlhallcdaa
open Go.RowKit FerryCrc
set_option linter.unusedVariables false
set_option linter.unusedSimpArgs false

theorem cellV {w w' : World} {p : Addr} {v : Value} (h : w.cell? p = some v) (hb : Below w.heap.size w w') : w'.cell? p = some v := (hb.cell (block_lt_of_cell h)).trans h
set_option maxRecDepth 100000 in
set_option maxHeartbeats 8000000 in
theorem rest_any (s t : Sk) (cs cs' : List Value) (w : World) (hs : Sv w cs s) (hs' : Sv w cs' t) :
    Calls Try.prog 16 #[.agg cs.toArray, .agg cs'.toArray] w fun e w' => e = .returned (.bool (eqb Classical.propDecidable (s.but t))) ∧ Below w.heap.size w w' := by
  obtain ⟨id, frame, epoch, procs, ready, timers, up, sems, ports, pages⟩ := s
  obtain ⟨id', frame', epoch', procs', ready', timers', up', sems', ports', pages'⟩ := t
  obtain ⟨xa3, xn3, xc3, xa4, xn4, xc4, xa5, xn5, xc5, xa6, xn6, xc6, xa7, xn7, xc7, xa8, xn8, xc8, xa9, xn9, xc9, xe, xh3, xh4, xh5, xh6, xh7, xh8, xh9⟩ := hs
  obtain ⟨ya3, yn3, yc3, ya4, yn4, yc4, ya5, yn5, yc5, ya6, yn6, yc6, ya7, yn7, yc7, ya8, yn8, yc8, ya9, yn9, yc9, ye, yh3, yh4, yh5, yh6, yh7, yh8, yh9⟩ := hs'
  have n1 := rangeNew w cs 29
  have n1b := vrange_below n1 (one_below (w.alloc (.cells cs.toArray 29)) (.cells cs'.toArray 29))
  have n2 := rangeNew (w.alloc (.cells cs.toArray 29)) cs' 29
  have hsz : (w.alloc (.cells cs.toArray 29)).heap.size = w.heap.size + 1 := by simp
  rw [hsz] at n2
  have HB0 := hide (two_below w (.cells cs.toArray 29) (.cells cs'.toArray 29))
  have N1 := hide n1b
  have N2 := hide n2
  have XE := hide xe
  have YE := hide ye
  have XH3 := hide (xh3.below HB0.out)
  have YH3 := hide (yh3.below HB0.out)
  have XH4 := hide (xh4.below HB0.out)
  have YH4 := hide (yh4.below HB0.out)
  have XH5 := hide (xh5.below HB0.out)
  have YH5 := hide (yh5.below HB0.out)
  have XH6 := hide (xh6.below HB0.out)
  have YH6 := hide (yh6.below HB0.out)
  have XH7 := hide (xh7.below HB0.out)
  have YH7 := hide (yh7.below HB0.out)
  have XH8 := hide (xh8.below HB0.out)
  have YH8 := hide (yh8.below HB0.out)
  have XH9 := hide (xh9.below HB0.out)
  have YH9 := hide (yh9.below HB0.out)
  have xm3 := xh3.most
  have xm5 := xh5.most
  have xm6 := xh6.most
  have xm8 := xh8.most
  have ym3 := yh3.most
  have ym5 := yh5.most
  have ym6 := yh6.most
  have ym8 := yh8.most
  have xz3 := hide xh3.size
  have yz3 := hide yh3.size
  have xz5 := hide xh5.size
  have yz5 := hide yh5.size
  have xz6 := hide xh6.size
  have yz6 := hide yh6.size
  have xz8 := hide xh8.size
  have yz8 := hide yh8.size
  clear xh3 yh3 xh4 yh4 xh5 yh5 xh6 yh6 xh7 yh7 xh8 yh8 xh9 yh9 xe ye n1 n1b n2 hsz
  go_enter Try.func16, Try.ntmps16
  go_upto_region 1 with fail
  generalize (w.alloc (.cells cs.toArray 29)).alloc (.cells cs'.toArray 29) = W0 at *
  have d0x : W0.cell? ⟨w.heap.size, 0, none⟩ = some (.int .i64 id) := by have h := N1.out 0 _ (by rw [XE.out]; rfl); rw [Nat.zero_add] at h; exact h
  have d0y : W0.cell? ⟨w.heap.size + 1, 0, none⟩ = some (.int .i64 id') := by have h := N2.out 0 _ (by rw [YE.out]; rfl); rw [Nat.zero_add] at h; exact h
  have d1x : W0.cell? ⟨w.heap.size, 1, none⟩ = some (.int .i64 frame) := by have h := N1.out 1 _ (by rw [XE.out]; rfl); rw [Nat.zero_add] at h; exact h
  have d1y : W0.cell? ⟨w.heap.size + 1, 1, none⟩ = some (.int .i64 frame') := by have h := N2.out 1 _ (by rw [YE.out]; rfl); rw [Nat.zero_add] at h; exact h
  have d3x : W0.cell? ⟨w.heap.size, 3, none⟩ = some (.slice xa3 xn3 xc3) := by have h := N1.out 3 _ (by rw [XE.out]; rfl); rw [Nat.zero_add] at h; exact h
  have d3y : W0.cell? ⟨w.heap.size + 1, 3, none⟩ = some (.slice ya3 yn3 yc3) := by have h := N2.out 3 _ (by rw [YE.out]; rfl); rw [Nat.zero_add] at h; exact h
  have d5x : W0.cell? ⟨w.heap.size, 5, none⟩ = some (.slice xa5 xn5 xc5) := by have h := N1.out 5 _ (by rw [XE.out]; rfl); rw [Nat.zero_add] at h; exact h
  have d5y : W0.cell? ⟨w.heap.size + 1, 5, none⟩ = some (.slice ya5 yn5 yc5) := by have h := N2.out 5 _ (by rw [YE.out]; rfl); rw [Nat.zero_add] at h; exact h
  have d6x : W0.cell? ⟨w.heap.size, 6, none⟩ = some (.slice xa6 xn6 xc6) := by have h := N1.out 6 _ (by rw [XE.out]; rfl); rw [Nat.zero_add] at h; exact h
  have d6y : W0.cell? ⟨w.heap.size + 1, 6, none⟩ = some (.slice ya6 yn6 yc6) := by have h := N2.out 6 _ (by rw [YE.out]; rfl); rw [Nat.zero_add] at h; exact h
  have d8x : W0.cell? ⟨w.heap.size, 8, none⟩ = some (.slice xa8 xn8 xc8) := by have h := N1.out 8 _ (by rw [XE.out]; rfl); rw [Nat.zero_add] at h; exact h
  have d8y : W0.cell? ⟨w.heap.size + 1, 8, none⟩ = some (.slice ya8 yn8 yc8) := by have h := N2.out 8 _ (by rw [YE.out]; rfl); rw [Nat.zero_add] at h; exact h
  by_cases hqid : id = id'
  · subst hqid
    by_cases hqframe : frame = frame'
    · subst hqframe
      by_cases hq3 : xn3 = yn3
      · subst hq3
        by_cases hq5 : xn5 = yn5
        · subst hq5
          by_cases hq6 : xn6 = yn6
          · subst hq6
            by_cases hq8 : xn8 = yn8
            · subst hq8
              go_wp2
              clear d0x d0y d1x d1y d3x d3y d5x d5y d6x d6y d8x d8y
              have BW : Hid (Below W0.heap.size W0 W0) := Below.refl _ _
              go_loopw [5] (fun i wr => ∃ k : Nat, k ≤ xn3 ∧ i = .int .i64 k ∧ Hid (Below W0.heap.size W0 wr) ∧ Hid (procs.take k = procs'.take k)) (fun i _ => xn3 - (intOf i).toNat)
              case atStart => exact ⟨0, by omega, rfl, BW.out, rfl⟩
              case round =>
                obtain ⟨k, hk, rfl, hb, HQ⟩ := hrel
                have d3x : wr.cell? ⟨w.heap.size, 3, none⟩ = some (.slice xa3 xn3 xc3) := by have h := (vrange_below N1.out hb.out) 3 _ (by rw [XE.out]; rfl); rw [Nat.zero_add] at h; exact h
                have d3y : wr.cell? ⟨w.heap.size + 1, 3, none⟩ = some (.slice ya3 xn3 yc3) := by have h := (vrange_below N2.out hb.out) 3 _ (by rw [YE.out]; rfl); rw [Nat.zero_add] at h; exact h
                by_cases hlt : k < xn3
                · obtain ⟨l1, b, off, row, D1, hl1, e1, hr1, hz1, hk1⟩ := (XH3.out.below hb.out).at hlt
                  obtain ⟨l2, b', off', row', D2, hl2, e2, hr2, hz2, hk2⟩ := (YH3.out.below hb.out).at hlt
                  subst e1 e2
                  have hne : ∀ w, (binOp .neq 52 (.agg row.toArray) (.agg row'.toArray)).run Try.prog w = .ok (.bool (!eqb Classical.propDecidable (l1 = l2))) w := fun w => neq_keys (m := 4) (by kernel_rfl) (by decide) (formed_proc hz1) (formed_proc hz2) hk1 hk2 w
                  have hu41 := Try.underlying52
                  have hi1 : (Try.prog.info? 52).map (·.size) = some row.length := by rw [hz1]; exact info_proc
                  have hi2 : (Try.prog.info? 52).map (·.size) = some row'.length := by rw [hz2]; exact info_proc
                  have HL1 := hide hl1
                  have HL2 := hide hl2
                  clear hl1 hl2 hk1 hk2 hz1 hz2
                  obtain ⟨r, hr⟩ : ∃ r, (!eqb Classical.propDecidable (l1 = l2)) = r := ⟨_, rfl⟩
                  rw [hr] at hne
                  have HRR := hide hr
                  clear hr
                  go_wp2
                  refine wp_region_quiet_lit (by kernel_rfl) (by kernel_rfl) ?_
                  repeat (first
                    | (go_big_quiet_want; refine quiet_load_mid 52 (.tmp 68) rfl b (off + k * 21) rfl row _ hr1 hu41 rfl hi1 ?_; simp only [Act.put, List.setIfInBounds_toArray, List.set_cons_succ, List.set_cons_zero]; go_big_quiet_on)
                    | (go_big_quiet_want; refine quiet_load_mid 52 (.tmp 73) rfl b' (off' + k * 21) rfl row' _ hr2 hu41 rfl hi2 ?_; simp only [Act.put, List.setIfInBounds_toArray, List.set_cons_succ, List.set_cons_zero]; go_big_quiet_on)
                    | (go_big_quiet_want; refine quiet_neq 52 52 (.tmp 69) (.tmp 74) rfl _ _ rfl rfl (by kernel_rfl) _ hne ?_; simp only [Act.put, List.setIfInBounds_toArray, List.set_cons_succ, List.set_cons_zero]; go_big_quiet_on)
                    | go_big_quiet_step (fail))
                  refine wpQuiet_nil ?_
                  intro _ hw'
                  obtain ⟨nq, rfl⟩ := hw'
                  clear hne hr1 hr2 hu41 hi1 hi2 d3x d3y
                  cases r
                  · have he : l1 = l2 := eqb_iff.1 (by simpa using HRR.out)
                    subst he
                    go_wp2
                    go_roundw
                    case rel => exact ⟨k + 1, by omega, by go_num, vdrewN_below hb.out nq, by unfold Hid; rw [take_nextK HL1.out, take_nextK HL2.out, HQ.out]⟩
                    case measure => simp [intOf]; omega
                  · have he : ¬ l1 = l2 := fun e => by have h := HRR.out; rw [eqb_yes e] at h; exact absurd h (by decide)
                    have hno : ¬ procs = procs' := fun e => by have h1 := HL1.out; rw [e, HL2.out] at h1; exact he (Option.some.inj h1).symm
                    go_wp2
                    go_ret
                    exact ⟨ret_bool (by symm; refine eqb_no ?_; exact fun h => hno h.2.2.1), chain HB0.out (vdrewN_below hb.out nq)⟩
                · obtain rfl : k = xn3 := by omega
                  have E3 : Hid (procs = procs') := by
                    have h := HQ.out
                    rw [List.take_of_length_le (by rw [XH3.out.size]; omega), List.take_of_length_le (by rw [YH3.out.size]; omega)] at h
                    exact h
                  clear HQ hlt hk
                  have B3 := hide hb.out
                  clear hb
                  obtain ⟨w3, hw3⟩ : ∃ W, W = wr := ⟨_, rfl⟩
                  subst hw3
                  go_wp2
                  go_loopw [6] (fun i wr => ∃ k : Nat, k ≤ xn5 ∧ i = .int .i64 k ∧ Hid (Below W0.heap.size W0 wr) ∧ Hid (timers.take k = timers'.take k)) (fun i _ => xn5 - (intOf i).toNat)
                  case atStart => exact ⟨0, by omega, rfl, B3.out, rfl⟩
                  case round =>
                    obtain ⟨k, hk, rfl, hb, HQ⟩ := hrel
                    have d5x : wr.cell? ⟨w.heap.size, 5, none⟩ = some (.slice xa5 xn5 xc5) := by have h := (vrange_below N1.out hb.out) 5 _ (by rw [XE.out]; rfl); rw [Nat.zero_add] at h; exact h
                    have d5y : wr.cell? ⟨w.heap.size + 1, 5, none⟩ = some (.slice ya5 xn5 yc5) := by have h := (vrange_below N2.out hb.out) 5 _ (by rw [YE.out]; rfl); rw [Nat.zero_add] at h; exact h
                    by_cases hlt : k < xn5
                    · obtain ⟨l1, b, off, row, D1, hl1, e1, hr1, hz1, hk1⟩ := (XH5.out.below hb.out).at hlt
                      obtain ⟨l2, b', off', row', D2, hl2, e2, hr2, hz2, hk2⟩ := (YH5.out.below hb.out).at hlt
                      subst e1 e2
                      have hne : ∀ w, (binOp .neq 67 (.agg row.toArray) (.agg row'.toArray)).run Try.prog w = .ok (.bool (!eqb Classical.propDecidable (l1 = l2))) w := fun w => neq_keys (m := 4) (by kernel_rfl) (by decide) (formed_timer hz1) (formed_timer hz2) hk1 hk2 w
                      have hu41 := Try.underlying67
                      have hi1 : (Try.prog.info? 67).map (·.size) = some row.length := by rw [hz1]; exact info_timer
                      have hi2 : (Try.prog.info? 67).map (·.size) = some row'.length := by rw [hz2]; exact info_timer
                      have HL1 := hide hl1
                      have HL2 := hide hl2
                      clear hl1 hl2 hk1 hk2 hz1 hz2
                      obtain ⟨r, hr⟩ : ∃ r, (!eqb Classical.propDecidable (l1 = l2)) = r := ⟨_, rfl⟩
                      rw [hr] at hne
                      have HRR := hide hr
                      clear hr
                      go_wp2
                      refine wp_region_quiet_lit (by kernel_rfl) (by kernel_rfl) ?_
                      repeat (first
                        | (go_big_quiet_want; refine quiet_load_mid 67 (.tmp 86) rfl b (off + k * 2) rfl row _ hr1 hu41 rfl hi1 ?_; simp only [Act.put, List.setIfInBounds_toArray, List.set_cons_succ, List.set_cons_zero]; go_big_quiet_on)
                        | (go_big_quiet_want; refine quiet_load_mid 67 (.tmp 91) rfl b' (off' + k * 2) rfl row' _ hr2 hu41 rfl hi2 ?_; simp only [Act.put, List.setIfInBounds_toArray, List.set_cons_succ, List.set_cons_zero]; go_big_quiet_on)
                        | (go_big_quiet_want; refine quiet_neq 67 67 (.tmp 87) (.tmp 92) rfl _ _ rfl rfl (by kernel_rfl) _ hne ?_; simp only [Act.put, List.setIfInBounds_toArray, List.set_cons_succ, List.set_cons_zero]; go_big_quiet_on)
                        | go_big_quiet_step (fail))
                      refine wpQuiet_nil ?_
                      intro _ hw'
                      obtain ⟨nq, rfl⟩ := hw'
                      clear hne hr1 hr2 hu41 hi1 hi2 d5x d5y
                      cases r
                      · have he : l1 = l2 := eqb_iff.1 (by simpa using HRR.out)
                        subst he
                        go_wp2
                        go_roundw
                        case rel => exact ⟨k + 1, by omega, by go_num, vdrewN_below hb.out nq, by unfold Hid; rw [take_nextK HL1.out, take_nextK HL2.out, HQ.out]⟩
                        case measure => simp [intOf]; omega
                      · have he : ¬ l1 = l2 := fun e => by have h := HRR.out; rw [eqb_yes e] at h; exact absurd h (by decide)
                        have hno : ¬ timers = timers' := fun e => by have h1 := HL1.out; rw [e, HL2.out] at h1; exact he (Option.some.inj h1).symm
                        go_wp2
                        go_ret
                        exact ⟨ret_bool (by symm; refine eqb_no ?_; exact fun h => hno h.2.2.2.2.1), chain HB0.out (vdrewN_below hb.out nq)⟩
                    · obtain rfl : k = xn5 := by omega
                      have E5 : Hid (timers = timers') := by
                        have h := HQ.out
                        rw [List.take_of_length_le (by rw [XH5.out.size]; omega), List.take_of_length_le (by rw [YH5.out.size]; omega)] at h
                        exact h
                      clear HQ hlt hk
                      have B5 := hide hb.out
                      clear hb
                      obtain ⟨w5, hw5⟩ : ∃ W, W = wr := ⟨_, rfl⟩
                      subst hw5
                      go_wp2
                      go_loopw [7] (fun i wr => ∃ k : Nat, k ≤ xn6 ∧ i = .int .i64 k ∧ Hid (Below W0.heap.size W0 wr) ∧ Hid (up.take k = up'.take k)) (fun i _ => xn6 - (intOf i).toNat)
                      case atStart => exact ⟨0, by omega, rfl, B5.out, rfl⟩
                      case round =>
                        obtain ⟨k, hk, rfl, hb, HQ⟩ := hrel
                        have d6x : wr.cell? ⟨w.heap.size, 6, none⟩ = some (.slice xa6 xn6 xc6) := by have h := (vrange_below N1.out hb.out) 6 _ (by rw [XE.out]; rfl); rw [Nat.zero_add] at h; exact h
                        have d6y : wr.cell? ⟨w.heap.size + 1, 6, none⟩ = some (.slice ya6 xn6 yc6) := by have h := (vrange_below N2.out hb.out) 6 _ (by rw [YE.out]; rfl); rw [Nat.zero_add] at h; exact h
                        by_cases hlt : k < xn6
                        · obtain ⟨l1, b, off, row, D1, hl1, e1, hr1, hz1, hk1⟩ := (XH6.out.below hb.out).at hlt
                          obtain ⟨l2, b', off', row', D2, hl2, e2, hr2, hz2, hk2⟩ := (YH6.out.below hb.out).at hlt
                          subst e1 e2
                          obtain ⟨x, rfl, rfl⟩ := keyLits_bool' Try.underlying4 hk1
                          obtain ⟨y, rfl, rfl⟩ := keyLits_bool' Try.underlying4 hk2
                          have cx := hr1 0 _ rfl
                          have cy := hr2 0 _ rfl
                          rw [Nat.mul_one, Nat.add_zero] at cx cy
                          have HL1 := hide hl1
                          have HL2 := hide hl2
                          clear hl1 hl2 hk1 hk2 hz1 hz2 hr1 hr2
                          by_cases hxy : x = y
                          · subst hxy
                            go_wp2
                            refine wp_region_quiet_lit (by kernel_rfl) (by kernel_rfl) ?_
                            repeat (go_big_quiet_step (fail))
                            refine wpQuiet_nil ?_
                            intro _ hw'
                            obtain ⟨nq, rfl⟩ := hw'
                            clear cx cy d6x d6y
                            go_wp2
                            go_roundw
                            case rel => exact ⟨k + 1, by omega, by go_num, vdrewN_below hb.out nq, by unfold Hid; rw [take_nextK HL1.out, take_nextK HL2.out, HQ.out]⟩
                            case measure => simp [intOf]; omega
                          · have hno : ¬ up = up' := fun e => by have h1 := HL1.out; rw [e, HL2.out] at h1; exact hxy (by simpa using (Option.some.inj h1).symm)
                            cases x <;> cases y <;> first | exact absurd rfl hxy | skip
                            all_goals go_wp2
                            all_goals refine wp_region_quiet_lit (by kernel_rfl) (by kernel_rfl) ?_
                            all_goals repeat (go_big_quiet_step (fail))
                            all_goals refine wpQuiet_nil ?_
                            all_goals intro _ hw'
                            all_goals obtain ⟨nq, rfl⟩ := hw'
                            all_goals clear cx cy d6x d6y
                            all_goals go_wp2
                            all_goals go_ret
                            all_goals exact ⟨ret_bool (by symm; refine eqb_no ?_; exact fun h => hno h.2.2.2.2.2.1), chain HB0.out (vdrewN_below hb.out nq)⟩
                        · obtain rfl : k = xn6 := by omega
                          have E6 : Hid (up = up') := by
                            have h := HQ.out
                            rw [List.take_of_length_le (by rw [XH6.out.size]; omega), List.take_of_length_le (by rw [YH6.out.size]; omega)] at h
                            exact h
                          clear HQ hlt hk
                          have B6 := hide hb.out
                          clear hb
                          obtain ⟨w6, hw6⟩ : ∃ W, W = wr := ⟨_, rfl⟩
                          subst hw6
                          go_wp2
                          go_loopw [8] (fun i wr => ∃ k : Nat, k ≤ xn8 ∧ i = .int .i64 k ∧ Hid (Below W0.heap.size W0 wr) ∧ Hid (ports.take k = ports'.take k)) (fun i _ => xn8 - (intOf i).toNat)
                          case atStart => exact ⟨0, by omega, rfl, B6.out, rfl⟩
                          case round =>
                            obtain ⟨k, hk, rfl, hb, HQ⟩ := hrel
                            have d8x : wr.cell? ⟨w.heap.size, 8, none⟩ = some (.slice xa8 xn8 xc8) := by have h := (vrange_below N1.out hb.out) 8 _ (by rw [XE.out]; rfl); rw [Nat.zero_add] at h; exact h
                            have d8y : wr.cell? ⟨w.heap.size + 1, 8, none⟩ = some (.slice ya8 xn8 yc8) := by have h := (vrange_below N2.out hb.out) 8 _ (by rw [YE.out]; rfl); rw [Nat.zero_add] at h; exact h
                            by_cases hlt : k < xn8
                            · obtain ⟨g1, K1, b, off, x1, m1, c1, row, hl1, e1, hrow, hr1, v1⟩ := (XH8.out.below hb.out).at hlt
                              obtain ⟨g2, K2, b', off', x2, m2, c2, row', hl2, e2, hrow', hr2, v2⟩ := (YH8.out.below hb.out).at hlt
                              subst e1 e2 hrow hrow'
                              have p0 := hr1 0 _ rfl
                              have p1 := hr1 1 _ rfl
                              have q0 := hr2 0 _ rfl
                              have q1 := hr2 1 _ rfl
                              rw [Nat.add_zero] at p0 q0
                              have HL1 := hide hl1
                              have HL2 := hide hl2
                              have V1 := hide v1
                              have V2 := hide v2
                              have vm1 := v1.most
                              have vm2 := v2.most
                              have P0 := hide p0
                              have Q0 := hide q0
                              clear hl1 hl2 hr1 hr2 v1 v2
                              by_cases hg : g1 = g2
                              · subst hg
                                by_cases hm : m1 = m2
                                · subst hm
                                  go_wp2
                                  refine wp_region_quiet_lit (by kernel_rfl) (by kernel_rfl) ?_
                                  repeat (go_big_quiet_step (fail))
                                  refine wpQuiet_nil ?_
                                  intro _ hw'
                                  obtain ⟨nq, rfl⟩ := hw'
                                  clear p0 p1 q0 q1 d8x d8y
                                  have D1 := hide (vdrewN_below hb.out nq)
                                  have F1 : Hid (Below wr.heap.size wr (wr.drewN nq)) := vdrewN_below (Below.refl _ _) nq
                                  obtain ⟨WO, hWO⟩ : ∃ W, W = wr := ⟨_, rfl⟩
                                  subst hWO
                                  go_wp2
                                  go_loopw [9] (fun i wx => ∃ j : Nat, j ≤ m1 ∧ i = .int .i64 j ∧ Hid (Below WO.heap.size WO wx) ∧ Hid (K1.take j = K2.take j)) (fun i _ => m1 - (intOf i).toNat)
                                  case atStart => exact ⟨0, by omega, rfl, F1.out, rfl⟩
                                  case round =>
                                    clear D1 F1
                                    obtain ⟨j, hj, rfl, hbj, HQJ⟩ := hrel
                                    have hbw := hide (chain hb.out hbj.out)
                                    have d8x : wr.cell? ⟨w.heap.size, 8, none⟩ = some (.slice (some ⟨b, off, none⟩) xn8 xc8) := by have h := (vrange_below N1.out hbw.out) 8 _ (by rw [XE.out]; rfl); rw [Nat.zero_add] at h; exact h
                                    have d8y : wr.cell? ⟨w.heap.size + 1, 8, none⟩ = some (.slice (some ⟨b', off', none⟩) xn8 yc8) := by have h := (vrange_below N2.out hbw.out) 8 _ (by rw [YE.out]; rfl); rw [Nat.zero_add] at h; exact h
                                    have p0 := cellV P0.out hbj.out
                                    have q0 := cellV Q0.out hbj.out
                                    by_cases hjl : j < m1
                                    · obtain ⟨l1, bs, offs, rows, D1, hl1, e1, hr1, hz1, hk1⟩ := (V1.out.below hbj.out).at hjl
                                      obtain ⟨l2, bs', offs', rows', D2, hl2, e2, hr2, hz2, hk2⟩ := (V2.out.below hbj.out).at hjl
                                      subst e1 e2
                                      obtain ⟨x, rfl, rfl⟩ := keyLits_string' Try.underlying9 hk1
                                      obtain ⟨y, rfl, rfl⟩ := keyLits_string' Try.underlying9 hk2
                                      have cx := hr1 0 _ rfl
                                      have cy := hr2 0 _ rfl
                                      rw [Nat.mul_one, Nat.add_zero] at cx cy
                                      have HM1 := hide hl1
                                      have HM2 := hide hl2
                                      clear hl1 hl2 hk1 hk2 hz1 hz2 hr1 hr2
                                      by_cases hxy : x = y
                                      · subst hxy
                                        go_wp2
                                        refine wp_region_quiet_lit (by kernel_rfl) (by kernel_rfl) ?_
                                        repeat (go_big_quiet_step (fail))
                                        refine wpQuiet_nil ?_
                                        intro _ hw'
                                        obtain ⟨nq, rfl⟩ := hw'
                                        clear cx cy p0 q0 d8x d8y
                                        go_wp2
                                        go_roundw
                                        case rel => exact ⟨j + 1, by omega, by go_num, vdrewN_below hbj.out nq, by unfold Hid; rw [take_nextK HM1.out, take_nextK HM2.out, HQJ.out]⟩
                                        case measure => simp [intOf]; omega
                                      · have hne : (x.toList == y.toList) = false := beq_eq_false_iff_ne.2 (fun e => hxy (by rw [ByteArray.toList_eq, ByteArray.toList_eq] at e; exact ByteArray.ext (Array.ext' e)))
                                        have hnk : ¬ K1 = K2 := fun e => by have h1 := HM1.out; rw [e, HM2.out] at h1; exact hxy (by have h2 : x.data.toList = y.data.toList := (by simpa using (Option.some.inj h1).symm); exact ByteArray.ext (Array.ext' h2))
                                        have hno : ¬ ports = ports' := fun e => by have h1 := HL1.out; rw [e, HL2.out] at h1; exact hnk (by have := Option.some.inj h1; exact (Prod.mk.inj this).2.symm)
                                        go_wp2
                                        refine wp_region_quiet_lit (by kernel_rfl) (by kernel_rfl) ?_
                                        repeat (go_big_quiet_step (fail))
                                        refine wpQuiet_nil ?_
                                        intro _ hw'
                                        obtain ⟨nq, rfl⟩ := hw'
                                        clear cx cy p0 q0 d8x d8y
                                        go_wp2
                                        go_ret
                                        exact ⟨ret_bool (by symm; refine eqb_no ?_; exact fun h => hno h.2.2.2.2.2.2.2), chain HB0.out (vdrewN_below hbw.out nq)⟩
                                    · obtain rfl : j = m1 := by omega
                                      have EK : K1 = K2 := by
                                        have h := HQJ.out
                                        rw [List.take_of_length_le (by rw [V1.out.size]; omega), List.take_of_length_le (by rw [V2.out.size]; omega)] at h
                                        exact h
                                      subst EK
                                      clear hjl hj
                                      go_wp2
                                      go_roundw
                                      case rel => exact ⟨k + 1, by omega, by go_num, hbw.out, by unfold Hid; rw [take_nextK HL1.out, take_nextK HL2.out, HQ.out]⟩
                                      case measure => simp [intOf]; omega
                                · have hne : ((m1 : Int) != (m2 : Int)) = true := by simp; omega
                                  have hno : ¬ ports = ports' := fun e => by have h1 := HL1.out; rw [e, HL2.out] at h1; exact hm (by rw [← V1.out.size, ← V2.out.size]; have := Option.some.inj h1; rw [(Prod.mk.inj this).2])
                                  go_wp2
                                  refine wp_region_quiet_lit (by kernel_rfl) (by kernel_rfl) ?_
                                  repeat (go_big_quiet_step (fail))
                                  refine wpQuiet_nil ?_
                                  intro _ hw'
                                  obtain ⟨nq, rfl⟩ := hw'
                                  clear p0 p1 q0 q1 d8x d8y
                                  go_wp2
                                  go_ret
                                  exact ⟨ret_bool (by symm; refine eqb_no ?_; exact fun h => hno h.2.2.2.2.2.2.2), chain HB0.out (vdrewN_below hb.out nq)⟩
                              · have hne : (g1 == g2) = false := by rw [beq_eq_false_iff_ne]; exact hg
                                have hne2 : (g1 != g2) = true := by simpa using hg
                                have hno : ¬ ports = ports' := fun e => by have h1 := HL1.out; rw [e, HL2.out] at h1; exact hg (by have := Option.some.inj h1; exact (Prod.mk.inj this).1.symm)
                                go_wp2
                                refine wp_region_quiet_lit (by kernel_rfl) (by kernel_rfl) ?_
                                repeat (go_big_quiet_step (fail))
                                refine wpQuiet_nil ?_
                                intro _ hw'
                                obtain ⟨nq, rfl⟩ := hw'
                                clear p0 p1 q0 q1 d8x d8y
                                go_wp2
                                go_ret
                                exact ⟨ret_bool (by symm; refine eqb_no ?_; exact fun h => hno h.2.2.2.2.2.2.2), chain HB0.out (vdrewN_below hb.out nq)⟩
                            · obtain rfl : k = xn8 := by omega
                              have E8 : Hid (ports = ports') := by
                                have h := HQ.out
                                rw [List.take_of_length_le (by rw [XH8.out.size]; omega), List.take_of_length_le (by rw [YH8.out.size]; omega)] at h
                                exact h
                              clear HQ hlt hk
                              have d4x : wr.cell? ⟨w.heap.size, 4, none⟩ = some (.slice xa4 xn4 xc4) := by have h := (vrange_below N1.out hb.out) 4 _ (by rw [XE.out]; rfl); rw [Nat.zero_add] at h; exact h
                              have d4y : wr.cell? ⟨w.heap.size + 1, 4, none⟩ = some (.slice ya4 yn4 yc4) := by have h := (vrange_below N2.out hb.out) 4 _ (by rw [YE.out]; rfl); rw [Nat.zero_add] at h; exact h
                              have d7x : wr.cell? ⟨w.heap.size, 7, none⟩ = some (.slice xa7 xn7 xc7) := by have h := (vrange_below N1.out hb.out) 7 _ (by rw [XE.out]; rfl); rw [Nat.zero_add] at h; exact h
                              have d7y : wr.cell? ⟨w.heap.size + 1, 7, none⟩ = some (.slice ya7 yn7 yc7) := by have h := (vrange_below N2.out hb.out) 7 _ (by rw [YE.out]; rfl); rw [Nat.zero_add] at h; exact h
                              have C4 := hide (rints_any xa4 xn4 xc4 ready ya4 yn4 yc4 ready' wr (XH4.out.below hb.out) (YH4.out.below hb.out))
                              go_wp2_with fail
                              refine Calls.mono C4.out ?_
                              rintro e w4 ⟨rfl, b4⟩
                              have B4 := hide (chain hb.out b4)
                              generalize hq : eqb Classical.propDecidable (ready = ready') = r4 at *
                              have P4 := hide hq
                              clear hq d4x d4y d7x d7y d8x d8y b4 C4
                              cases r4
                              · go_wp2
                                go_ret
                                exact ⟨ret_bool (by symm; refine eqb_no ?_; exact fun h => by have h3 := P4.out; rw [eqb_yes h.2.2.2.1] at h3; exact absurd h3 (by decide)), chain HB0.out B4.out⟩
                              · have E4 := hide (eqb_iff.1 P4.out)
                                have d7x : w4.cell? ⟨w.heap.size, 7, none⟩ = some (.slice xa7 xn7 xc7) := by have h := (vrange_below N1.out B4.out) 7 _ (by rw [XE.out]; rfl); rw [Nat.zero_add] at h; exact h
                                have d7y : w4.cell? ⟨w.heap.size + 1, 7, none⟩ = some (.slice ya7 yn7 yc7) := by have h := (vrange_below N2.out B4.out) 7 _ (by rw [YE.out]; rfl); rw [Nat.zero_add] at h; exact h
                                have C7 := hide (rints_any xa7 xn7 xc7 sems ya7 yn7 yc7 sems' w4 (XH7.out.below B4.out) (YH7.out.below B4.out))
                                go_wp2_with fail
                                refine Calls.mono C7.out ?_
                                rintro e w7 ⟨rfl, b7⟩
                                have B7 := hide (chain B4.out b7)
                                clear d7x d7y b7 C7
                                go_wp2
                                go_ret
                                refine ⟨ret_bool (eqb_congr ?_), chain HB0.out B7.out⟩
                                exact ⟨fun h => ⟨rfl, rfl, E3.out, E4.out, E5.out, E6.out, h, E8.out⟩, fun h => h.2.2.2.2.2.2.1⟩
            · have hne : ((xn8 : Int) != (yn8 : Int)) = true := by simp; omega
              have HX : Hid (¬ ports = ports') := fun e => hq8 (by rw [← xz8.out, ← yz8.out, e])
              clear hq8
              go_wp2
              go_ret
              exact ⟨ret_bool (by symm; refine eqb_no ?_; exact fun h => HX.out h.2.2.2.2.2.2.2), HB0.out⟩
          · have hne : ((xn6 : Int) != (yn6 : Int)) = true := by simp; omega
            have HX : Hid (¬ up = up') := fun e => hq6 (by rw [← xz6.out, ← yz6.out, e])
            clear hq6
            go_wp2
            go_ret
            exact ⟨ret_bool (by symm; refine eqb_no ?_; exact fun h => HX.out h.2.2.2.2.2.1), HB0.out⟩
        · have hne : ((xn5 : Int) != (yn5 : Int)) = true := by simp; omega
          have HX : Hid (¬ timers = timers') := fun e => hq5 (by rw [← xz5.out, ← yz5.out, e])
          clear hq5
          go_wp2
          go_ret
          exact ⟨ret_bool (by symm; refine eqb_no ?_; exact fun h => HX.out h.2.2.2.2.1), HB0.out⟩
      · have hne : ((xn3 : Int) != (yn3 : Int)) = true := by simp; omega
        have HX : Hid (¬ procs = procs') := fun e => hq3 (by rw [← xz3.out, ← yz3.out, e])
        clear hq3
        go_wp2
        go_ret
        exact ⟨ret_bool (by symm; refine eqb_no ?_; exact fun h => HX.out h.2.2.1), HB0.out⟩
    · have hne : (frame == frame') = false := by rw [beq_eq_false_iff_ne]; exact hqframe
      have hne2 : (frame != frame') = true := by simpa using hqframe
      have HX : Hid (¬ frame = frame') := hqframe
      clear hqframe
      go_wp2
      go_ret
      exact ⟨ret_bool (by symm; refine eqb_no ?_; exact fun h => HX.out h.2.1), HB0.out⟩
  · have hne : (id == id') = false := by rw [beq_eq_false_iff_ne]; exact hqid
    have hne2 : (id != id') = true := by simpa using hqid
    have HX : Hid (¬ id = id') := hqid
    clear hqid
    go_wp2
    go_ret
    exact ⟨ret_bool (by symm; refine eqb_no ?_; exact fun h => HX.out h.1), HB0.out⟩
end Go.Proofs.Ytkjbcnlhallcdaa
