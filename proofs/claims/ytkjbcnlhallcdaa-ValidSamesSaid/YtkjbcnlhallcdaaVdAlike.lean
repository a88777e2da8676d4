/-
  The document's Alike.
-/
import Derived.Test.YtkjbcnlhallcdaaVdRest
import Derived.Deep.Cut
namespace Go.Proofs.Ytkjbcnlhallcdaa
open Go.RowKit FerryCrc
set_option linter.unusedVariables false
set_option linter.unusedSimpArgs false

set_option maxRecDepth 100000 in
set_option maxHeartbeats 8000000 in
theorem ralike_any (s t : Sk) (cs cs' : List Value) (w : World) (hs : Sv w cs s) (hs' : Sv w cs' t) :
    Calls Try.prog 10 #[.agg cs.toArray, .agg cs'.toArray] w fun e w' => e = .returned (.bool (eqb Classical.propDecidable (s.alike t))) ∧ Below w.heap.size w w' := by
  have HBUT : Hid (∀ W, Below w.heap.size w W → Calls Try.prog 16 #[.agg cs.toArray, .agg cs'.toArray] W fun e w' => e = .returned (.bool (eqb Classical.propDecidable (s.but t))) ∧ Below W.heap.size W w') := fun W hb => rest_any s t cs cs' W (hs.below hb) (hs'.below hb)
  obtain ⟨bt, hbt⟩ : ∃ bt, s.but t = bt := ⟨_, rfl⟩
  rw [hbt] at HBUT
  have HBT := hide hbt
  clear hbt
  obtain ⟨id, frame, epoch, procs, ready, timers, up, sems, ports, pages⟩ := s
  obtain ⟨id', frame', epoch', procs', ready', timers', up', sems', ports', pages'⟩ := t
  obtain ⟨xa3, xn3, xc3, xa4, xn4, xc4, xa5, xn5, xc5, xa6, xn6, xc6, xa7, xn7, xc7, xa8, xn8, xc8, xa9, xn9, xc9, xe, xh3, xh4, xh5, xh6, xh7, xh8, xh9⟩ := hs
  obtain ⟨ya3, yn3, yc3, ya4, yn4, yc4, ya5, yn5, yc5, ya6, yn6, yc6, ya7, yn7, yc7, ya8, yn8, yc8, ya9, yn9, yc9, ye, yh3, yh4, yh5, yh6, yh7, yh8, yh9⟩ := hs'
  have n1 := rangeNew w cs 29
  have n1b := vrange_below n1 (one_below (w.alloc (.cells cs.toArray 29)) (.cells cs'.toArray 29))
  have n2 := rangeNew (w.alloc (.cells cs.toArray 29)) cs' 29
  have hsz : (w.alloc (.cells cs.toArray 29)).heap.size = w.heap.size + 1 := by simp
  rw [hsz] at n2
  have HB0 := hide (two_below w (.cells cs.toArray 29) (.cells cs'.toArray 29))
  have N1 := hide n1b
  have N2 := hide n2
  have XE := hide xe
  have YE := hide ye
  have XH9 := hide (xh9.below HB0.out)
  have YH9 := hide (yh9.below HB0.out)
  have xm9 := xh9.most
  have ym9 := yh9.most
  have xz9 := hide xh9.size
  have yz9 := hide yh9.size
  have HUS : Hid (Try.prog.underlying 29 = some _) := Try.underlying29
  have HIS1 : Hid ((Try.prog.info? 29).map (·.size) = some cs.length) := by unfold Hid; rw [xe]; exact infoState
  have HIS2 : Hid ((Try.prog.info? 29).map (·.size) = some cs'.length) := by unfold Hid; rw [ye]; exact infoState
  clear xh3 yh3 xh4 yh4 xh5 yh5 xh6 yh6 xh7 yh7 xh8 yh8 xh9 yh9 xe ye n1 n1b n2 hsz
  go_enter Try.func10, Try.ntmps10
  go_upto_region 1 with fail
  generalize (w.alloc (.cells cs.toArray 29)).alloc (.cells cs'.toArray 29) = W0 at *
  refine wp_region_list ?_
  refine wpList_load_g (op := { dst := some 6, op := Go.Op.load 29 (Go.Operand.tmp 2), type := 29, pos := "ref.go:380", after := #[], guard := none }) (by rfl) 29 (.tmp 2) rfl w.heap.size (0) rfl cs _ N1.out HUS.out rfl HIS1.out ?_
  try simp only [Act.put, List.setIfInBounds_toArray, List.set_cons_zero, List.set_cons_succ]
  refine wpList_load_g (op := { dst := some 7, op := Go.Op.load 29 (Go.Operand.tmp 3), type := 29, pos := "ref.go:380", after := #[], guard := none }) (by rfl) 29 (.tmp 3) rfl (w.heap.size + 1) (0) rfl cs' _ N2.out HUS.out rfl HIS2.out ?_
  try simp only [Act.put, List.setIfInBounds_toArray, List.set_cons_zero, List.set_cons_succ]
  go_wp2_with fail
  refine Calls.mono (HBUT.out W0 HB0.out) ?_
  rintro e w1 ⟨rfl, b1⟩
  have B1 := hide b1
  clear b1
  generalize hq : eqb Classical.propDecidable bt = r1 at *
  have P1 := hide hq
  clear hq HBUT
  cases r1
  · go_wp2
    go_ret
    exact ⟨ret_bool (by symm; refine eqb_no ?_; exact fun h => by have h3 := P1.out; rw [eqb_yes (HBT.out ▸ h.1)] at h3; exact absurd h3 (by decide)), chain HB0.out B1.out⟩
  · have EB := hide (eqb_iff.1 P1.out)
    have d9x : w1.cell? ⟨w.heap.size, 9, none⟩ = some (.slice xa9 xn9 xc9) := by have h := (vrange_below N1.out B1.out) 9 _ (by rw [XE.out]; rfl); rw [Nat.zero_add] at h; exact h
    have d9y : w1.cell? ⟨w.heap.size + 1, 9, none⟩ = some (.slice ya9 yn9 yc9) := by have h := (vrange_below N2.out B1.out) 9 _ (by rw [YE.out]; rfl); rw [Nat.zero_add] at h; exact h
    by_cases hq9 : xn9 = yn9
    · subst hq9
      go_wp2
      clear d9x d9y
      go_loopw [5] (fun i wr => ∃ k : Nat, k ≤ xn9 ∧ i = .int .i64 k ∧ Hid (Below W0.heap.size W0 wr) ∧ Hid ((pages.take k).map pk = (pages'.take k).map pk)) (fun i _ => xn9 - (intOf i).toNat)
      case atStart => exact ⟨0, by omega, rfl, B1.out, rfl⟩
      case round =>
        obtain ⟨k, hk, rfl, hb, HQ⟩ := hrel
        have d9x : wr.cell? ⟨w.heap.size, 9, none⟩ = some (.slice xa9 xn9 xc9) := by have h := (vrange_below N1.out hb.out) 9 _ (by rw [XE.out]; rfl); rw [Nat.zero_add] at h; exact h
        have d9y : wr.cell? ⟨w.heap.size + 1, 9, none⟩ = some (.slice ya9 xn9 yc9) := by have h := (vrange_below N2.out hb.out) 9 _ (by rw [YE.out]; rfl); rw [Nat.zero_add] at h; exact h
        by_cases hlt : k < xn9
        · obtain ⟨l1, b, off, row, D1, hl1, e1, hr1, hz1, hk1⟩ := (XH9.out.below hb.out).at hlt
          obtain ⟨l2, b', off', row', D2, hl2, e2, hr2, hz2, hk2⟩ := (YH9.out.below hb.out).at hlt
          subst e1 e2
          obtain ⟨x, dd, ds, ld, E1, hrow, hll, hkd, hzd⟩ := page_parts hk1
          obtain ⟨x', dd', ds', ld', E2, hrow', hll', hkd', hzd'⟩ := page_parts hk2
          have HPK : Hid (pk l1 = pk l2 ↔ x = x' ∧ ld = ld') := by
            unfold Hid
            rw [hll, hll']
            simp [pk]
          have cx := hr1 0 _ (by rw [hrow]; rfl)
          have cy := hr2 0 _ (by rw [hrow']; rfl)
          rw [Nat.add_zero] at cx cy
          have rd1 : wr.rangeAt b (off + k * 66 + 2) ds := fun j v hv => by have := hr1 (j + 2) v (by rw [hrow]; exact hv); rw [Nat.add_assoc, Nat.add_comm 2 j]; exact this
          have rd2 : wr.rangeAt b' (off' + k * 66 + 2) ds' := fun j v hv => by have := hr2 (j + 2) v (by rw [hrow']; exact hv); rw [Nat.add_assoc, Nat.add_comm 2 j]; exact this
          have hne : ∀ w, (binOp .neq 38 (.agg ds.toArray) (.agg ds'.toArray)).run Try.prog w = .ok (.bool (!eqb Classical.propDecidable (ld = ld'))) w := fun w => neq_keys (m := 3) (by kernel_rfl) (by decide) (formed_data hzd) (formed_data hzd') hkd hkd' w
          have hu41 := Try.underlying38
          have hi1 : (Try.prog.info? 38).map (·.size) = some ds.length := by rw [hzd]; exact infoData
          have hi2 : (Try.prog.info? 38).map (·.size) = some ds'.length := by rw [hzd']; exact infoData
          have HL1 := hide hl1
          have HL2 := hide hl2
          have hrest : ¬ pk l1 = pk l2 → ¬ pages.map pk = pages'.map pk := fun hn e => hn (by
            have h1 : (pages.map pk)[k]? = some (pk l1) := by rw [List.getElem?_map, HL1.out]; rfl
            rw [e, List.getElem?_map, HL2.out] at h1
            exact (Option.some.inj h1).symm)
          have HREST := hide hrest
          clear hl1 hl2 hk1 hk2 hz1 hz2 hr1 hr2 hrow hrow' hll hll' hkd hkd' hzd hzd' hrest
          obtain ⟨r, hr⟩ : ∃ r, (!eqb Classical.propDecidable (ld = ld')) = r := ⟨_, rfl⟩
          rw [hr] at hne
          have HRR := hide hr
          clear hr
          by_cases hxx : x = x'
          · subst hxx
            have HPE : Hid (ld = ld' → pk l1 = pk l2) := fun he => HPK.out.2 ⟨rfl, he⟩
            go_wp2
            refine wp_region_quiet_lit (by kernel_rfl) (by kernel_rfl) ?_
            repeat (first
              | (go_big_quiet_want; refine quiet_load_mid 38 (.tmp 44) rfl b (off + k * 66 + 2) rfl ds _ rd1 hu41 rfl hi1 ?_; simp only [Act.put, List.setIfInBounds_toArray, List.set_cons_succ, List.set_cons_zero]; go_big_quiet_on)
              | (go_big_quiet_want; refine quiet_load_mid 38 (.tmp 50) rfl b' (off' + k * 66 + 2) rfl ds' _ rd2 hu41 rfl hi2 ?_; simp only [Act.put, List.setIfInBounds_toArray, List.set_cons_succ, List.set_cons_zero]; go_big_quiet_on)
              | (go_big_quiet_want; refine quiet_neq 38 38 (.tmp 45) (.tmp 51) rfl _ _ rfl rfl (by kernel_rfl) _ hne ?_; simp only [Act.put, List.setIfInBounds_toArray, List.set_cons_succ, List.set_cons_zero]; go_big_quiet_on)
              | go_big_quiet_step (fail))
            refine wpQuiet_nil ?_
            intro _ hw'
            obtain ⟨nq, rfl⟩ := hw'
            clear hne rd1 rd2 hu41 hi1 hi2 d9x d9y cx cy
            cases r
            · have he : ld = ld' := eqb_iff.1 (by simpa using HRR.out)
              go_wp2
              go_roundw
              case rel => exact ⟨k + 1, by omega, by go_num, vdrewN_below hb.out nq, by unfold Hid; rw [take_nextK HL1.out, take_nextK HL2.out, List.map_append, List.map_append, HQ.out]; simp only [List.map_cons, List.map_nil]; rw [HPE.out he]⟩
              case measure => simp [intOf]; omega
            · have he : ¬ ld = ld' := fun e => by have h := HRR.out; rw [eqb_yes e] at h; exact absurd h (by decide)
              have hno := HREST.out (fun e => he (HPK.out.1 e).2)
              go_wp2
              go_ret
              exact ⟨ret_bool (by symm; refine eqb_no ?_; exact fun h => hno h.2), chain HB0.out (vdrewN_below hb.out nq)⟩
          · have hnx : (x == x') = false := by rw [beq_eq_false_iff_ne]; exact hxx
            have hnx2 : (x != x') = true := by simpa using hxx
            have hno := HREST.out (fun e => hxx (HPK.out.1 e).1)
            clear hne rd1 rd2 hu41 hi1 hi2 hxx
            go_wp2
            refine wp_region_quiet_lit (by kernel_rfl) (by kernel_rfl) ?_
            repeat (go_big_quiet_step (fail))
            refine wpQuiet_nil ?_
            intro _ hw'
            obtain ⟨nq, rfl⟩ := hw'
            clear d9x d9y cx cy
            go_wp2
            go_ret
            exact ⟨ret_bool (by symm; refine eqb_no ?_; exact fun h => hno h.2), chain HB0.out (vdrewN_below hb.out nq)⟩
        · obtain rfl : k = xn9 := by omega
          have E9 : Hid (pages.map pk = pages'.map pk) := by
            have h := HQ.out
            rw [List.take_of_length_le (by rw [XH9.out.size]; omega), List.take_of_length_le (by rw [YH9.out.size]; omega)] at h
            exact h
          clear HQ hlt hk
          go_wp2
          go_ret
          exact ⟨ret_bool (by symm; refine eqb_yes ?_; exact ⟨HBT.out ▸ EB.out, E9.out⟩), chain HB0.out hb.out⟩
    · have hne : ((xn9 : Int) != (yn9 : Int)) = true := by simp; omega
      have HX : Hid (¬ pages.map pk = pages'.map pk) := fun e => hq9 (by have := congrArg List.length e; rw [List.length_map, List.length_map] at this; rw [← xz9.out, ← yz9.out, this])
      clear hq9
      go_wp2
      go_ret
      exact ⟨ret_bool (by symm; refine eqb_no ?_; exact fun h => HX.out h.2), chain HB0.out B1.out⟩
end Go.Proofs.Ytkjbcnlhallcdaa
