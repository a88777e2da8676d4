/-
  slices.Equal of processes and of timers, by their keys.
-/
import Derived.Test.YtkjbcnlhallcdaaVsKey
namespace Go.Proofs.Ytkjbcnlhallcdaa
open Go.RowKit FerryCrc
set_option linter.unusedVariables false
set_option linter.unusedSimpArgs false

theorem info_proc : (Try.prog.info? 52).map (·.size) = some 21 := by kernel_rfl
theorem formed_proc {row : List Value} (h : row.length = 21) : (Value.agg row.toArray).formed Try.prog 52 = true := by
  have hc : Try.prog.cellsOf 52 = 21 := by kernel_rfl
  simp [Value.formed, Try.underlying52, hc, h]
set_option maxRecDepth 100000 in
set_option maxHeartbeats 800000 in
theorem slEq_proc (a : Option Addr) (len cap : Nat) (K : List (List Lit)) (a' : Option Addr) (len' cap' : Nat) (K' : List (List Lit)) (w : World) (hs : Kv w 52 21 a len K) (hs' : Kv w 52 21 a' len' K') :
    Calls Try.prog 19 #[.slice a len cap, .slice a' len' cap'] w fun e w' => e = .returned (.bool (eqb Classical.propDecidable (K = K'))) ∧ Below w.heap.size w w' := by
  have hm := hs.most
  have hm' := hs'.most
  by_cases hnm : len = len'
  · subst hnm
    have HS := hide hs
    have HS' := hide hs'
    clear hs hs'
    go_enter Try.func19, Try.ntmps19
    go_wp2
    go_loopw [5, 13] (fun x i wr => ∃ k : Nat, k ≤ len ∧ i = .int .i64 k ∧ Hid (Below w.heap.size w wr) ∧ Hid (K.take k = K'.take k)) (fun _ i _ => len - (intOf i).toNat)
    case atStart => exact ⟨0, by omega, rfl, Below.refl _ _, rfl⟩
    case round =>
      obtain ⟨k, hk, rfl, hb, HQ⟩ := hrel
      by_cases hlt : k < len
      · obtain ⟨l1, b, off, row, D1, hl1, rfl, hr1, hz1, hk1⟩ := (HS.out.below hb.out).at hlt
        obtain ⟨l2, b', off', row', D2, hl2, rfl, hr2, hz2, hk2⟩ := (HS'.out.below hb.out).at hlt
        have hne : ∀ w, (binOp .neq 52 (.agg row.toArray) (.agg row'.toArray)).run Try.prog w = .ok (.bool (!eqb Classical.propDecidable (l1 = l2))) w := fun w => neq_keys (m := 4) (by kernel_rfl) (by decide) (formed_proc hz1) (formed_proc hz2) hk1 hk2 w
        have hu41 := Try.underlying52
        have hi1 : (Try.prog.info? 52).map (·.size) = some row.length := by rw [hz1]; exact info_proc
        have hi2 : (Try.prog.info? 52).map (·.size) = some row'.length := by rw [hz2]; exact info_proc
        have HL1 := hide hl1
        have HL2 := hide hl2
        clear hl1 hl2 hk1 hk2 hz1 hz2
        obtain ⟨r, hr⟩ : ∃ r, (!eqb Classical.propDecidable (l1 = l2)) = r := ⟨_, rfl⟩
        rw [hr] at hne
        have HRR := hide hr
        clear hr
        go_wp2
        refine wp_region_quiet_lit (by kernel_rfl) (by kernel_rfl) ?_
        repeat (first
          | (go_big_quiet_want; refine quiet_load_mid 52 (.tmp 18) rfl b (off + k * 21) rfl row _ hr1 hu41 rfl hi1 ?_; simp only [Act.put, List.setIfInBounds_toArray, List.set_cons_succ, List.set_cons_zero]; go_big_quiet_on)
          | (go_big_quiet_want; refine quiet_load_mid 52 (.tmp 22) rfl b' (off' + k * 21) rfl row' _ hr2 hu41 rfl hi2 ?_; simp only [Act.put, List.setIfInBounds_toArray, List.set_cons_succ, List.set_cons_zero]; go_big_quiet_on)
          | (go_big_quiet_want; refine quiet_neq 52 52 (.tmp 19) (.tmp 23) rfl _ _ rfl rfl (by kernel_rfl) _ hne ?_; simp only [Act.put, List.setIfInBounds_toArray, List.set_cons_succ, List.set_cons_zero]; go_big_quiet_on)
          | go_big_quiet_step (fail))
        refine wpQuiet_nil ?_
        intro _ hw'
        obtain ⟨nq, rfl⟩ := hw'
        clear hne hr1 hr2 hu41 hi1 hi2
        cases r
        · have he : l1 = l2 := eqb_iff.1 (by simpa using HRR.out)
          subst he
          go_wp2
          go_roundw
          case rel => exact ⟨k + 1, by omega, by go_num, vdrewN_below hb.out nq, by unfold Hid; rw [take_nextK HL1.out, take_nextK HL2.out, HQ.out]⟩
          case measure => simp [intOf]; omega
        · have he : ¬ l1 = l2 := fun e => by have h := HRR.out; rw [eqb_yes e] at h; exact absurd h (by decide)
          go_wp2
          go_ret
          exact ⟨ret_bool (by symm; refine eqb_no ?_; intro e; have h1 := HL1.out; rw [e, HL2.out] at h1; exact he (Option.some.inj h1).symm), vdrewN_below hb.out nq⟩
      · obtain rfl : k = len := by omega
        have HE : Hid (K = K') := by
          have h := HQ.out
          rw [List.take_of_length_le (by rw [HS.out.size]; omega), List.take_of_length_le (by rw [HS'.out.size]; omega)] at h
          exact h
        go_wp2
        go_ret
        exact ⟨ret_bool ((eqb_yes HE.out).symm), hb.out⟩
  · have hne : ((len : Int) != (len' : Int)) = true := by simp; omega
    have HN : Hid (¬ K = K') := fun e => hnm (by rw [← hs.size, ← hs'.size, e])
    clear hs hs'
    go_enter Try.func19, Try.ntmps19
    go_wp2
    go_ret
    exact ⟨ret_bool ((eqb_no HN.out).symm), Below.refl _ _⟩

theorem info_timer : (Try.prog.info? 67).map (·.size) = some 2 := by kernel_rfl
theorem formed_timer {row : List Value} (h : row.length = 2) : (Value.agg row.toArray).formed Try.prog 67 = true := by
  have hc : Try.prog.cellsOf 67 = 2 := by kernel_rfl
  simp [Value.formed, Try.underlying67, hc, h]
set_option maxRecDepth 100000 in
set_option maxHeartbeats 800000 in
theorem slEq_timer (a : Option Addr) (len cap : Nat) (K : List (List Lit)) (a' : Option Addr) (len' cap' : Nat) (K' : List (List Lit)) (w : World) (hs : Kv w 67 2 a len K) (hs' : Kv w 67 2 a' len' K') :
    Calls Try.prog 21 #[.slice a len cap, .slice a' len' cap'] w fun e w' => e = .returned (.bool (eqb Classical.propDecidable (K = K'))) ∧ Below w.heap.size w w' := by
  have hm := hs.most
  have hm' := hs'.most
  by_cases hnm : len = len'
  · subst hnm
    have HS := hide hs
    have HS' := hide hs'
    clear hs hs'
    go_enter Try.func21, Try.ntmps21
    go_wp2
    go_loopw [5, 13] (fun x i wr => ∃ k : Nat, k ≤ len ∧ i = .int .i64 k ∧ Hid (Below w.heap.size w wr) ∧ Hid (K.take k = K'.take k)) (fun _ i _ => len - (intOf i).toNat)
    case atStart => exact ⟨0, by omega, rfl, Below.refl _ _, rfl⟩
    case round =>
      obtain ⟨k, hk, rfl, hb, HQ⟩ := hrel
      by_cases hlt : k < len
      · obtain ⟨l1, b, off, row, D1, hl1, rfl, hr1, hz1, hk1⟩ := (HS.out.below hb.out).at hlt
        obtain ⟨l2, b', off', row', D2, hl2, rfl, hr2, hz2, hk2⟩ := (HS'.out.below hb.out).at hlt
        have hne : ∀ w, (binOp .neq 67 (.agg row.toArray) (.agg row'.toArray)).run Try.prog w = .ok (.bool (!eqb Classical.propDecidable (l1 = l2))) w := fun w => neq_keys (m := 4) (by kernel_rfl) (by decide) (formed_timer hz1) (formed_timer hz2) hk1 hk2 w
        have hu41 := Try.underlying67
        have hi1 : (Try.prog.info? 67).map (·.size) = some row.length := by rw [hz1]; exact info_timer
        have hi2 : (Try.prog.info? 67).map (·.size) = some row'.length := by rw [hz2]; exact info_timer
        have HL1 := hide hl1
        have HL2 := hide hl2
        clear hl1 hl2 hk1 hk2 hz1 hz2
        obtain ⟨r, hr⟩ : ∃ r, (!eqb Classical.propDecidable (l1 = l2)) = r := ⟨_, rfl⟩
        rw [hr] at hne
        have HRR := hide hr
        clear hr
        go_wp2
        refine wp_region_quiet_lit (by kernel_rfl) (by kernel_rfl) ?_
        repeat (first
          | (go_big_quiet_want; refine quiet_load_mid 67 (.tmp 18) rfl b (off + k * 2) rfl row _ hr1 hu41 rfl hi1 ?_; simp only [Act.put, List.setIfInBounds_toArray, List.set_cons_succ, List.set_cons_zero]; go_big_quiet_on)
          | (go_big_quiet_want; refine quiet_load_mid 67 (.tmp 22) rfl b' (off' + k * 2) rfl row' _ hr2 hu41 rfl hi2 ?_; simp only [Act.put, List.setIfInBounds_toArray, List.set_cons_succ, List.set_cons_zero]; go_big_quiet_on)
          | (go_big_quiet_want; refine quiet_neq 67 67 (.tmp 19) (.tmp 23) rfl _ _ rfl rfl (by kernel_rfl) _ hne ?_; simp only [Act.put, List.setIfInBounds_toArray, List.set_cons_succ, List.set_cons_zero]; go_big_quiet_on)
          | go_big_quiet_step (fail))
        refine wpQuiet_nil ?_
        intro _ hw'
        obtain ⟨nq, rfl⟩ := hw'
        clear hne hr1 hr2 hu41 hi1 hi2
        cases r
        · have he : l1 = l2 := eqb_iff.1 (by simpa using HRR.out)
          subst he
          go_wp2
          go_roundw
          case rel => exact ⟨k + 1, by omega, by go_num, vdrewN_below hb.out nq, by unfold Hid; rw [take_nextK HL1.out, take_nextK HL2.out, HQ.out]⟩
          case measure => simp [intOf]; omega
        · have he : ¬ l1 = l2 := fun e => by have h := HRR.out; rw [eqb_yes e] at h; exact absurd h (by decide)
          go_wp2
          go_ret
          exact ⟨ret_bool (by symm; refine eqb_no ?_; intro e; have h1 := HL1.out; rw [e, HL2.out] at h1; exact he (Option.some.inj h1).symm), vdrewN_below hb.out nq⟩
      · obtain rfl : k = len := by omega
        have HE : Hid (K = K') := by
          have h := HQ.out
          rw [List.take_of_length_le (by rw [HS.out.size]; omega), List.take_of_length_le (by rw [HS'.out.size]; omega)] at h
          exact h
        go_wp2
        go_ret
        exact ⟨ret_bool ((eqb_yes HE.out).symm), hb.out⟩
  · have hne : ((len : Int) != (len' : Int)) = true := by simp; omega
    have HN : Hid (¬ K = K') := fun e => hnm (by rw [← hs.size, ← hs'.size, e])
    clear hs hs'
    go_enter Try.func21, Try.ntmps21
    go_wp2
    go_ret
    exact ⟨ret_bool ((eqb_no HN.out).symm), Below.refl _ _⟩
end Go.Proofs.Ytkjbcnlhallcdaa
