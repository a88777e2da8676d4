/-
  The document's ints, by keys.
-/
import Derived.Test.YtkjbcnlhallcdaaVsEqOne
import Derived.Deep.Cut
namespace Go.Proofs.Ytkjbcnlhallcdaa
open Go.RowKit FerryCrc
set_option linter.unusedVariables false
set_option linter.unusedSimpArgs false

set_option maxRecDepth 100000 in
set_option maxHeartbeats 800000 in
theorem rints_any (a : Option Addr) (len cap : Nat) (K : List (List Lit)) (a' : Option Addr) (len' cap' : Nat) (K' : List (List Lit)) (w : World) (hs : Kv w 3 1 a len K) (hs' : Kv w 3 1 a' len' K') :
    Calls Try.prog 25 #[.slice a len cap, .slice a' len' cap'] w fun e w' => e = .returned (.bool (eqb Classical.propDecidable (K = K'))) ∧ Below w.heap.size w w' := by
  have hm := hs.most
  have hm' := hs'.most
  by_cases hnm : len = len'
  · subst hnm
    have HS := hide hs
    have HS' := hide hs'
    clear hs hs'
    go_enter Try.func25, Try.ntmps25
    go_wp2
    go_loopw [5] (fun i wr => ∃ k : Nat, k ≤ len ∧ i = .int .i64 k ∧ Hid (Below w.heap.size w wr) ∧ Hid (K.take k = K'.take k)) (fun i _ => len - (intOf i).toNat)
    case atStart => exact ⟨0, by omega, rfl, Below.refl _ _, rfl⟩
    case round =>
      obtain ⟨k, hk, rfl, hb, HQ⟩ := hrel
      by_cases hlt : k < len
      · obtain ⟨l1, b, off, row, D1, hl1, rfl, hr1, hz1, hk1⟩ := (HS.out.below hb.out).at hlt
        obtain ⟨l2, b', off', row', D2, hl2, rfl, hr2, hz2, hk2⟩ := (HS'.out.below hb.out).at hlt
        obtain ⟨x, rfl, rfl⟩ := keyLits_int' Try.underlying3 hk1
        obtain ⟨y, rfl, rfl⟩ := keyLits_int' Try.underlying3 hk2
        have cx := hr1 0 _ rfl
        have cy := hr2 0 _ rfl
        rw [Nat.mul_one, Nat.add_zero] at cx cy
        have HL1 := hide hl1
        have HL2 := hide hl2
        clear hl1 hl2 hk1 hk2 hz1 hz2 hr1 hr2
        by_cases hxy : x = y
        · subst hxy
          go_wp2
          refine wp_region_quiet_lit (by kernel_rfl) (by kernel_rfl) ?_
          repeat (go_big_quiet_step (fail))
          refine wpQuiet_nil ?_
          intro _ hw'
          obtain ⟨nq, rfl⟩ := hw'
          all_goals go_wp2
          all_goals go_roundw
          case rel => exact ⟨k + 1, by omega, by go_num, vdrewN_below hb.out nq, by unfold Hid; rw [take_nextK HL1.out, take_nextK HL2.out, HQ.out]⟩
          case measure => simp [intOf]; omega
        · have hne : ((x : Int) != y) = true := by simpa using hxy
          go_wp2
          refine wp_region_quiet_lit (by kernel_rfl) (by kernel_rfl) ?_
          repeat (go_big_quiet_step (fail))
          refine wpQuiet_nil ?_
          intro _ hw'
          obtain ⟨nq, rfl⟩ := hw'
          all_goals go_wp2
          all_goals go_ret
          all_goals exact ⟨ret_bool (by symm; refine eqb_no ?_; intro e; have h1 := HL1.out; rw [e, HL2.out] at h1; exact hxy (by simpa using (Option.some.inj h1).symm)), vdrewN_below hb.out nq⟩
      · obtain rfl : k = len := by omega
        have HE : Hid (K = K') := by
          have h := HQ.out
          rw [List.take_of_length_le (by rw [HS.out.size]; omega), List.take_of_length_le (by rw [HS'.out.size]; omega)] at h
          exact h
        go_wp2
        go_ret
        exact ⟨ret_bool ((eqb_yes HE.out).symm), hb.out⟩
  · have hne : ((len : Int) != (len' : Int)) = true := by simp; omega
    have HN : Hid (¬ K = K') := fun e => hnm (by rw [← hs.size, ← hs'.size, e])
    clear hs hs'
    go_enter Try.func25, Try.ntmps25
    go_wp2
    go_ret
    exact ⟨ret_bool ((eqb_no HN.out).symm), Below.refl _ _⟩

end Go.Proofs.Ytkjbcnlhallcdaa
