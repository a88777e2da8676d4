/-
  slices.Equal of numbers, of truths and of texts, by their keys.
-/
import Derived.Test.YtkjbcnlhallcdaaVsKey
namespace Go.Proofs.Ytkjbcnlhallcdaa
open Go.RowKit FerryCrc
set_option linter.unusedVariables false
set_option linter.unusedSimpArgs false

set_option maxRecDepth 100000 in
set_option maxHeartbeats 800000 in
theorem slEq_int (a : Option Addr) (len cap : Nat) (K : List (List Lit)) (a' : Option Addr) (len' cap' : Nat) (K' : List (List Lit)) (w : World) (hs : Kv w 3 1 a len K) (hs' : Kv w 3 1 a' len' K') :
    Calls Try.prog 20 #[.slice a len cap, .slice a' len' cap'] w fun e w' => e = .returned (.bool (eqb Classical.propDecidable (K = K'))) ∧ Below w.heap.size w w' := by
  have hm := hs.most
  have hm' := hs'.most
  by_cases hnm : len = len'
  · subst hnm
    have HS := hide hs
    have HS' := hide hs'
    clear hs hs'
    go_enter Try.func20, Try.ntmps20
    go_wp2
    go_loopw [5, 13] (fun x i wr => ∃ k : Nat, k ≤ len ∧ i = .int .i64 k ∧ Hid (Below w.heap.size w wr) ∧ Hid (K.take k = K'.take k)) (fun _ i _ => len - (intOf i).toNat)
    case atStart => exact ⟨0, by omega, rfl, Below.refl _ _, rfl⟩
    case round =>
      obtain ⟨k, hk, rfl, hb, HQ⟩ := hrel
      by_cases hlt : k < len
      · obtain ⟨l1, b, off, row, D1, hl1, rfl, hr1, hz1, hk1⟩ := (HS.out.below hb.out).at hlt
        obtain ⟨l2, b', off', row', D2, hl2, rfl, hr2, hz2, hk2⟩ := (HS'.out.below hb.out).at hlt
        obtain ⟨x, rfl, rfl⟩ := keyLits_int' Try.underlying3 hk1
        obtain ⟨y, rfl, rfl⟩ := keyLits_int' Try.underlying3 hk2
        have cx := hr1 0 _ rfl
        have cy := hr2 0 _ rfl
        rw [Nat.mul_one, Nat.add_zero] at cx cy
        have HL1 := hide hl1
        have HL2 := hide hl2
        clear hl1 hl2 hk1 hk2 hz1 hz2 hr1 hr2
        by_cases hxy : x = y
        · subst hxy
          go_wp2
          go_region
          all_goals go_wp2
          all_goals go_roundw
          case rel => exact ⟨k + 1, by omega, by go_num, hb.out.drew, by unfold Hid; rw [take_nextK HL1.out, take_nextK HL2.out, HQ.out]⟩
          case measure => simp [intOf]; omega
        · have hne : ((x : Int) != y) = true := by simpa using hxy
          go_wp2
          go_region
          all_goals go_wp2
          all_goals go_ret
          all_goals exact ⟨ret_bool (by symm; refine eqb_no ?_; intro e; have h1 := HL1.out; rw [e, HL2.out] at h1; exact hxy (by simpa using (Option.some.inj h1).symm)), hb.out.drew⟩
      · obtain rfl : k = len := by omega
        have HE : Hid (K = K') := by
          have h := HQ.out
          rw [List.take_of_length_le (by rw [HS.out.size]; omega), List.take_of_length_le (by rw [HS'.out.size]; omega)] at h
          exact h
        go_wp2
        go_ret
        exact ⟨ret_bool ((eqb_yes HE.out).symm), hb.out⟩
  · have hne : ((len : Int) != (len' : Int)) = true := by simp; omega
    have HN : Hid (¬ K = K') := fun e => hnm (by rw [← hs.size, ← hs'.size, e])
    clear hs hs'
    go_enter Try.func20, Try.ntmps20
    go_wp2
    go_ret
    exact ⟨ret_bool ((eqb_no HN.out).symm), Below.refl _ _⟩

set_option maxRecDepth 100000 in
set_option maxHeartbeats 800000 in
theorem slEq_bool (a : Option Addr) (len cap : Nat) (K : List (List Lit)) (a' : Option Addr) (len' cap' : Nat) (K' : List (List Lit)) (w : World) (hs : Kv w 4 1 a len K) (hs' : Kv w 4 1 a' len' K') :
    Calls Try.prog 22 #[.slice a len cap, .slice a' len' cap'] w fun e w' => e = .returned (.bool (eqb Classical.propDecidable (K = K'))) ∧ Below w.heap.size w w' := by
  have hm := hs.most
  have hm' := hs'.most
  by_cases hnm : len = len'
  · subst hnm
    have HS := hide hs
    have HS' := hide hs'
    clear hs hs'
    go_enter Try.func22, Try.ntmps22
    go_wp2
    go_loopw [5, 13] (fun x i wr => ∃ k : Nat, k ≤ len ∧ i = .int .i64 k ∧ Hid (Below w.heap.size w wr) ∧ Hid (K.take k = K'.take k)) (fun _ i _ => len - (intOf i).toNat)
    case atStart => exact ⟨0, by omega, rfl, Below.refl _ _, rfl⟩
    case round =>
      obtain ⟨k, hk, rfl, hb, HQ⟩ := hrel
      by_cases hlt : k < len
      · obtain ⟨l1, b, off, row, D1, hl1, rfl, hr1, hz1, hk1⟩ := (HS.out.below hb.out).at hlt
        obtain ⟨l2, b', off', row', D2, hl2, rfl, hr2, hz2, hk2⟩ := (HS'.out.below hb.out).at hlt
        obtain ⟨x, rfl, rfl⟩ := keyLits_bool' Try.underlying4 hk1
        obtain ⟨y, rfl, rfl⟩ := keyLits_bool' Try.underlying4 hk2
        have cx := hr1 0 _ rfl
        have cy := hr2 0 _ rfl
        rw [Nat.mul_one, Nat.add_zero] at cx cy
        have HL1 := hide hl1
        have HL2 := hide hl2
        clear hl1 hl2 hk1 hk2 hz1 hz2 hr1 hr2
        by_cases hxy : x = y
        · subst hxy
          go_wp2
          go_region
          all_goals go_wp2
          all_goals go_roundw
          case rel => exact ⟨k + 1, by omega, by go_num, hb.out.drew, by unfold Hid; rw [take_nextK HL1.out, take_nextK HL2.out, HQ.out]⟩
          case measure => simp [intOf]; omega
        · cases x <;> cases y <;> first | exact absurd rfl hxy | skip
          all_goals go_wp2
          all_goals go_region
          all_goals go_wp2
          all_goals go_ret
          all_goals exact ⟨ret_bool (by symm; refine eqb_no ?_; intro e; have h1 := HL1.out; rw [e, HL2.out] at h1; exact absurd (Option.some.inj h1) (by simp)), hb.out.drew⟩
      · obtain rfl : k = len := by omega
        have HE : Hid (K = K') := by
          have h := HQ.out
          rw [List.take_of_length_le (by rw [HS.out.size]; omega), List.take_of_length_le (by rw [HS'.out.size]; omega)] at h
          exact h
        go_wp2
        go_ret
        exact ⟨ret_bool ((eqb_yes HE.out).symm), hb.out⟩
  · have hne : ((len : Int) != (len' : Int)) = true := by simp; omega
    have HN : Hid (¬ K = K') := fun e => hnm (by rw [← hs.size, ← hs'.size, e])
    clear hs hs'
    go_enter Try.func22, Try.ntmps22
    go_wp2
    go_ret
    exact ⟨ret_bool ((eqb_no HN.out).symm), Below.refl _ _⟩

set_option maxRecDepth 100000 in
set_option maxHeartbeats 800000 in
theorem slEq_str (a : Option Addr) (len cap : Nat) (K : List (List Lit)) (a' : Option Addr) (len' cap' : Nat) (K' : List (List Lit)) (w : World) (hs : Kv w 9 1 a len K) (hs' : Kv w 9 1 a' len' K') :
    Calls Try.prog 32 #[.slice a len cap, .slice a' len' cap'] w fun e w' => e = .returned (.bool (eqb Classical.propDecidable (K = K'))) ∧ Below w.heap.size w w' := by
  have hm := hs.most
  have hm' := hs'.most
  by_cases hnm : len = len'
  · subst hnm
    have HS := hide hs
    have HS' := hide hs'
    clear hs hs'
    go_enter Try.func32, Try.ntmps32
    go_wp2
    go_loopw [5, 13] (fun x i wr => ∃ k : Nat, k ≤ len ∧ i = .int .i64 k ∧ Hid (Below w.heap.size w wr) ∧ Hid (K.take k = K'.take k)) (fun _ i _ => len - (intOf i).toNat)
    case atStart => exact ⟨0, by omega, rfl, Below.refl _ _, rfl⟩
    case round =>
      obtain ⟨k, hk, rfl, hb, HQ⟩ := hrel
      by_cases hlt : k < len
      · obtain ⟨l1, b, off, row, D1, hl1, rfl, hr1, hz1, hk1⟩ := (HS.out.below hb.out).at hlt
        obtain ⟨l2, b', off', row', D2, hl2, rfl, hr2, hz2, hk2⟩ := (HS'.out.below hb.out).at hlt
        obtain ⟨x, rfl, rfl⟩ := keyLits_string' Try.underlying9 hk1
        obtain ⟨y, rfl, rfl⟩ := keyLits_string' Try.underlying9 hk2
        have cx := hr1 0 _ rfl
        have cy := hr2 0 _ rfl
        rw [Nat.mul_one, Nat.add_zero] at cx cy
        have HL1 := hide hl1
        have HL2 := hide hl2
        clear hl1 hl2 hk1 hk2 hz1 hz2 hr1 hr2
        by_cases hxy : x = y
        · subst hxy
          go_wp2
          go_region
          all_goals go_wp2
          all_goals go_roundw
          case rel => exact ⟨k + 1, by omega, by go_num, hb.out.drew, by unfold Hid; rw [take_nextK HL1.out, take_nextK HL2.out, HQ.out]⟩
          case measure => simp [intOf]; omega
        · have hne : (x.toList == y.toList) = false := beq_eq_false_iff_ne.2 (fun e => hxy (by rw [ByteArray.toList_eq, ByteArray.toList_eq] at e; exact ByteArray.ext (Array.ext' e)))
          go_wp2
          go_region
          all_goals go_wp2
          all_goals go_ret
          all_goals exact ⟨ret_bool (by symm; refine eqb_no ?_; intro e; have h1 := HL1.out; rw [e, HL2.out] at h1; exact hxy (by have h2 : x.data.toList = y.data.toList := (by simpa using (Option.some.inj h1).symm); exact ByteArray.ext (Array.ext' h2))), hb.out.drew⟩
      · obtain rfl : k = len := by omega
        have HE : Hid (K = K') := by
          have h := HQ.out
          rw [List.take_of_length_le (by rw [HS.out.size]; omega), List.take_of_length_le (by rw [HS'.out.size]; omega)] at h
          exact h
        go_wp2
        go_ret
        exact ⟨ret_bool ((eqb_yes HE.out).symm), hb.out⟩
  · have hne : ((len : Int) != (len' : Int)) = true := by simp; omega
    have HN : Hid (¬ K = K') := fun e => hnm (by rw [← hs.size, ← hs'.size, e])
    clear hs hs'
    go_enter Try.func32, Try.ntmps32
    go_wp2
    go_ret
    exact ⟨ret_bool ((eqb_no HN.out).symm), Below.refl _ _⟩
end Go.Proofs.Ytkjbcnlhallcdaa
