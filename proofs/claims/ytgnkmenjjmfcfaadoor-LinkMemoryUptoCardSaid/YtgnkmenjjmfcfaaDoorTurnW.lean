/-
  Contract of crc.Turn.
-/
import Derived.Test.YtgnkmenjjmfcfaaDoorLenW
import Derived.Test.YtgnkmenjjmfcfaaDoorRefTurnW
import Derived.Test.YtgnkmenjjmfcfaaDoorLow
import Derived.Test.YtgnkmenjjmfcfaaDoorErrIs
namespace FerryCrc
theorem turnTo_past {l : List Nat} {pos mask : Nat} (k : Nat) (h : mask < 2 ^ k) : ∀ n, turnTo l pos mask (k + n) = turnTo l pos mask k := by
  intro n
  induction n with
  | zero => rfl
  | succ n ih =>
    rw [← Nat.add_assoc, turnTo, if_neg, ih]
    rw [Nat.testBit_lt_two_pow (Nat.lt_of_lt_of_le h (Nat.pow_le_pow_right (by decide) (by omega)))]
    decide
theorem turnTo_len {l : List Nat} {pos mask : Nat} (h : mask < 4294967296) : turnTo l pos mask (lenOf mask) = turnTo l pos mask 32 := by
  have h1 := lenOf_le (x := mask) (k := 32) h
  have := turnTo_past (l := l) (pos := pos) (lenOf mask) (lenOf_spec mask) (32 - lenOf mask)
  rw [← this]
  congr 1
  omega
end FerryCrc
namespace Go.Proofs.YtgnkmenjjmfcfaaDoor
open Go.RowKit FerryCrc

theorem fits_iff {len pos mask : Nat} (h0 : mask ≠ 0) (hm : mask < 4294967296) : Fits len pos mask ↔ pos + lenOf mask ≤ 8 * len := by
  have h1 := lenOf_le (x := mask) (k := 32) hm
  have hp : 0 < lenOf mask := by unfold lenOf; rw [if_neg h0]; omega
  constructor
  · intro h
    have := h (lenOf mask - 1) (by omega) (lenOf_top h0)
    omega
  · intro h i _ hi
    have : i < lenOf mask := by
      apply Decidable.byContradiction
      intro hn
      rw [Nat.testBit_lt_two_pow (Nat.lt_of_lt_of_le (lenOf_spec mask) (Nat.pow_le_pow_right (by decide) (by omega)))] at hi
      simp at hi
    omega

set_option maxRecDepth 100000 in
theorem turn_bad (a : Option Addr) (len cap : Nat) (pos : Int) (mask : Nat) (a12 : Addr) (w : World) (h12 : w.cell? ⟨0, 0, none⟩ = some (sent a12)) (hl : len ≤ 140737488355328) (hm : mask < 4294967296) (hbad : mask = 0 ∨ pos < 0 ∨ 8 * (len : Int) - (lenOf mask : Int) < pos) :
    Calls Tryd.prog 35 #[.slice a len cap, .int .i64 pos, .int .u32 (mask : Int)] w fun e w' => e = .returned (.tuple #[.slice none 0 0, sent a12]) ∧ Below w.heap.size w w' := by
  have hn := lenOf_le (x := mask) (k := 32) hm
  have H1 := hide (len32_any mask w hm)
  generalize lenOf mask = n at *
  by_cases h0 : mask = 0
  · subst h0
    go_enter Tryd.func35, Tryd.ntmps35
    go_wp2_with fail
    refine H1.out.mono ?_
    rintro e w1 ⟨rfl, rfl⟩
    go_wp2
    go_region
    all_goals go_wp2
    all_goals (go_ret2; exact ⟨rfl, (Below.refl _ _).drew⟩)
  · have d0 : ((mask : Int) == 0) = false := by simp; omega
    by_cases h1 : pos < 0
    · have d1 : decide (pos < 0) = true := by simp; omega
      go_enter Tryd.func35, Tryd.ntmps35
      go_wp2_with fail
      refine H1.out.mono ?_
      rintro e w1 ⟨rfl, rfl⟩
      go_wp2
      go_region
      all_goals go_wp2
      all_goals (go_ret2; exact ⟨rfl, (Below.refl _ _).drew⟩)
    · have d1 : decide (pos < 0) = false := by simp; omega
      have h2 : 8 * (len : Int) - (n : Int) < pos := by omega
      clear hbad
      go_enter Tryd.func35, Tryd.ntmps35
      go_wp2_with fail
      refine H1.out.mono ?_
      rintro e w1 ⟨rfl, rfl⟩
      go_wp2
      go_region
      all_goals go_wp2
      all_goals (go_ret2; exact ⟨rfl, (Below.refl _ _).drew⟩)

theorem xor_zero8 {x : Nat} (hx : x < 256) : bits .xor .u8 (x : Int) 0 = (x : Int) := by
  have := u8_xor_nat x 0 hx (by decide)
  simpa using this
theorem own_same {w : World} {base g len c x j : Nat} {t : List Nat} (h : Own w base (.slice (some ⟨g, 0, none⟩) len c) t) (hl : t.length = len) (hx : t[j]? = some x) (hx8 : x < 256) :
    Own (w.setCell ⟨g, j, none⟩ (.int .u8 (bits .xor .u8 (x : Int) 0))).drew base (.slice (some ⟨g, 0, none⟩) len c) t := by
  subst hl
  rw [xor_zero8 hx8]
  have := (World.ownsRow.stored h j (bv x)).1
  unfold Own
  have e : (t.map bv).set j (bv x) = t.map bv := by
    rw [← List.map_set]
    congr 1
    obtain ⟨hj, he⟩ := List.getElem?_eq_some_iff.1 hx
    rw [← he, List.set_getElem_self]
  rw [← e]
  exact this.drew

set_option maxRecDepth 100000 in
set_option maxHeartbeats 1000000 in
theorem turn_any (a : Option Addr) (len cap : Nat) (l : List Nat) (pos mask : Nat) (w : World) (hs : Bts w a len cap l) (h0 : mask ≠ 0) (hm : mask < 4294967296) (hfit : pos + lenOf mask ≤ 8 * len) :
    Calls Tryd.prog 35 #[.slice a len cap, .int .i64 (pos : Int), .int .u32 (mask : Int)] w fun e w' => ∃ g, e = .returned (.tuple #[.slice (some ⟨g, 0, none⟩) len len, .nilIface]) ∧ Own w' w.heap.size (.slice (some ⟨g, 0, none⟩) len len) (turnTo l pos mask 32) ∧ Below w.heap.size w w' := by
  have hmost := hs.most
  have d0 : ((mask : Int) == 0) = false := by simp; omega
  have hn := lenOf_le (x := mask) (k := 32) hm
  have H1 := hide (len32_any mask w hm)
  have H2 := hide (fresh_any a len cap l w hs)
  have HT := hide (turnTo_len (l := l) (pos := pos) hm)
  have hsz := hide hs.size
  have hsm := hide hs.small
  generalize lenOf mask = n at *
  have d1 : decide ((pos : Int) < 0) = false := by simp
  have d2 : decide (8 * (len : Int) - (n : Int) < (pos : Int)) = false := by simp; omega
  clear hs
  go_enter Tryd.func35, Tryd.ntmps35
  go_wp2_with fail
  refine H1.out.mono ?_
  rintro e w0 ⟨rfl, rfl⟩
  go_wp2_with fail
  refine H2.out.mono ?_
  rintro e w1 ⟨g, rfl, hown1, hb1⟩
  have hg := hown1.baseLe
  go_wp2
  go_loopw [33] (fun i wr => ∃ k : Nat, k ≤ n ∧ i = .int .i64 k ∧ Below w.heap.size w wr ∧ Own wr w.heap.size (.slice (some ⟨g, 0, none⟩) len len) (turnTo l pos mask k)) (fun i _ => n - (intOf i).toNat)
  case atStart => exact ⟨0, by omega, rfl, hb1, hown1⟩
  case round =>
    obtain ⟨k, hk, rfl, hb, hown⟩ := hrel
    clear hown1 hb1
    by_cases hlt : k < n
    · have hin : pos + k < 8 * len := by omega
      have hx : (pos + k) / 8 < (turnTo l pos mask k).length := by rw [turnTo_length, hsz.out]; omega
      have hsm2 := turnTo_small pos mask k hsm.out
      have HSZ := hide (turnTo_length l pos mask k)
      have HN : Hid (turnTo l pos mask (k + 1) = if mask.testBit k then flipB (turnTo l pos mask k) (pos + k) else turnTo l pos mask k) := by unfold Hid; rw [turnTo]
      generalize turnTo l pos mask k = t at *
      obtain ⟨x, hx1⟩ : ∃ x, t[(pos + k) / 8]? = some x := ⟨_, List.getElem?_eq_getElem hx⟩
      have hx8 : x < 256 := hsm2 x (List.mem_of_getElem? hx1)
      have hcell : wr.cell? ⟨g, (pos + k) / 8, none⟩ = some (.int .u8 (x : Int)) := hown.cellAt (by rw [HSZ.out, hsz.out]) _ _ hx1
      have hfro : wr.frozen? ⟨g, (pos + k) / 8, none⟩ = false := hown.frozenAt (by rw [HSZ.out, hsz.out]) _
      have HX := hide hx1
      have HO := hide hown
      have HB := hide hb
      clear hx hx1 hsm2 hown hb
      cases hbit : mask.testBit k
      · have hbt := and_bit hm hbit
        rw [hbit, if_neg (by decide)] at HN
        clear hbit
        go_wp2
        go_region
        all_goals go_wp2
        all_goals go_roundw
        case rel => exact ⟨k + 1, by omega, by go_num, (HB.out.setCell hg _).drew, by rw [HN.out]; exact own_same HO.out (by rw [HSZ.out, hsz.out]) HX.out hx8⟩
        case measure => simp [intOf]; omega
      · have hbt := and_bit hm hbit
        rw [hbit, if_pos rfl] at HN
        clear hbit
        go_wp2
        go_region
        all_goals go_wp2
        all_goals go_roundw
        case rel => exact ⟨k + 1, by omega, by go_num, (HB.out.setCell hg _).drew, by rw [HN.out]; exact own_flip HO.out (by rw [HSZ.out, hsz.out]) HX.out hx8⟩
        case measure => simp [intOf]; omega
    · obtain rfl : k = n := by omega
      rw [HT.out] at hown
      go_wp2
      go_ret2
      exact ⟨g, rfl, hown, hb⟩
end Go.Proofs.YtgnkmenjjmfcfaaDoor
