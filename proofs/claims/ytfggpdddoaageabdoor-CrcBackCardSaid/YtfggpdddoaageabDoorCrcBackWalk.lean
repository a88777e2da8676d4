/-
  Walk of the law CrcBack.
-/
import Derived.Test.YtfggpdddoaageabDoorBurstAny
import Derived.Test.YtfggpdddoaageabDoorTurn
import Derived.Test.YtfggpdddoaageabDoorEqual
import Derived.Test.YtfggpdddoaageabDoorPlain
namespace FerryCrc
theorem turn_num {l : List Nat} {pos mask len : Nat} (hl : l.length = len) (hm : mask < 4294967296) (hfit : pos + lenOf mask ≤ 8 * len) : num (turnTo l pos mask 32) = num l ^^^ (mask <<< pos) := by
  rw [num_turnTo l pos mask 32, Nat.mod_eq_of_lt (show mask < 2 ^ 32 from hm)]
  intro i _ hb
  have : i < lenOf mask := by
    apply Classical.byContradiction
    intro hn
    rw [Nat.testBit_lt_two_pow (Nat.lt_of_lt_of_le (lenOf_spec mask) (Nat.pow_le_pow_right (by decide) (by omega)))] at hb
    simp at hb
  omega
theorem turn_twice {l : List Nat} {pos mask len : Nat} (hl : l.length = len) (hs : ∀ c ∈ l, c < 256) (hm : mask < 4294967296) (hfit : pos + lenOf mask ≤ 8 * len) : turnTo (turnTo l pos mask 32) pos mask 32 = l := by
  have h1 : (turnTo l pos mask 32).length = len := by rw [turnTo_length, hl]
  apply num_inj (turnTo_small _ _ _ (turnTo_small _ _ _ hs)) hs (by rw [turnTo_length, h1, hl])
  rw [turn_num h1 hm hfit, turn_num hl hm hfit, Nat.xor_assoc, Nat.xor_self, Nat.xor_zero]
theorem turn_dif {l : List Nat} {pos mask len : Nat} (hl : l.length = len) (hm : mask < 4294967296) (hfit : pos + lenOf mask ≤ 8 * len) : num l ^^^ num (turnTo l pos mask 32) = mask <<< pos := by
  rw [turn_num hl hm hfit, ← Nat.xor_assoc, Nat.xor_self, Nat.zero_xor]
theorem turn_ne {l : List Nat} {pos mask len : Nat} (hl : l.length = len) (h0 : mask ≠ 0) (hm : mask < 4294967296) (hfit : pos + lenOf mask ≤ 8 * len) : l ≠ turnTo l pos mask 32 := by
  intro e
  have h := turn_dif hl hm hfit
  rw [← e, Nat.xor_self, Nat.shiftLeft_eq] at h
  have := Nat.mul_pos (Nat.pos_of_ne_zero h0) (Nat.two_pow_pos pos)
  omega
theorem turn_alike {l : List Nat} {pos mask p m len : Nat} (hl : l.length = len) (hs : ∀ c ∈ l, c < 256) (hm : mask < 4294967296) (hfit : pos + lenOf mask ≤ 8 * len) (hm2 : m < 4294967296) (hfit2 : p + lenOf m ≤ 8 * len) (h : m <<< p = mask <<< pos) : turnTo l p m 32 = turnTo l pos mask 32 := by
  apply num_inj (turnTo_small _ _ _ hs) (turnTo_small _ _ _ hs) (by rw [turnTo_length, turnTo_length])
  rw [turn_num hl hm hfit, turn_num hl hm2 hfit2, h]
end FerryCrc
namespace Go.Proofs.YtfggpdddoaageabDoor.crcBack
open Go.RowKit FerryCrc

theorem zero_bts (w : World) : Bts (w.alloc (.cells #[.int .u8 0] 5)) (some ⟨w.heap.size, 0, none⟩) 1 1 [0] :=
  (show Own (w.alloc (.cells #[.int .u8 0] 5)) w.heap.size (.slice (some ⟨w.heap.size, 0, none⟩) 1 1) [0] from World.ownsRow_lit w #[.int .u8 0] 1 (Nat.le_refl _) (by decide) rfl).bts rfl (by decide) (by decide)
theorem turn_one (w : World) : Calls Tryd.prog 18 #[.slice (some ⟨w.heap.size, 0, none⟩) 1 1, .int .i64 7, .int .u32 1] (w.alloc (.cells #[.int .u8 0] 5)) fun e w' =>
    ∃ g, e = .returned (.tuple #[.slice (some ⟨g, 0, none⟩) 1 1, .nilIface]) ∧ w'.cell? ⟨g, 0, none⟩ = some (.int .u8 128) ∧ Below w.heap.size w w' := by
  refine (turn_any (some ⟨w.heap.size, 0, none⟩) 1 1 [0] 7 1 _ (zero_bts w) (by decide) (by decide) (by decide +kernel)).mono ?_
  rintro e w' ⟨g, he, hown, hb⟩
  refine ⟨g, he, ?_, ((Below.refl _ _).alloc (Nat.le_refl _) _).trans (hb.mono (by simp))⟩
  exact hown.cellAt (by decide +kernel) 0 128 (by decide +kernel)

set_option maxRecDepth 100000 in
set_option maxHeartbeats 1000000 in
theorem law_bad {w : World} {E : Nat → Addr} (he : Errs w E) (a : Option Addr) (len cap : Nat) (pos : Int) (mask : Nat) (hr : len ≤ 140737488351232) (hm : mask < 4294967296) (hbad : mask = 0 ∨ pos < 0 ∨ 8 * (len : Int) - (lenOf mask : Int) < pos) :
    Calls Tryd.prog 7 #[.slice a len cap, .int .i64 pos, .int .u32 (mask : Int)] w fun e w' => e = .returned (.bool true) ∧ Below w.heap.size w w' := by
  have HE := hide he
  have H5 := hide (turn_one w)
  clear he
  go_enter Tryd.func7, Tryd.ntmps7
  go_wp2_with fail
  refine H5.out.mono ?_
  rintro e w1 ⟨g1, rfl, hc1, hb1⟩
  have HB1 := hide hb1
  clear hb1
  go_wp2_with fail
  refine (turn_bad a len cap pos mask (E 12) w1 (HE.out.below HB1.out).v12 (by omega) hm hbad).mono ?_
  rintro e w2 ⟨rfl, hb2⟩
  have HB2 := hide (chain HB1.out hb2)
  have H6 := hide (plain_yes (HE.out.below HB2.out) (sent (E 12)) 12 (bare_sent E 12 (by decide) (by decide)))
  clear hb2 hc1
  unfold sent at *
  go_wp2_with fail
  refine H6.out.mono ?_
  rintro e w4 ⟨rfl, hb4⟩
  go_wp2
  go_ret
  exact ⟨rfl, chain HB2.out hb4⟩

set_option maxRecDepth 100000 in
set_option maxHeartbeats 1000000 in
theorem law_good {w : World} {E : Nat → Addr} (he : Errs w E) (a : Option Addr) (len cap : Nat) (l : List Nat) (pos mask : Nat) (hs : Bts w a len cap l) (hr : len ≤ 140737488351232) (h0 : mask ≠ 0) (hm : mask < 4294967296) (hfit : pos + lenOf mask ≤ 8 * len) :
    Calls Tryd.prog 7 #[.slice a len cap, .int .i64 (pos : Int), .int .u32 (mask : Int)] w fun e w' => e = .returned (.bool true) ∧ Below w.heap.size w w' := by
  have HE := hide he
  have HS := hide hs
  have H5 := hide (turn_one w)
  have HF := hide hfit
  have HTW := hide (turn_twice hs.size hs.small hm hfit)
  have HDF := hide (turn_dif hs.size hm hfit)
  have HNE := hide (turn_ne hs.size h0 hm hfit)
  have HXL : Hid ((turnTo l pos mask 32).length = len) := by unfold Hid; rw [turnTo_length, hs.size]
  have HXS := hide (turnTo_small pos mask 32 hs.small)
  have HAL := hide (fun p m (h1 : m < 4294967296) (h2 : p + lenOf m ≤ 8 * len) (h3 : m <<< p = mask <<< pos) => turn_alike hs.size hs.small hm hfit h1 h2 h3)
  clear he hs hfit
  go_enter Tryd.func7, Tryd.ntmps7
  go_wp2_with fail
  refine H5.out.mono ?_
  rintro e w1 ⟨g1, rfl, hc1, hb1⟩
  have HB1 := hide hb1
  clear hb1
  go_wp2_with fail
  refine (turn_any a len cap l pos mask w1 (HS.out.below HB1.out) h0 hm HF.out).mono ?_
  rintro e w2 ⟨g2, rfl, hown2, hb2⟩
  have HB2 := hide (chain HB1.out hb2)
  have HK2 := hide (hown2.bts HXL.out (by omega) HXS.out)
  have H6 := hide (turn_any (some ⟨g2, 0, none⟩) len len (turnTo l pos mask 32) pos mask w2 HK2.out h0 hm HF.out)
  rw [HTW.out] at H6
  clear hb2 hown2 hc1
  generalize turnTo l pos mask 32 = x at *
  go_wp2_with fail
  refine H6.out.mono ?_
  rintro e w3 ⟨g3, rfl, hown3, hb3⟩
  have HB3 := hide (chain HB2.out hb3)
  have HK3 := hide (HK2.out.below hb3)
  have HQ := hide (equal_any _ _ len len len cap l l w3 (hown3.bts HS.out.size (by omega) HS.out.small) (HS.out.below HB3.out))
  rw [show decide (l = l) = true by simp] at HQ
  clear hb3 hown3
  go_wp2_with fail
  refine HQ.out.mono ?_
  rintro e w4 ⟨rfl, hb4⟩
  have HB4 := hide (chain HB3.out hb4)
  have HK4 := hide (HK3.out.below hb4)
  clear hb4
  have H7 := hide (burst_any (E 4) w4 (HE.out.below HB4.out).v4 (HS.out.below HB4.out) HK4.out HNE.out)
  rw [HDF.out] at H7
  go_wp2_with fail
  refine H7.out.mono ?_
  rintro e w5 ⟨hb5, P, hp1, hp2, hres⟩
  obtain ⟨s, m, hps, hs31, hdiv, hm2, hodd, hmul, hlD, hlm, hsh⟩ := burst_turned hm hp1 hp2
  rcases hres with ⟨hbig, _⟩ | ⟨_, rfl⟩
  case inl => exfalso; have := lenOf_le (x := mask) (k := 32) hm; omega
  rw [hdiv, Nat.mod_eq_of_lt hm2]
  have HB5 := hide (chain HB4.out hb5)
  have HK5 := hide (HK4.out.below hb5)
  have gA : decide ((P : Int) < (pos : Int)) = false := by simp; omega
  have eB : (P : Int) - (pos : Int) = (s : Int) := by omega
  have gC : decide (31 < (s : Int)) = false := by simp; omega
  have hA : bits .and .u32 (m : Int) 1 = 1 := by rw [and1 m hm2, hodd]; rfl
  have hM : (m : Int) * 2 ^ s = (mask : Int) := by rw [← hmul]; simp
  have hM1 : IntKind.u32.wrap ((m : Int) * 2 ^ s) = (mask : Int) := by rw [hM]; simp [IntKind.wrap, IntKind.bits, IntKind.signed]; omega
  have hM2 : (mask : Int) % 4294967296 = (mask : Int) := by omega
  have hm0 : m ≠ 0 := by intro e; rw [e] at hodd; simp at hodd
  have hfit2 : P + lenOf m ≤ 8 * len := by have := HF.out; omega
  have H8 := hide (turn_any a len cap l P m w5 (HS.out.below HB5.out) hm0 hm2 hfit2)
  rw [HAL.out P m hm2 hfit2 hsh] at H8
  have hs31' := hide hs31
  clear hp1 hp2 hps hdiv hodd hmul hlD hlm hsh hb5 hfit2 hm0 H7 HK4 HK3 HK2
  go_wp2_with fail
  refine H8.out.mono ?_
  rintro e w6 ⟨g6, rfl, hown6, hb6⟩
  have HB6 := hide (chain HB5.out hb6)
  have H9 := hide (equal_any _ _ len len len len x x w6 (hown6.bts HXL.out (by omega) HXS.out) (HK5.out.below hb6))
  rw [show decide (x = x) = true by simp] at H9
  clear hb6 hown6
  go_wp2_with fail
  refine H9.out.mono ?_
  rintro e w7 ⟨rfl, hb7⟩
  go_wp2
  go_ret
  exact ⟨rfl, chain HB6.out hb7⟩

theorem law {E : Nat → Addr} (a : Option Addr) (len cap : Nat) (l : List Nat) (pos : Int) (mask : Nat) (w : World) (he : Errs w E) (hs : Bts w a len cap l) (hr : len ≤ 140737488351232) (_hp0 : -9223372036854775808 ≤ pos) (_hp1 : pos ≤ 9223372036854775807) (hm : mask < 4294967296) :
    Calls Tryd.prog 7 #[.slice a len cap, .int .i64 pos, .int .u32 (mask : Int)] w fun e w' => e = .returned (.bool true) ∧ Below w.heap.size w w' := by
  by_cases hbad : mask = 0 ∨ pos < 0 ∨ 8 * (len : Int) - (lenOf mask : Int) < pos
  · exact law_bad he a len cap pos mask hr hm hbad
  · obtain ⟨p, rfl⟩ : ∃ p : Nat, pos = (p : Int) := ⟨pos.toNat, by omega⟩
    exact law_good he a len cap l p mask hs hr (by omega) hm (by omega)
end Go.Proofs.YtfggpdddoaageabDoor.crcBack
