/-
  Walk of the law CrcForges.
-/
import Derived.Test.YtfggpdddoaageacDoorForge
import Derived.Test.YtfggpdddoaageacDoorEqual
import Derived.Test.YtfggpdddoaageacDoorPlain
import Derived.BigQuiet
import Derived.Deep.QuietTactic
namespace Go.Proofs.YtfggpdddoaageacDoor.crcForges
open Go.RowKit FerryCrc

theorem five_bts (w : World) : Bts (w.alloc (.cells #[.int .u8 1, .int .u8 2, .int .u8 3, .int .u8 4, .int .u8 5] 5)) (some ⟨w.heap.size, 0, none⟩) 5 5 [1, 2, 3, 4, 5] := by
  refine ⟨rfl, by decide, by decide, by decide, fun e => by simp at e, fun k hk => ⟨_, _, rfl, ?_⟩⟩
  rw [World.cell?_alloc_at _ _ _ _ rfl]
  match k, hk with
  | 0, _ => exact ⟨_, rfl, rfl⟩
  | 1, _ => exact ⟨_, rfl, rfl⟩
  | 2, _ => exact ⟨_, rfl, rfl⟩
  | 3, _ => exact ⟨_, rfl, rfl⟩
  | 4, _ => exact ⟨_, rfl, rfl⟩
theorem patch_five (w : World) : Calls Tryd.prog 9 #[.slice (some ⟨w.heap.size, 0, none⟩) 5 5, .int .i64 1, .int .u32 7] (w.alloc (.cells #[.int .u8 1, .int .u8 2, .int .u8 3, .int .u8 4, .int .u8 5] 5)) fun e w' =>
    ∃ g, e = .returned (.tuple #[.slice (some ⟨g, 0, none⟩) 5 5, .nilIface]) ∧ Bts w' (some ⟨g, 0, none⟩) 5 5 (patchOf [1, 2, 3, 4, 5] 1 7) ∧ w'.cell? ⟨g, 0, none⟩ = some (.int .u8 1) ∧ Below w.heap.size w w' := by
  refine (patch_any (some ⟨w.heap.size, 0, none⟩) 5 5 [1, 2, 3, 4, 5] 1 7 _ (five_bts w) (by decide) (by decide)).mono ?_
  rintro e w' ⟨g, he, hown, hb⟩
  refine ⟨g, he, hown.bts rfl (by decide) (patchOf_small (by decide)), ?_, ((Below.refl _ _).alloc (Nat.le_refl _) _).trans (hb.mono (by simp))⟩
  exact hown.cellAt rfl 0 1 rfl

set_option maxRecDepth 100000 in
set_option maxHeartbeats 1000000 in
theorem law_bad {w : World} {E : Nat → Addr} (he : Errs w E) (a : Option Addr) (len cap : Nat) (pos : Int) (want : Nat) (hr : len ≤ 140737488351232) (hbad : pos < 0 ∨ (len : Int) - 4 < pos) :
    Calls Tryd.prog 3 #[.slice a len cap, .int .i64 pos, .int .u32 (want : Int)] w fun e w' => e = .returned (.bool true) ∧ Below w.heap.size w w' := by
  have HE := hide he
  have H5 := hide (patch_five w)
  have HS7 := hide (forge_sum (l := [1, 2, 3, 4, 5]) (p := 1) (want := 7) (by decide) (by decide))
  clear he
  generalize patchOf [1, 2, 3, 4, 5] 1 7 = x5 at *
  go_enter Tryd.func3, Tryd.ntmps3
  go_wp2_with fail
  refine H5.out.mono ?_
  rintro e w1 ⟨g1, rfl, hk1, hc1, hb1⟩
  have H6 := hide (sum_any _ 5 5 x5 w1 hk1)
  rw [HS7.out] at H6
  have HB1 := hide hb1
  clear hb1 hk1
  go_wp2_with fail
  refine H6.out.mono ?_
  rintro e w2 ⟨rfl, hb2⟩
  have HB2 := hide (chain HB1.out hb2)
  clear hb2
  by_cases h0 : pos < 0
  · have hd0 : decide (pos < 0) = true := by simp; omega
    go_wp2_with fail
    refine (patch_bad a len cap pos want (E 12) w2 (HE.out.below HB2.out).v12 (by omega) hbad).mono ?_
    rintro e w3 ⟨rfl, hb3⟩
    have HB3 := hide (chain HB2.out hb3)
    clear hb3
    go_wp2_with fail
    refine (plain_yes (HE.out.below HB3.out) (sent (E 12)) 12 (bare_sent E 12 (by decide) (by decide))).mono ?_
    rintro e w4 ⟨rfl, hb4⟩
    go_wp2
    go_ret
    exact ⟨rfl, chain HB3.out hb4⟩
  · have hd0 : decide (pos < 0) = false := by simp; omega
    have hd1 : decide ((len : Int) - 4 < pos) = true := by simp; omega
    go_wp2_with fail
    refine (patch_bad a len cap pos want (E 12) w2 (HE.out.below HB2.out).v12 (by omega) hbad).mono ?_
    rintro e w3 ⟨rfl, hb3⟩
    have HB3 := hide (chain HB2.out hb3)
    clear hb3
    go_wp2_with fail
    refine (plain_yes (HE.out.below HB3.out) (sent (E 12)) 12 (bare_sent E 12 (by decide) (by decide))).mono ?_
    rintro e w4 ⟨rfl, hb4⟩
    go_wp2
    go_ret
    exact ⟨rfl, chain HB3.out hb4⟩

set_option maxRecDepth 100000 in
set_option maxHeartbeats 1000000 in
theorem law_good {w : World} (a : Option Addr) (len cap : Nat) (l : List Nat) (p want : Nat) (hs : Bts w a len cap l) (hr : len ≤ 140737488351232) (hp : p + 4 ≤ len) (hw : want < 4294967296) :
    Calls Tryd.prog 3 #[.slice a len cap, .int .i64 (p : Int), .int .u32 (want : Int)] w fun e w' => e = .returned (.bool true) ∧ Below w.heap.size w w' := by
  have H5 := hide (patch_five w)
  have HS7 := hide (forge_sum (l := [1, 2, 3, 4, 5]) (p := 1) (want := 7) (by decide) (by decide))
  have HS := hide hs
  have hpl : p + 4 ≤ l.length := by rw [hs.size]; exact hp
  have HF := hide (forge_sum (p := p) hs.small hw)
  have HBK := hide (forge_back (want := want) hpl hs.small)
  have HXL : Hid ((patchOf l p want).length = len) := by unfold Hid; rw [patchOf_length hpl, hs.size]
  have HXS := hide (patchOf_small (l := l) (p := p) (want := want) hs.small)
  have HXG := hide (fun k (hk : k < p ∨ p + 4 ≤ k) => patchOf_get (want := want) hpl hk)
  have hsl : sumOf l < 4294967296 := xor_lt32 (mvs_lt (by decide) hs.small) (by decide)
  have hd0 : decide ((p : Int) < 0) = false := by simp
  have hd1 : decide ((len : Int) - 4 < (p : Int)) = false := by simp; omega
  obtain ⟨b, off, rfl, _⟩ := hs.cell 0 (by omega)
  clear hs
  generalize patchOf [1, 2, 3, 4, 5] 1 7 = x5 at *
  go_enter Tryd.func3, Tryd.ntmps3
  go_wp2_with fail
  refine H5.out.mono ?_
  rintro e w1 ⟨g1, rfl, hk1, hc1, hb1⟩
  have H6 := hide (sum_any _ 5 5 x5 w1 hk1)
  rw [HS7.out] at H6
  have HB1 := hide hb1
  clear hb1 hk1
  go_wp2_with fail
  refine H6.out.mono ?_
  rintro e w2 ⟨rfl, hb2⟩
  have HB2 := hide (chain HB1.out hb2)
  clear hb2 hc1
  go_wp2_with fail
  refine (patch_any _ len cap l p want w2 (HS.out.below HB2.out) hp hw).mono ?_
  rintro e w3 ⟨g3, rfl, hown3, hb3⟩
  have HB3 := hide (chain HB2.out hb3)
  have HK3 := hide (hown3.bts HXL.out (by omega) HXS.out)
  have HP := hide (fun wx (hx : Bts wx (some ⟨g3, 0, none⟩) len len (patchOf l p want)) => patch_any (some ⟨g3, 0, none⟩) len len (patchOf l p want) p (sumOf l) wx hx hp hsl)
  rw [HBK.out] at HP
  clear hb3 hown3
  generalize patchOf l p want = x at *
  have H7 := hide (sum_any _ len len x w3 HK3.out)
  rw [HF.out] at H7
  go_wp2_with fail
  refine H7.out.mono ?_
  rintro e w4 ⟨rfl, hb4⟩
  have HB4 := hide (chain HB3.out hb4)
  have HK4 := hide (HK3.out.below hb4)
  clear hb4
  go_wp2
  go_loopw [9] (fun i wr => ∃ k : Nat, k ≤ len ∧ i = .int .i64 k ∧ Below w4.heap.size w4 wr) (fun i _ => len - (intOf i).toNat)
  case atStart => exact ⟨0, by omega, rfl, Below.refl _ _⟩
  case round =>
    obtain ⟨k, hk, rfl, hbw⟩ := hrel
    have HBW := hide hbw
    clear hbw
    by_cases hlt : k < len
    · have hx4 := HK4.out.below HBW.out
      have hl4 := HS.out.below (chain HB4.out HBW.out)
      obtain ⟨b1, o1, e1, y, hy, cy⟩ := hx4.cell k hlt
      simp only [Option.some.injEq, Addr.mk.injEq, and_true] at e1
      obtain ⟨rfl, rfl⟩ := e1
      obtain ⟨b2, o2, e2, z, hz, cz⟩ := hl4.cell k hlt
      simp only [Option.some.injEq, Addr.mk.injEq, and_true] at e2
      obtain ⟨rfl, rfl⟩ := e2
      rw [Nat.zero_add] at cy
      clear hx4 hl4
      by_cases h1 : k < p
      · obtain rfl : y = z := by
          have := HXG.out k (.inl h1)
          rw [hy, hz] at this
          exact Option.some.inj this
        clear hy hz
        have g1 : decide ((k : Int) < (p : Int)) = true := by simp; omega
        go_wp2
        go_quiet (fail)
        go_wp2
        go_roundw
        case rel => exact ⟨k + 1, by omega, by go_num, below_drewN HBW.out _⟩
        case measure => simp [intOf]; omega
      · have g1 : decide ((k : Int) < (p : Int)) = false := by simp; omega
        by_cases h2 : p + 4 ≤ k
        · obtain rfl : y = z := by
            have := HXG.out k (.inr h2)
            rw [hy, hz] at this
            exact Option.some.inj this
          clear hy hz
          have g2 : decide ((p : Int) + 4 ≤ (k : Int)) = true := by simp; omega
          go_wp2
          go_quiet (fail)
          go_wp2
          go_roundw
          case rel => exact ⟨k + 1, by omega, by go_num, below_drewN HBW.out _⟩
          case measure => simp [intOf]; omega
        · clear hy hz cy cz
          have g2 : decide ((p : Int) + 4 ≤ (k : Int)) = false := by simp; omega
          go_wp2
          go_quiet (fail)
          go_wp2
          go_roundw
          case rel => exact ⟨k + 1, by omega, by go_num, below_drewN HBW.out _⟩
          case measure => simp [intOf]; omega
    · have HBB := hide (chain HB4.out HBW.out)
      go_wp2_with fail
      refine (sum_any _ len cap l wr (HS.out.below HBB.out)).mono ?_
      rintro e w5 ⟨rfl, hb5⟩
      have HB5 := hide (chain HBB.out hb5)
      have H8 := hide (HP.out w5 ((HK4.out.below HBW.out).below hb5))
      clear hb5
      go_wp2_with fail
      refine H8.out.mono ?_
      rintro e w6 ⟨g6, rfl, hown6, hb6⟩
      have HB6 := hide (chain HB5.out hb6)
      have H9 := hide (equal_any _ _ len len len cap l l w6 (hown6.bts HS.out.size (by omega) HS.out.small) (HS.out.below HB6.out))
      rw [show decide (l = l) = true by simp] at H9
      clear hb6 hown6
      go_wp2_with fail
      refine H9.out.mono ?_
      rintro e w7 ⟨rfl, hb7⟩
      go_wp2
      go_ret
      exact ⟨rfl, chain HB6.out hb7⟩

theorem law {E : Nat → Addr} (a : Option Addr) (len cap : Nat) (l : List Nat) (pos : Int) (want : Nat) (w : World) (he : Errs w E) (hs : Bts w a len cap l) (hr : len ≤ 140737488351232) (_hp0 : -9223372036854775808 ≤ pos) (_hp1 : pos ≤ 9223372036854775807) (hw : want < 4294967296) :
    Calls Tryd.prog 3 #[.slice a len cap, .int .i64 pos, .int .u32 (want : Int)] w fun e w' => e = .returned (.bool true) ∧ Below w.heap.size w w' := by
  by_cases hbad : pos < 0 ∨ (len : Int) - 4 < pos
  · exact law_bad he a len cap pos want hr hbad
  · obtain ⟨p, rfl⟩ := Int.eq_ofNat_of_zero_le (show 0 ≤ pos by omega)
    exact law_good a len cap l p want hs hr (by omega) hw
end Go.Proofs.YtfggpdddoaageacDoor.crcForges
