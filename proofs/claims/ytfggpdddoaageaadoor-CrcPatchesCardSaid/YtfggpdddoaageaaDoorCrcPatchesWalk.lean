/-
  Walk of the law CrcPatches.
-/
import Derived.Test.YtfggpdddoaageaaDoorRefPatch
import Derived.Test.YtfggpdddoaageaaDoorEqual
import Derived.Test.YtfggpdddoaageaaDoorPlain
namespace Go.Proofs.YtfggpdddoaageaaDoor.crcPatches
open Go.RowKit FerryCrc
set_option linter.unusedVariables false

theorem four_bts (w : World) : Bts (w.alloc (.cells #[.int .u8 0, .int .u8 0, .int .u8 0, .int .u8 0] 5)) (some ⟨w.heap.size, 0, none⟩) 4 4 [0, 0, 0, 0] := by
  refine ⟨rfl, by decide, by decide, by decide, fun e => by simp at e, fun k hk => ⟨_, _, rfl, ?_⟩⟩
  rw [World.cell?_alloc_at _ _ _ _ rfl]
  match k, hk with
  | 0, _ => exact ⟨_, rfl, rfl⟩
  | 1, _ => exact ⟨_, rfl, rfl⟩
  | 2, _ => exact ⟨_, rfl, rfl⟩
  | 3, _ => exact ⟨_, rfl, rfl⟩
theorem ones_bts (w : World) : Bts (w.alloc (.cells #[.int .u8 255, .int .u8 255, .int .u8 255, .int .u8 255] 5)) (some ⟨w.heap.size, 0, none⟩) 4 4 [255, 255, 255, 255] := by
  refine ⟨rfl, by decide, by decide, by decide, fun e => by simp at e, fun k hk => ⟨_, _, rfl, ?_⟩⟩
  rw [World.cell?_alloc_at _ _ _ _ rfl]
  match k, hk with
  | 0, _ => exact ⟨_, rfl, rfl⟩
  | 1, _ => exact ⟨_, rfl, rfl⟩
  | 2, _ => exact ⟨_, rfl, rfl⟩
  | 3, _ => exact ⟨_, rfl, rfl⟩
theorem four_is : patchOf [0, 0, 0, 0] 0 4294967295 = [255, 255, 255, 255] := by decide +kernel
theorem patch_four (w : World) : Calls Tryd.prog 24 #[.slice (some ⟨w.heap.size, 0, none⟩) 4 4, .int .i64 0, .int .u32 4294967295] (w.alloc (.cells #[.int .u8 0, .int .u8 0, .int .u8 0, .int .u8 0] 5)) fun e w' =>
    ∃ g, e = .returned (.tuple #[.slice (some ⟨g, 0, none⟩) 4 4, .nilIface]) ∧ Bts w' (some ⟨g, 0, none⟩) 4 4 [255, 255, 255, 255] ∧ Below w.heap.size w w' := by
  refine (patch_any (some ⟨w.heap.size, 0, none⟩) 4 4 [0, 0, 0, 0] 0 4294967295 _ (four_bts w) (by decide) (by decide)).mono ?_
  rintro e w' ⟨g, he, hown, hb⟩
  rw [four_is] at hown
  exact ⟨g, he, hown.bts rfl (by decide) (by decide), ((Below.refl _ _).alloc (Nat.le_refl _) _).trans (hb.mono (by simp))⟩

theorem eq_ones {w1 : World} {g1 : Nat} (h : Bts w1 (some ⟨g1, 0, none⟩) 4 4 [255, 255, 255, 255]) :
    Calls Tryd.prog 14 #[.slice (some ⟨g1, 0, none⟩) 4 4, .slice (some ⟨w1.heap.size, 0, none⟩) 4 4] (w1.alloc (.cells #[.int .u8 255, .int .u8 255, .int .u8 255, .int .u8 255] 5)) fun e w' => e = .returned (.bool true) ∧ Below w1.heap.size w1 w' := by
  have hb0 : Below w1.heap.size w1 (w1.alloc (.cells #[.int .u8 255, .int .u8 255, .int .u8 255, .int .u8 255] 5)) := (Below.refl _ _).alloc (Nat.le_refl _) _
  refine (equal_any _ _ 4 4 4 4 _ _ _ (h.below hb0) (ones_bts w1)).mono ?_
  rintro e w' ⟨rfl, hb⟩
  exact ⟨by simp, chain hb0 hb⟩

set_option maxRecDepth 100000 in
set_option maxHeartbeats 1000000 in
theorem law_bad {w : World} {E : Nat → Addr} (he : Errs w E) (a : Option Addr) (len cap : Nat) (pos : Int) (want : Nat) (hr : len ≤ 140737488351232) (hbad : pos < 0 ∨ (len : Int) - 4 < pos) :
    Calls Tryd.prog 7 #[.slice a len cap, .int .i64 pos, .int .u32 (want : Int)] w fun e w' => e = .returned (.bool true) ∧ Below w.heap.size w w' := by
  have HE := hide he
  have H5 := hide (patch_four w)
  have HBD := hide hbad
  clear he hbad
  go_enter Tryd.func7, Tryd.ntmps7
  go_wp2_with fail
  refine H5.out.mono ?_
  rintro e w1 ⟨g1, rfl, hk1, hb1⟩
  have HK1 := hide hk1
  have HB1 := hide hb1
  clear hb1 hk1 H5
  go_wp2_with fail
  refine (eq_ones HK1.out).mono ?_
  rintro e w2 ⟨rfl, hb2⟩
  have HB2 := hide (chain HB1.out hb2)
  clear hb2
  go_wp2_with fail
  refine (refPatch_bad a len cap pos want w2 (by omega) HBD.out).mono ?_
  rintro e w' ⟨rfl, rfl⟩
  go_wp2_with fail
  refine (patch_bad a len cap pos want (E 12) w2 (HE.out.below HB2.out).v12 (by omega) HBD.out).mono ?_
  rintro e w3 ⟨rfl, hb3⟩
  have HB3 := hide (chain HB2.out hb3)
  clear hb3
  go_wp2_with fail
  refine (plain_yes (HE.out.below HB3.out) (sent (E 12)) 12 (bare_sent E 12 (by decide) (by decide))).mono ?_
  rintro e w4 ⟨rfl, hb4⟩
  have HB4 := hide (chain HB3.out hb4)
  clear hb4
  go_wp2_with fail
  refine (equal_any none none 0 0 0 0 [] [] _ ⟨rfl, by decide, by decide, by simp, fun e => ⟨rfl, rfl⟩, fun k hk => by omega⟩ ⟨rfl, by decide, by decide, by simp, fun e => ⟨rfl, rfl⟩, fun k hk => by omega⟩).mono ?_
  rintro e w5 ⟨rfl, hb5⟩
  go_wp2
  go_ret
  exact ⟨by simp, chain HB4.out hb5⟩

set_option maxRecDepth 100000 in
set_option maxHeartbeats 1000000 in
theorem law_good {w : World} {E : Nat → Addr} (he : Errs w E) (a : Option Addr) (len cap : Nat) (l : List Nat) (p want : Nat) (hs : Bts w a len cap l) (hr : len ≤ 140737488351232) (hp : p + 4 ≤ len) (hw : want < 4294967296) :
    Calls Tryd.prog 7 #[.slice a len cap, .int .i64 (p : Int), .int .u32 (want : Int)] w fun e w' => e = .returned (.bool true) ∧ Below w.heap.size w w' := by
  have HE := hide he
  have HS := hide hs
  have H5 := hide (patch_four w)
  have hpl : p + 4 ≤ l.length := by rw [hs.size]; exact hp
  have HXL : Hid ((patchOf l p want).length = len) := by unfold Hid; rw [patchOf_length hpl, hs.size]
  have HXS := hide (patchOf_small (l := l) (p := p) (want := want) hs.small)
  clear he hs hpl
  go_enter Tryd.func7, Tryd.ntmps7
  go_wp2_with fail
  refine H5.out.mono ?_
  rintro e w1 ⟨g1, rfl, hk1, hb1⟩
  have HK1 := hide hk1
  have HB1 := hide hb1
  clear hb1 hk1 H5
  go_wp2_with fail
  refine (eq_ones HK1.out).mono ?_
  rintro e w2 ⟨rfl, hb2⟩
  have HB2 := hide (chain HB1.out hb2)
  clear hb2
  go_wp2_with fail
  refine (refPatch_any a len cap l p want w2 (HS.out.below HB2.out) hp hw).mono ?_
  rintro e w3 ⟨g3, c3, rfl, hown3, hb3⟩
  have HB3 := hide (chain HB2.out hb3)
  have HK3 := hide (hown3.bts HXL.out (by omega) HXS.out)
  clear hb3 hown3
  go_wp2_with fail
  refine (patch_any a len cap l p want w3 (HS.out.below HB3.out) hp hw).mono ?_
  rintro e w4 ⟨g4, rfl, hown4, hb4⟩
  have HB4 := hide (chain HB3.out hb4)
  have HK4 := hide (hown4.bts HXL.out (by omega) HXS.out)
  have HK3' := hide (HK3.out.below hb4)
  clear hb4 hown4 HK3
  generalize patchOf l p want = x at *
  go_wp2_with fail
  refine (plain_yes (HE.out.below HB4.out) .nilIface 0 (bare_nil E)).mono ?_
  rintro e w5 ⟨rfl, hb5⟩
  have HB5 := hide (chain HB4.out hb5)
  have HK5 := hide (HK4.out.below hb5)
  have HK6 := hide (HK3'.out.below hb5)
  clear hb5
  go_wp2_with fail
  refine (equal_any _ _ _ _ _ _ x x _ HK5.out HK6.out).mono ?_
  rintro e w6 ⟨rfl, hb6⟩
  go_wp2
  go_ret
  exact ⟨by simp, chain HB5.out hb6⟩

theorem law {E : Nat → Addr} (a : Option Addr) (len cap : Nat) (l : List Nat) (pos : Int) (want : Nat) (w : World) (he : Errs w E) (hs : Bts w a len cap l) (hr : len ≤ 140737488351232) (_hp0 : -9223372036854775808 ≤ pos) (_hp1 : pos ≤ 9223372036854775807) (hw : want < 4294967296) :
    Calls Tryd.prog 7 #[.slice a len cap, .int .i64 pos, .int .u32 (want : Int)] w fun e w' => e = .returned (.bool true) ∧ Below w.heap.size w w' := by
  by_cases hbad : pos < 0 ∨ (len : Int) - 4 < pos
  · exact law_bad he a len cap pos want hr hbad
  · obtain ⟨p, rfl⟩ := Int.eq_ofNat_of_zero_le (show 0 ≤ pos by omega)
    exact law_good he a len cap l p want hs hr (by omega) hw
end Go.Proofs.YtfggpdddoaageaaDoor.crcPatches
