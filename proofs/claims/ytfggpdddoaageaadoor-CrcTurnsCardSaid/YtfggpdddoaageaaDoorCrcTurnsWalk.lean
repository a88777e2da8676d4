/-
  Walk of the law CrcTurns.
-/
import Derived.Test.YtfggpdddoaageaaDoorBurstBoth
import Derived.Test.YtfggpdddoaageaaDoorCrcBurstsWalk
import Derived.Test.YtfggpdddoaageaaDoorEqual
namespace Go.Proofs.YtfggpdddoaageaaDoor.crcTurns
open Go.RowKit FerryCrc

theorem turn_two (w : World) : Calls Tryd.prog 20 #[.slice (some ⟨w.heap.size, 0, none⟩) 2 2, .int .i64 6, .int .u32 5] (w.alloc (.cells #[.int .u8 0, .int .u8 0] 5)) fun e w' =>
    ∃ g, e = .returned (.tuple #[.slice (some ⟨g, 0, none⟩) 2 2, .nilIface]) ∧ Bts w' (some ⟨g, 0, none⟩) 2 2 [64, 1] ∧ Below w.heap.size w w' := by
  refine (turn_any (some ⟨w.heap.size, 0, none⟩) 2 2 [0, 0] 6 5 _ (crcBursts.pair_bts w 0 0 (by decide) (by decide)) (by decide) (by decide) (by decide +kernel)).mono ?_
  rintro e w' ⟨g, he, hown, hb⟩
  rw [show turnTo [0, 0] 6 5 32 = [64, 1] by decide +kernel] at hown
  exact ⟨g, he, hown.bts rfl (by decide) (by decide), (crcBursts.below_al w _).trans (hb.mono (by simp))⟩

theorem turn_both {w : World} {E : Nat → Addr} (he : Errs w E) {a : Option Addr} {len cap : Nat} {l : List Nat} (hs : Bts w a len cap l) (hr : len ≤ 140737488351232) (pos : Int) (mask : Nat) (hm : mask < 4294967296) :
    ∃ (c : Nat) (v : Value) (t : List Nat), Bare E v c ∧
      (Calls Tryd.prog 21 #[.slice a len cap, .int .i64 pos, .int .u32 (mask : Int)] w fun e w' => Below w.heap.size w w' ∧ ∃ g k cc, e = .returned (.tuple #[.slice g k cc, .int .i64 (c : Int)]) ∧ Bts w' g k cc t) ∧
      ∀ wx, Below w.heap.size w wx → Calls Tryd.prog 20 #[.slice a len cap, .int .i64 pos, .int .u32 (mask : Int)] wx fun e w' => Below wx.heap.size wx w' ∧ ∃ g k cc, e = .returned (.tuple #[.slice g k cc, v]) ∧ Bts w' g k cc t := by
  have nilb : ∀ w : World, Bts w none 0 0 [] := fun w => ⟨rfl, by decide, by decide, by simp, fun _ => ⟨rfl, rfl⟩, fun k hk => by omega⟩
  by_cases hbad : mask = 0 ∨ pos < 0 ∨ 8 * (len : Int) - (lenOf mask : Int) < pos
  · refine ⟨12, sent (E 12), [], bare_sent E 12 (by decide) (by decide), ?_, fun wx hx => (turn_bad a len cap pos mask (E 12) wx (he.below hx).v12 (by omega) hm hbad).mono ?_⟩
    · by_cases hb2 : mask = 0 ∨ pos < 0 ∨ 8 * (len : Int) < pos
      · refine (refTurn_low a len cap l pos mask w hs (by omega)).mono ?_
        rintro e w' ⟨rfl, rfl⟩
        exact ⟨Below.refl _ _, none, 0, 0, rfl, nilb _⟩
      · obtain ⟨p, rfl⟩ : ∃ p : Nat, pos = (p : Int) := ⟨pos.toNat, by omega⟩
        have h0 : mask ≠ 0 := by omega
        refine (refTurn_any a len cap l p mask w hs h0 hm (by omega)).mono ?_
        rintro e w' ⟨hb, ⟨hf, _⟩ | ⟨_, rfl⟩⟩
        · rw [fits_iff h0 hm] at hf
          omega
        · exact ⟨hb, none, 0, 0, rfl, nilb _⟩
    · rintro e w' ⟨rfl, hb⟩
      exact ⟨hb, none, 0, 0, rfl, nilb _⟩
  · obtain ⟨p, rfl⟩ : ∃ p : Nat, pos = (p : Int) := ⟨pos.toNat, by omega⟩
    have h0 : mask ≠ 0 := by omega
    have hfit : p + lenOf mask ≤ 8 * len := by omega
    have hlen : (turnTo l p mask 32).length = len := by rw [turnTo_length, hs.size]
    refine ⟨0, .nilIface, turnTo l p mask 32, bare_nil E, (refTurn_any a len cap l p mask w hs h0 hm (by omega)).mono ?_, fun wx hx => (turn_any a len cap l p mask wx (hs.below hx) h0 hm hfit).mono ?_⟩
    · rintro e w' ⟨hb, ⟨_, g, c, rfl, hown⟩ | ⟨hf, _⟩⟩
      · exact ⟨hb, some ⟨g, 0, none⟩, len, c, rfl, hown.bts hlen (by omega) (turnTo_small _ _ _ hs.small)⟩
      · exact absurd ((fits_iff h0 hm).2 hfit) hf
    · rintro e w' ⟨g, rfl, hown, hb⟩
      exact ⟨hb, some ⟨g, 0, none⟩, len, len, rfl, hown.bts hlen (by omega) (turnTo_small _ _ _ hs.small)⟩

set_option maxRecDepth 100000 in
set_option maxHeartbeats 1000000 in
theorem law {E : Nat → Addr} (a : Option Addr) (len cap : Nat) (l : List Nat) (pos : Int) (mask : Nat) (w : World) (he : Errs w E) (hs : Bts w a len cap l) (hr : len ≤ 140737488351232) (_hp0 : -9223372036854775808 ≤ pos) (_hp1 : pos ≤ 9223372036854775807) (hm : mask < 4294967296) :
    Calls Tryd.prog 5 #[.slice a len cap, .int .i64 pos, .int .u32 (mask : Int)] w fun e w' => e = .returned (.bool true) ∧ Below w.heap.size w w' := by
  have HE := hide he
  have HS := hide hs
  have H1 := hide (turn_two w)
  clear he hs
  go_enter Tryd.func5, Tryd.ntmps5
  go_wp2_with fail
  refine H1.out.mono ?_
  rintro e w1 ⟨g1, rfl, hk1, hb1⟩
  have HQ := hide (equal_any _ _ 2 2 2 2 [64, 1] [64, 1] _ (hk1.below (crcBursts.below_al w1 (.cells #[.int .u8 64, .int .u8 1] 5))) (crcBursts.pair_bts w1 64 1 (by decide) (by decide)))
  rw [show decide (([64, 1] : List Nat) = [64, 1]) = true by simp] at HQ
  have HB1 := hide (chain hb1 (crcBursts.below_al w1 (.cells #[.int .u8 64, .int .u8 1] 5)))
  clear hk1 hb1
  go_wp2_with fail
  refine HQ.out.mono ?_
  rintro e w2 ⟨rfl, hb2⟩
  have HB2 := hide (chain HB1.out hb2)
  clear hb2
  obtain ⟨c, v, t, hbare, href, hcrc⟩ := turn_both (HE.out.below HB2.out) (HS.out.below HB2.out) hr pos mask hm
  have HR := hide href
  have HC := hide hcrc
  have HBA := hide hbare
  clear href hcrc hbare
  go_wp2_with fail
  refine HR.out.mono ?_
  rintro e w3 ⟨hb3, g3, k3, c3, rfl, hk3⟩
  have HB3 := hide (chain HB2.out hb3)
  have HC3 := hide (HC.out w3 hb3)
  have HK3 := hide hk3
  clear hb3 hk3
  go_wp2_with fail
  refine HC3.out.mono ?_
  rintro e w4 ⟨hb4, g4, k4, c4, rfl, hk4⟩
  have HB4 := hide (chain HB3.out hb4)
  have HK3' := hide (HK3.out.below hb4)
  have HK4 := hide hk4
  clear hb4 hk4
  go_wp2_with fail
  refine (plain_yes (HE.out.below HB4.out) v c HBA.out).mono ?_
  rintro e w5 ⟨rfl, hb5⟩
  have HB5 := hide (chain HB4.out hb5)
  have HK5 := hide (HK3'.out.below hb5)
  have HQ2 := hide (equal_any _ _ k4 c4 k3 c3 t t w5 (HK4.out.below hb5) HK5.out)
  rw [show decide (t = t) = true by simp] at HQ2
  clear hb5
  go_wp2_with fail
  refine HQ2.out.mono ?_
  rintro e w6 ⟨rfl, hb6⟩
  have HB6 := hide (chain HB5.out hb6)
  have HK6 := hide (HK5.out.below hb6)
  clear hb6
  obtain ⟨P, M, c', v', hbare', hM, href', hcrc'⟩ := burst_both (HE.out.below HB6.out) (HS.out.below HB6.out) HK6.out
  have HR' := hide href'
  have HC' := hide hcrc'
  have HBA' := hide hbare'
  clear href' hcrc' hbare'
  go_wp2_with fail
  refine HR'.out.mono ?_
  rintro e w7 ⟨rfl, rfl⟩
  go_wp2_with fail
  refine (HC'.out w6 (Below.refl _ _)).mono ?_
  rintro e w8 ⟨rfl, hb8⟩
  have HB8 := hide (chain HB6.out hb8)
  clear hb8
  go_wp2_with fail
  refine (plain_yes (HE.out.below HB8.out) v' c' HBA'.out).mono ?_
  rintro e w9 ⟨rfl, hb9⟩
  go_wp2
  go_ret
  exact ⟨rfl, chain HB8.out hb9⟩
end Go.Proofs.YtfggpdddoaageaaDoor.crcTurns
