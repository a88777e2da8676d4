/-
  Walk of the law CrcTold.
-/
import Derived.Test.YtfggpdddoaageabDoorNine
import Derived.Test.YtfggpdddoaageabDoorRefTurn
import Derived.Test.YtfggpdddoaageabDoorTold
import Derived.Test.YtfggpdddoaageabDoorPlain
namespace Go.Proofs.YtfggpdddoaageabDoor.crcTold
open Go.RowKit FerryCrc

set_option maxRecDepth 100000 in
theorem law {E : Nat → Addr} (a : Option Addr) (len cap : Nat) (l : List Nat) (pos : Int) (mask : Nat) (w : World) (he : Errs w E) (hs : Bts w a len cap l) (hr : len ≤ 140737488351232) (_hp0 : -9223372036854775808 ≤ pos) (_hp1 : pos ≤ 9223372036854775807) (hm : mask < 4294967296) :
    Calls Tryd.prog 6 #[.slice a len cap, .int .i64 pos, .int .u32 (mask : Int)] w fun e w' => e = .returned (.bool true) ∧ Below w.heap.size w w' := by
  have HE := hide he
  have HS := hide hs
  have hsm := hs.small
  have hsz := hide hs.size
  clear he hs
  go_enter Tryd.func6, Tryd.ntmps6
  go_wp2_with fail
  refine (awake_any w).mono ?_
  rintro e w1 ⟨rfl, hb1⟩
  go_wp2_with fail
  refine (seal_any a len cap l w1 (HS.out.below hb1) (by omega)).mono ?_
  rintro e w2 ⟨g, rfl, hown2, hb2⟩
  have hslen : (sealOf l).length = len + 4 := by rw [sealOf_length, hsz.out]
  have hs2 := hown2.bts hslen (by omega) (sealOf_small hsm)
  have hb12 := chain hb1 hb2
  have HB := hide hb12
  have HS2 := hide hs2
  have HN := hide hslen
  clear hb12 hb1 hb2 hown2 hs2 hslen
  by_cases hbad : mask = 0 ∨ pos < 0 ∨ 8 * (len + 4 : Nat) < pos
  · go_wp2_with (go_at_call 17; refine (refTurn_low _ (len + 4) (len + 4) (sealOf l) pos mask w2 HS2.out hbad).mono ?_; rintro e w' ⟨rfl, rfl⟩)
    go_ret
    exact ⟨rfl, HB.out⟩
  · have h0 : mask ≠ 0 := fun e => hbad (.inl e)
    obtain ⟨p, rfl⟩ := Int.eq_ofNat_of_zero_le (show 0 ≤ pos by omega)
    have hp : p ≤ 8 * (len + 4) := by omega
    have H0 := hide h0
    clear hbad h0
    go_wp2_with fail
    refine (refTurn_any _ (len + 4) (len + 4) (sealOf l) p mask w2 HS2.out H0.out hm hp).mono ?_
    rintro e w3 ⟨hb3, ⟨hf, g3, c3, rfl, hown3⟩ | ⟨hf, rfl⟩⟩
    · have htl : (turnTo (sealOf l) p mask 32).length = len + 4 := by rw [turnTo_length, HN.out]
      have hts := turnTo_small p mask 32 (sealOf_small hsm)
      have hbt := hown3.bts htl (by omega) hts
      have hng : ¬ Good (turnTo (sealOf l) p mask 32) := by
        refine told (l := sealOf l) (pos := p) (mask := mask) (by rw [HN.out]; omega) (sealOf_small hsm) hts (by rw [htl, HN.out]) ?_ H0.out hm (seal_good hsm)
        rw [num_turnTo _ _ _ _ (fun i hi h => by rw [HN.out]; exact hf i hi h), Nat.mod_eq_of_lt hm]
      have hE3 := HE.out.below (chain HB.out hb3)
      have HNG := hide hng
      have HBT := hide hbt
      have HE3 := hide hE3
      have HB3 := hide hb3
      clear hng hbt hE3 hb3 hts htl hown3 hf
      generalize turnTo (sealOf l) p mask 32 = t at *
      go_wp2_with fail
      refine (open_any _ (len + 4) c3 t (E 6) w3 HE3.out.v6 HBT.out (by omega)).mono ?_
      rintro e w4 ⟨hb4, ⟨hgood, _⟩ | ⟨_, rfl⟩⟩
      · exact absurd hgood HNG.out
      · have HB4 := hide hb4
        clear hb4
        go_wp2_with fail
        refine (plain_yes (HE3.out.below HB4.out) (sent (E 6)) 6 (bare_sent E 6 (by decide) (by decide))).mono ?_
        rintro e w5 ⟨rfl, hb5⟩
        go_wp2
        go_ret
        exact ⟨rfl, chain (chain (chain HB.out HB3.out) HB4.out) hb5⟩
    · have HB3 := hide hb3
      clear hb3
      go_wp2
      go_ret
      exact ⟨rfl, chain HB.out HB3.out⟩
end Go.Proofs.YtfggpdddoaageabDoor.crcTold
