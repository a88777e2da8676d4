/-
  Walk of the law CrcApart.
-/
import Derived.Test.YtfggpdddoaageabNine
import Derived.Test.YtfggpdddoaageabRefTurn
namespace Go.Proofs.Ytfggpdddoaageab.crcApart
open Go.RowKit FerryCrc

theorem law (a : Option Addr) (len cap : Nat) (l : List Nat) (pos : Int) (mask : Nat) (w : World) (hs : Bts w a len cap l) (_hp0 : -9223372036854775808 ≤ pos) (_hp1 : pos ≤ 9223372036854775807) (hm : mask < 4294967296) :
    Calls Try.prog 3 #[.slice a len cap, .int .i64 pos, .int .u32 (mask : Int)] w fun e w' => e = .returned (.bool true) ∧ Below w.heap.size w w' := by
  go_enter Try.func3, Try.ntmps3
  go_wp2_with fail
  refine (awake_any w).mono ?_
  rintro e w1 ⟨rfl, hb1⟩
  have hs1 := hs.below hb1
  by_cases hbad : mask = 0 ∨ pos < 0 ∨ 8 * len < pos
  · go_wp2_with (go_at_call 5; refine (refTurn_low a len cap l pos mask w1 hs1 hbad).mono ?_; rintro e w' ⟨rfl, rfl⟩)
    go_ret
    exact ⟨rfl, hb1⟩
  · have h0 : mask ≠ 0 := fun e => hbad (.inl e)
    obtain ⟨p, rfl⟩ := Int.eq_ofNat_of_zero_le (show 0 ≤ pos by omega)
    have hp : p ≤ 8 * len := by omega
    have HB := hide h0
    clear hbad h0
    go_wp2_with fail
    refine (refTurn_any a len cap l p mask w1 hs1 HB.out hm hp).mono ?_
    rintro e w2 ⟨hb2, ⟨hf, g, c, rfl, hown⟩ | ⟨hf, rfl⟩⟩
    · have hs2 := hs1.below hb2
      have hlen : (turnTo l p mask 32).length = len := by rw [turnTo_length, hs.size]
      have ht := hown.bts hlen hs.most (turnTo_small p mask 32 hs.small)
      have hne : sumOf (turnTo l p mask 32) ≠ sumOf l := by
        refine apart (pos := p) (mask := mask) (turnTo_length _ _ _ _) ?_ HB.out hm (by rw [hs.size]; exact hp)
        rw [num_turnTo _ _ _ _ (fun i hi h => by rw [hs.size]; exact hf i hi h), Nat.mod_eq_of_lt hm]
      have hneq : ((sumOf (turnTo l p mask 32) : Int) == (sumOf l : Int)) = false := by simp; omega
      clear hne hlen
      generalize turnTo l p mask 32 = t at *
      go_wp2_with fail
      refine (sum_any _ len c t w2 ht).mono ?_
      rintro e w3 ⟨rfl, hb3⟩
      go_wp2_with fail
      refine (sum_any a len cap l w3 (hs2.below hb3)).mono ?_
      rintro e w4 ⟨rfl, hb4⟩
      go_wp2
      go_ret
      exact ⟨ret_bool (by simp [bne, hneq]), chain (chain (chain hb1 hb2) hb3) hb4⟩
    · go_wp2
      go_ret
      exact ⟨rfl, chain hb1 hb2⟩
end Go.Proofs.Ytfggpdddoaageab.crcApart
