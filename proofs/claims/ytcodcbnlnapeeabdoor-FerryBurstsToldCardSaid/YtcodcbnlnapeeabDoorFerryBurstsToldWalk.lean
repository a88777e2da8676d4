/-
  Walk of the law FerryBurstsTold.
-/
import Derived.Test.YtcodcbnlnapeeabDoorTopCut2
import Derived.Test.YtcodcbnlnapeeabDoorTurnBack
import Derived.Test.YtcodcbnlnapeeabDoorNineW
import Derived.Test.YtcodcbnlnapeeabDoorErrCodeQ
import Derived.Deep.CutBlock
import Derived.Lib.SlBytesConst
import Derived.Deep.DeepCutAuto
import Derived.Deep.Cut
namespace Go.Proofs.YtcodcbnlnapeeabDoor.ferryBurstsTold
open Go.RowKit FerryCrc
set_option linter.unusedVariables false
set_option linter.unusedSimpArgs false

theorem _root_.Go.Proofs.YtcodcbnlnapeeabDoor.Q.Errs.three' {w : World} {E : Nat → Addr} (h : Q.Errs w E) : E3 w E := ⟨h.v1, h.v3, h.v5⟩
theorem nine_marked (w : World) : Bts (w.alloc (.cells nineCells 5 (9, 10))) (some ⟨w.heap.size, 0, none⟩) 9 9 nine := by
  refine ⟨rfl, by decide, by decide, by decide, fun e => by simp at e, fun k hk => ⟨_, _, rfl, ?_⟩⟩
  have hcell : ∀ j, (w.alloc (.cells nineCells 5 (9, 10))).cell? ⟨w.heap.size, j, none⟩ = nineCells[j]? := fun j => by
    exact cell_of_row _ _ j _ _ _ (heap_alloc_new _ _)
  rw [hcell]
  match k, hk with
  | 0, _ => exact ⟨_, rfl, rfl⟩
  | 1, _ => exact ⟨_, rfl, rfl⟩
  | 2, _ => exact ⟨_, rfl, rfl⟩
  | 3, _ => exact ⟨_, rfl, rfl⟩
  | 4, _ => exact ⟨_, rfl, rfl⟩
  | 5, _ => exact ⟨_, rfl, rfl⟩
  | 6, _ => exact ⟨_, rfl, rfl⟩
  | 7, _ => exact ⟨_, rfl, rfl⟩
  | 8, _ => exact ⟨_, rfl, rfl⟩
theorem nine_conv (w : World) : (convert 42 42 (.slice (some ⟨w.heap.size, 0, none⟩) 9 9)).run Tryd.prog (w.alloc (.cells #[.int .u8 49, .int .u8 50, .int .u8 51, .int .u8 52, .int .u8 53, .int .u8 54, .int .u8 55, .int .u8 56, .int .u8 57] 5)) = .ok (.slice (some ⟨w.heap.size, 0, none⟩) 9 9) (w.alloc (.cells nineCells 5 (9, 10))) :=
  Lib.run_convert_bytes_const w 42 5 nineCells 9 9 Tryd.underlying42 Tryd.underlying5
set_option maxRecDepth 100000 in
set_option maxHeartbeats 1000000 in
theorem law {E : Nat → Addr} (a : Option Addr) (len cap : Nat) (l : List Nat) (pos : Int) (mask : Nat) (ct : Int) (w : World) (he : Q.Errs w E) (hs : Bts w a len cap l) (hr : len ≤ 140737488355320) (hp1 : -9223372036854775808 ≤ pos) (hp2 : pos ≤ 9223372036854775807) (hm : mask < 4294967296) (hc1 : -9223372036854775808 ≤ ct) (hc2 : ct ≤ 9223372036854775807) :
    Calls Tryd.prog 5 #[.agg #[.slice a len cap, .int .i64 pos, .int .u32 (mask : Int), .int .i64 ct]] w fun e w' => e = .returned (.bool true) ∧ Below w.heap.size w w' := by
  have HE := hide he
  have HS := hide hs
  have HSM := hide hs.small
  have HZ := hide hs.size
  have hn := nine_sum
  clear he hs
  go_enter Tryd.func5, Tryd.ntmps5
  go_wp2
  go_quiet (fail)
  have HB1 : Hid (Below w.heap.size w ((w.alloc (.cells #[.slice a len cap, .int .i64 pos, .int .u32 (mask : Int), .int .i64 ct] 74)).drewN nq)) := ⟨rfl, rfl, rfl, by simp [World.drewN], fun k hk => Below.heap_alloc _ _ _ hk⟩
  generalize (w.alloc (.cells #[.slice a len cap, .int .i64 pos, .int .u32 (mask : Int), .int .i64 ct] 74)).drewN nq = w1 at *
  have hcv := nine_conv w1
  go_wp2_with fail
  refine Calls.mono (sum_any _ 9 9 nine _ (nine_marked w1)) ?_
  rintro e w2 ⟨rfl, hb2⟩
  have HB2 := hide (HB1.out.trans (((Below.refl _ _).alloc (Nat.le_refl _) _).trans (hb2.mono (by simp)) |>.mono HB1.out.size))
  clear hb2 HB1 hcv
  go_wp2_with (refine append_copy rfl (.tmp 28) (.tmp 29) rfl rfl a len cap l rfl (HS.out.below HB2.out) ?_; intro a3 c3 w3 ho hx hb; have HX3 := hide hx; have HB3 := hide (chain HB2.out hb); clear ho hx hb)
  refine Calls.mono (seal_any a3 len c3 l w3 HX3.out hr) ?_
  rintro e w4 ⟨gs, rfl, ho4, hb4⟩
  have HN : Hid ((sealOf l).length = len + 4) := by unfold Hid; rw [sealOf_length, HZ.out]
  have HQ := hide (sealOf_small HSM.out)
  have HK4 := hide (ho4.bts HN.out (by omega) HQ.out)
  have HB4 := hide (chain HB3.out hb4)
  have HG : Hid (Good (sealOf l)) := seal_good HSM.out
  have HT : Hid ((sealOf l).take (len + 4 - 4) = l) := by
    unfold Hid sealOf
    rw [show len + 4 - 4 = l.length by rw [HZ.out]; omega, List.take_left]
  clear ho4 hb4 HX3 HB3
  go_wp2_with (refine append_copy rfl (.tmp 33) (.tmp 34) rfl rfl _ (len + 4) (len + 4) (sealOf l) rfl HK4.out ?_; intro a5 c5 w5 ho hx hb; have HX5 := hide hx; have HB5 := hide hb; clear ho hx hb)
  refine Calls.mono (open_any a5 (len + 4) c5 (sealOf l) (E 6) w5 (HE.out.below (chain HB4.out HB5.out)).v6 HX5.out (by omega)) ?_
  rintro e w6 ⟨hb6, ⟨_, g6, rfl, ho6⟩ | ⟨hbad, _⟩⟩
  case inr => exact absurd HG.out hbad
  rw [HT.out] at ho6
  rw [show len + 4 - 4 = len by omega] at ho6 ⊢
  have HB6 := hide (chain (chain HB4.out HB5.out) hb6)
  have HK6 := hide ((HK4.out.below HB5.out).below hb6)
  have s1 := bts_string (ho6.bts HZ.out (by omega) HSM.out)
  have s2 := bts_string (HS.out.below HB6.out)
  generalize str l = S at s1 s2
  clear ho6 hb6 HX5 HB5 HK4 HB4 HT
  go_upto_block 0 with fail
  clear s1 s2
  go_cut [10] from 56 to 65 (fun v wx => ∃ t : Nat, v = .int .i64 (t : Int) ∧ t ≤ 31 ∧ mask < 2 ^ (t + 1) ∧ (t = 0 ∨ 2 ^ t ≤ mask) ∧ wx = w6)
  case first =>
    go_wp2_with fail
    go_loopw [10] (fun i wr => ∃ t : Nat, t ≤ 31 ∧ i = .int .i64 (t : Int) ∧ Hid (mask < 2 ^ (t + 1)) ∧ wr = w6) (fun i _ => (intOf i).toNat)
    case atStart => exact ⟨31, by omega, rfl, hm, rfl⟩
    case round =>
      obtain ⟨t, ht, rfl, HM, rfl⟩ := hrel
      by_cases h0 : t = 0
      · subst h0
        go_wp2
        go_meet
        exact ⟨0, rfl, by omega, HM.out, .inl rfl, rfl⟩
      · have g1 : (0 : Int) < (t : Int) := by omega
        have g2 : (0 : Int) ≤ (t : Int) := by omega
        by_cases hlt : mask < 2 ^ t
        · have e1 : (mask : Int) / 2 ^ t = 0 := by
            have : ((mask / 2 ^ t : Nat) : Int) = 0 := by rw [Nat.div_eq_of_lt hlt]; rfl
            simpa using this
          have HLT := hide hlt
          clear hlt
          go_wp2
          refine ⟨⟨t - 1, by omega, ?_, ?_, trivial⟩, ?_⟩
          · congr 1
            omega
          · unfold Hid
            rw [show t - 1 + 1 = t by omega]
            exact HLT.out
          · simp [intOf]
            omega
        · have e1 : ((mask : Int) / 2 ^ t == 0) = false := by
            have hne : mask / 2 ^ t ≠ 0 := fun e => by
              rw [Nat.div_eq_zero_iff] at e
              have := Nat.two_pow_pos t
              omega
            have : ((mask / 2 ^ t : Nat) : Int) ≠ 0 := by omega
            rw [beq_eq_false_iff_ne]
            simpa using this
          have HLT := hide hlt
          clear hlt
          go_wp2
          go_meet
          exact ⟨t, rfl, ht, HM.out, .inr (by have := HLT.out; omega), rfl⟩
  case rest =>
    obtain ⟨t, rfl, ht, hm1, hm2, hwc⟩ := hcut
    subst hwc
    have HLT : Hid (mask ≠ 0 → lenOf mask = t + 1) := fun h0 => by
      rcases hm2 with rfl | h
      · exact lenOf_uniq (n := 0) (by simp; omega) hm1
      · exact lenOf_uniq h hm1
    clear hm1 hm2
    by_cases h1 : mask = 0
    · have HBAD : Hid (mask = 0 ∨ pos < 0 ∨ 8 * ((len + 4 : Nat) : Int) - (lenOf mask : Int) < pos) := .inl h1
      have f1 : ((mask : Int) != 0) = false := by simp [h1]
      clear h1
      go_wp2_with (refine append_copy rfl (.tmp 83) (.tmp 84) rfl rfl _ (len + 4) (len + 4) (sealOf l) rfl HK6.out ?_; intro a7 c7 w7 ho hx hb; have HX7 := hide hx; have HB7 := hide (chain HB6.out hb); clear ho hx hb)
      refine Calls.mono (turn_bad a7 (len + 4) c7 pos mask (E 12) w7 (HE.out.below HB7.out).v12 (by omega) hm HBAD.out) ?_
      rintro e w8 ⟨rfl, hb8⟩
      have HB8 := hide (chain HB7.out hb8)
      clear hb8
      go_wp2_with fail
      refine Calls.mono (Q.code_any (HE.out.below HB8.out) (sent (E 12)) 12 (-1) (.inr (.inl ⟨by decide, by decide, rfl, rfl⟩))) ?_
      rintro e w9 ⟨rfl, rfl⟩
      go_wp2_with fail
      refine Calls.mono (recordCut_any a len cap l ct w8 (HS.out.below HB8.out) (HE.out.below HB8.out).three' hc1 hc2) ?_
      rintro e w9 ⟨rfl, hb9⟩
      have HB9 := hide (chain HB8.out hb9)
      clear hb9
      go_wp2
      go_ret
      exact ⟨rfl, HB9.out⟩
    by_cases h2 : pos < 0
    · have HBAD : Hid (mask = 0 ∨ pos < 0 ∨ 8 * ((len + 4 : Nat) : Int) - (lenOf mask : Int) < pos) := .inr (.inl h2)
      have f1 : ((mask : Int) != 0) = true := by simp; omega
      have f2 : ¬ (0 : Int) ≤ pos := by omega
      clear h1
      go_wp2_with (refine append_copy rfl (.tmp 83) (.tmp 84) rfl rfl _ (len + 4) (len + 4) (sealOf l) rfl HK6.out ?_; intro a7 c7 w7 ho hx hb; have HX7 := hide hx; have HB7 := hide (chain HB6.out hb); clear ho hx hb)
      refine Calls.mono (turn_bad a7 (len + 4) c7 pos mask (E 12) w7 (HE.out.below HB7.out).v12 (by omega) hm HBAD.out) ?_
      rintro e w8 ⟨rfl, hb8⟩
      have HB8 := hide (chain HB7.out hb8)
      clear hb8
      go_wp2_with fail
      refine Calls.mono (Q.code_any (HE.out.below HB8.out) (sent (E 12)) 12 (-1) (.inr (.inl ⟨by decide, by decide, rfl, rfl⟩))) ?_
      rintro e w9 ⟨rfl, rfl⟩
      go_wp2_with fail
      refine Calls.mono (recordCut_any a len cap l ct w8 (HS.out.below HB8.out) (HE.out.below HB8.out).three' hc1 hc2) ?_
      rintro e w9 ⟨rfl, hb9⟩
      have HB9 := hide (chain HB8.out hb9)
      clear hb9
      go_wp2
      go_ret
      exact ⟨rfl, HB9.out⟩
    by_cases h3 : 8 * ((len : Int) + 4) - 1 - (t : Int) < pos
    · have HBAD : Hid (mask = 0 ∨ pos < 0 ∨ 8 * ((len + 4 : Nat) : Int) - (lenOf mask : Int) < pos) := .inr (.inr (by rw [HLT.out h1]; omega))
      have f1 : ((mask : Int) != 0) = true := by simp; omega
      have f2 : (0 : Int) ≤ pos := by omega
      have f3 : ¬ pos ≤ 8 * ((len : Int) + 4) - 1 - (t : Int) := by omega
      clear h1 h2
      go_wp2_with (refine append_copy rfl (.tmp 83) (.tmp 84) rfl rfl _ (len + 4) (len + 4) (sealOf l) rfl HK6.out ?_; intro a7 c7 w7 ho hx hb; have HX7 := hide hx; have HB7 := hide (chain HB6.out hb); clear ho hx hb)
      refine Calls.mono (turn_bad a7 (len + 4) c7 pos mask (E 12) w7 (HE.out.below HB7.out).v12 (by omega) hm HBAD.out) ?_
      rintro e w8 ⟨rfl, hb8⟩
      have HB8 := hide (chain HB7.out hb8)
      clear hb8
      go_wp2_with fail
      refine Calls.mono (Q.code_any (HE.out.below HB8.out) (sent (E 12)) 12 (-1) (.inr (.inl ⟨by decide, by decide, rfl, rfl⟩))) ?_
      rintro e w9 ⟨rfl, rfl⟩
      go_wp2_with fail
      refine Calls.mono (recordCut_any a len cap l ct w8 (HS.out.below HB8.out) (HE.out.below HB8.out).three' hc1 hc2) ?_
      rintro e w9 ⟨rfl, hb9⟩
      have HB9 := hide (chain HB8.out hb9)
      clear hb9
      go_wp2
      go_ret
      exact ⟨rfl, HB9.out⟩
    · obtain ⟨p, rfl⟩ := Int.eq_ofNat_of_zero_le (show 0 ≤ pos by omega)
      have HFIT : Hid (p + lenOf mask ≤ 8 * (len + 4)) := by unfold Hid; rw [HLT.out h1]; omega
      have H0 := hide h1
      have f1 : ((mask : Int) != 0) = true := by simp; omega
      have f2 : (0 : Int) ≤ (p : Int) := by omega
      have f3 : (p : Int) ≤ 8 * ((len : Int) + 4) - 1 - (t : Int) := by omega
      clear h1 h2 h3
      have HXL : Hid ((turnTo (sealOf l) p mask 32).length = len + 4) := by unfold Hid; rw [turnTo_length, HN.out]
      have HXS := hide (turnTo_small p mask 32 HQ.out)
      have HNG := hide (turn_told HN.out (by omega) HQ.out H0.out hm HFIT.out HG.out)
      have HTW := hide (turn_twice HN.out HQ.out hm HFIT.out)
      go_wp2_with (refine append_copy rfl (.tmp 83) (.tmp 84) rfl rfl _ (len + 4) (len + 4) (sealOf l) rfl HK6.out ?_; intro a7 c7 w7 ho hx hb; have HX7 := hide hx; have HB7 := hide (chain HB6.out hb); have HK7 := hide (HK6.out.below hb); clear ho hx hb)
      refine Calls.mono (turn_any a7 (len + 4) c7 (sealOf l) p mask w7 HX7.out H0.out hm HFIT.out) ?_
      rintro e w8 ⟨g8, rfl, ho8, hb8⟩
      have HX8 := hide (ho8.bts HXL.out (by omega) HXS.out)
      have HB8 := hide (chain HB7.out hb8)
      have HK8 := hide (HK7.out.below hb8)
      generalize turnTo (sealOf l) p mask 32 = X at *
      clear ho8 hb8 HX7
      go_wp2_with (refine append_copy rfl (.tmp 102) (.tmp 103) rfl rfl _ (len + 4) (len + 4) X rfl HX8.out ?_; intro a9 c9 w9 ho hx hb; have HX9 := hide hx; have HB9 := hide (chain HB8.out hb); have HK9 := hide (HK8.out.below hb); have HXX := hide (HX8.out.below hb); clear ho hx hb)
      refine Calls.mono (open_any a9 (len + 4) c9 X (E 6) w9 (HE.out.below HB9.out).v6 HX9.out (by omega)) ?_
      rintro e w10 ⟨hb10, ⟨hg, _⟩ | ⟨_, rfl⟩⟩
      · exact absurd hg HNG.out
      have HB10 := hide (chain HB9.out hb10)
      have HK10 := hide (HK9.out.below hb10)
      have HX10 := hide (HXX.out.below hb10)
      clear hb10 HX9
      go_wp2_with fail
      refine Calls.mono (Q.code_any (HE.out.below HB10.out) (sent (E 6)) 6 (-1) (.inr (.inl ⟨by decide, by decide, rfl, rfl⟩))) ?_
      rintro e w11 ⟨rfl, rfl⟩
      go_wp2_with fail
      refine Calls.mono (turn_any _ (len + 4) (len + 4) X p mask w10 HX10.out H0.out hm HFIT.out) ?_
      rintro e w11 ⟨g11, rfl, ho11, hb11⟩
      rw [HTW.out] at ho11
      have HB11 := hide (chain HB10.out hb11)
      have s1 := bts_string (ho11.bts HN.out (by omega) HQ.out)
      have s2 := bts_string (HK10.out.below hb11)
      generalize str (sealOf l) = S at s1 s2
      clear ho11 hb11
      go_wp2_with fail
      refine Calls.mono (recordCut_any a len cap l ct w11 (HS.out.below HB11.out) (HE.out.below HB11.out).three' hc1 hc2) ?_
      rintro e w12 ⟨rfl, hb12⟩
      have HB12 := hide (chain HB11.out hb12)
      clear hb12 s1 s2
      go_wp2
      go_ret
      exact ⟨rfl, HB12.out⟩
end Go.Proofs.YtcodcbnlnapeeabDoor.ferryBurstsTold
