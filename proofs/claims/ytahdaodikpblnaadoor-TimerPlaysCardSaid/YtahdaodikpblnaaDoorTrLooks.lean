/-
  The law's looks: Check, Find, Next, Sort; plays, whatever the call.
-/
import Derived.Test.YtahdaodikpblnaaDoorTrPlays
namespace Go.Proofs.YtahdaodikpblnaaDoor
open Classical
open Go.RowKit
set_option linter.unusedVariables false
set_option linter.unusedSimpArgs false

set_option maxRecDepth 100000 in
set_option maxHeartbeats 4000000 in
theorem looks_any {w : World} {E : Nat → Addr} (he : Errs w E) (a : Option Addr) (len cap : Nat) (l : List Tm) (hs : Tms w a len cap l) (kd pr n : Int) (hm : len ≤ 8796093021952) :
    Calls Tryd.prog 28 #[.slice a len cap, .agg #[.int .i64 kd, .int .i64 pr, .int .i64 n]] w fun e w' => e = .returned (.bool true) ∧ Below w.heap.size w w' := by
  have HLEN := hide hs.size
  have N0 := new_below w (.cells #[.int .i64 kd, .int .i64 pr, .int .i64 n] 29)
  have X := hide N0
  have HS := hide (hs.below N0)
  have HE := hide (he.below N0)
  have g1 : (w.alloc (.cells #[.int .i64 kd, .int .i64 pr, .int .i64 n] 29)).cell? ⟨w.heap.size, 1, none⟩ = some (.int .i64 pr) := by rw [World.cell?_alloc_at _ _ _ _ rfl]; rfl
  have g2 : (w.alloc (.cells #[.int .i64 kd, .int .i64 pr, .int .i64 n] 29)).cell? ⟨w.heap.size, 2, none⟩ = some (.int .i64 n) := by rw [World.cell?_alloc_at _ _ _ _ rfl]; rfl
  have G1 := hide g1
  have G2 := hide g2
  clear hs he N0 g1 g2
  go_enter Tryd.func28, Tryd.ntmps28
  go_wp2_with fail
  generalize w.alloc (.cells #[.int .i64 kd, .int .i64 pr, .int .i64 n] 29) = W0 at *
  refine Calls.mono (rcheck_any W0 a len cap l HS.out n (by omega)) ?_
  rintro e w1 ⟨k1, rfl, hk1, b⟩
  subst hk1
  have g1 := cell_below G1.out b
  have G1 := hide g1
  have G2 := hide (cell_below G2.out b)
  have HS := hide (HS.out.below b)
  have HE := hide (HE.out.below b)
  have X := hide (chain X.out b)
  clear b
  go_wp2_with fail
  clear g1
  refine Calls.mono (rfind_any w1 a len cap l HS.out pr (by omega)) ?_
  rintro e w2 ⟨rfl, b⟩
  obtain ⟨fd, hfd⟩ : ∃ fd, findD l pr = fd := ⟨_, rfl⟩
  obtain ⟨fb, hfb⟩ : ∃ fb, (findT l pr).isSome = fb := ⟨_, rfl⟩
  rw [hfd, hfb]
  have HFD := hide hfd
  have HFB := hide hfb
  clear hfd hfb
  have G1 := hide (cell_below G1.out b)
  have G2 := hide (cell_below G2.out b)
  have HS := hide (HS.out.below b)
  have HE := hide (HE.out.below b)
  have X := hide (chain X.out b)
  clear b
  go_wp2_with fail
  refine Calls.mono (rnext_any w2 a len cap l HS.out (by omega)) ?_
  rintro e w3 ⟨rfl, b⟩
  obtain ⟨nd, hnd⟩ : ∃ nd, nx l = nd := ⟨_, rfl⟩
  obtain ⟨nb, hnb⟩ : ∃ nb, decide (0 < len) = nb := ⟨_, rfl⟩
  rw [hnd, hnb]
  have HND := hide hnd
  have HNB := hide hnb
  clear hnd hnb
  have G1 := hide (cell_below G1.out b)
  have G2 := hide (cell_below G2.out b)
  have HS := hide (HS.out.below b)
  have HE := hide (HE.out.below b)
  have X := hide (chain X.out b)
  clear b
  go_wp2_with fail
  refine Calls.mono (rsort_any w3 a len cap l HS.out (by omega)) ?_
  rintro e w4 ⟨x4, q4, rfl, hq4, h4, b⟩
  subst hq4
  obtain ⟨a4, c4, rfl, t4⟩ := town_tms h4
  have T4 := hide t4
  have G1 := hide (cell_below G1.out b)
  have G2 := hide (cell_below G2.out b)
  have HS := hide (HS.out.below b)
  have HE := hide (HE.out.below b)
  have X := hide (chain X.out b)
  clear b h4 t4
  have g1 := G1.out
  go_wp2_with fail
  go_region_held3 (fun wz => wz.cell? ⟨w.heap.size, 1, none⟩ = some (.int .i64 pr))
    (first | exact G1.out | exact K1.out)
    (first
      | (go_at_call 9; refine (copied_any _ a len cap l (tms_drew HS.out) (by omega)).mono ?_; rintro e w5 ⟨x5, rfl, h5, b5⟩; obtain ⟨a5, c5, rfl, t5⟩ := town_tms h5; have T5 := hide t5; have B5 := hide (undrew b5); have k1 := cell_below G1.out B5.out; have K1 := hide k1; clear h5 b5 t5)
      | (go_at_call 17; refine (tfind_any _ a5 _ c5 l T5.out pr (by rw [HLEN.out]; omega)).mono ?_; rintro e w6 ⟨rfl, b6⟩; rw [HFD.out, HFB.out]; have B6 := hide (chain B5.out b6); have m1 := cell_below K1.out b6; have K1 := hide m1; clear b6))
  rename_i hheld
  clear hheld
  have b := B6.out
  have G1 := hide (cell_below G1.out b)
  have G2 := hide (cell_below G2.out b)
  have HS := hide (HS.out.below b)
  have HE := hide (HE.out.below b)
  have X := hide (chain X.out b)
  have T4 := hide (T4.out.below b)
  clear b g1
  go_wp2_with fail
  refine Calls.mono (copied_any w6 a len cap l HS.out (by omega)) ?_
  rintro e w7 ⟨x7, rfl, h7, b⟩
  obtain ⟨a7, c7, rfl, t7⟩ := town_tms h7
  have T7 := hide t7
  have G1 := hide (cell_below G1.out b)
  have G2 := hide (cell_below G2.out b)
  have HS := hide (HS.out.below b)
  have HE := hide (HE.out.below b)
  have X := hide (chain X.out b)
  have T4 := hide (T4.out.below b)
  clear b h7 t7
  go_wp2_with fail
  refine Calls.mono (tnext_any w7 a7 _ c7 l T7.out (by rw [HLEN.out]; omega)) ?_
  rintro e w8 ⟨q8, rfl, hq8, b⟩
  rw [HLEN.out, HNB.out] at hq8
  subst hq8
  rw [HND.out]
  have G1 := hide (cell_below G1.out b)
  have G2 := hide (cell_below G2.out b)
  have HS := hide (HS.out.below b)
  have HE := hide (HE.out.below b)
  have X := hide (chain X.out b)
  have T4 := hide (T4.out.below b)
  clear b
  go_wp2_with fail
  refine Calls.mono (copied_any w8 a len cap l HS.out (by omega)) ?_
  rintro e w9 ⟨x9, rfl, h9, b⟩
  obtain ⟨a9, c9, rfl, t9⟩ := town_tms h9
  have T9 := hide t9
  have G1 := hide (cell_below G1.out b)
  have G2 := hide (cell_below G2.out b)
  have HS := hide (HS.out.below b)
  have HE := hide (HE.out.below b)
  have X := hide (chain X.out b)
  have T4 := hide (T4.out.below b)
  clear b h9 t9
  go_wp2_with fail
  refine Calls.mono (tsort_any HE.out.er3 a9 _ c9 l T9.out (by rw [HLEN.out]; omega)) ?_
  rintro e w10 ⟨x10, v10, rfl, hv10, h10, b⟩
  obtain ⟨a10, c10, rfl, t10⟩ := town_tms h10
  have T10 := hide t10
  have V10 := hide hv10
  have G1 := hide (cell_below G1.out b)
  have G2 := hide (cell_below G2.out b)
  have HS := hide (HS.out.below b)
  have HE := hide (HE.out.below b)
  have X := hide (chain X.out b)
  have T4 := hide (T4.out.below b)
  clear b h10 t10 hv10
  have g2 := G2.out
  obtain ⟨kc, hkc⟩ : ∃ kc, chkT l n = kc := ⟨_, rfl⟩
  have HKC := hide hkc
  obtain ⟨sc, hsc⟩ : ∃ sc, sortE l = sc := ⟨_, rfl⟩
  have HSC := hide hsc
  rw [hkc, hsc]
  rw [hsc] at V10
  clear hkc hsc
  go_wp2_with fail
  go_region_held3 (fun wz => wz.cell? ⟨w.heap.size, 2, none⟩ = some (.int .i64 n))
    (first | exact G2.out | exact K2.out)
    (first
      | (go_at_call 9; refine (copied_any _ a len cap l (tms_drew HS.out) (by omega)).mono ?_; rintro e w11 ⟨x11, rfl, h11, b11⟩; obtain ⟨a11, c11, rfl, t11⟩ := town_tms h11; have T11 := hide t11; have B11 := hide (undrew b11); have k2 := cell_below G2.out B11.out; have K2 := hide k2; clear h11 b11 t11)
      | (go_at_call 16; refine (tcheck_any (HE.out.below B11.out).er3 a11 _ c11 l T11.out n (by rw [HLEN.out]; omega)).mono ?_; rintro e w12 ⟨v12, rfl, hv12, b12⟩; rw [HKC.out] at hv12; have V12 := hide hv12; have B12 := hide (chain B11.out b12); have m2 := cell_below K2.out b12; have K2 := hide m2; clear b12 hv12)
      | (go_at_call 26; refine (lcode_any (HE.out.below B12.out) v12 _ V12.out).mono ?_; rintro e w13 ⟨rfl, b13⟩; have B13 := hide (chain B12.out b13); have m3 := cell_below K2.out b13; have K2 := hide m3; clear b13)
      | (go_at_call 14; refine (same_any a10 a4 _ _ c10 c4 _ _ (T10.out.below B13.out) (T4.out.below B13.out) (by have := sortL_len l; omega) (by have := sortL_len l; omega)).mono ?_; rintro e w14 ⟨rfl, b14⟩; rw [decide_eq_true rfl]; have B14 := hide (chain B13.out b14); have m4 := cell_below K2.out b14; have K2 := hide m4; clear b14)
      | (go_at_call 26; refine (lcode_any (HE.out.below B14.out) v10 _ V10.out).mono ?_; rintro e w15 ⟨rfl, b15⟩; have B15 := hide (chain B14.out b15); have m5 := cell_below K2.out b15; have K2 := hide m5; clear b15))
  rename_i hheld
  clear hheld
  have XZ := hide (chain X.out B15.out)
  go_wp2
  go_ret
  exact ⟨rfl, XZ.out⟩

set_option maxRecDepth 100000 in
set_option maxHeartbeats 2000000 in
theorem plays5_any {w : World} {E : Nat → Addr} (he : Errs w E) (a : Option Addr) (len cap : Nat) (l : List Tm) (hs : Tms w a len cap l) (pr n : Int) (hm : len ≤ 8796093021952) :
    Calls Tryd.prog 10 #[.slice a len cap, .agg #[.int .i64 5, .int .i64 pr, .int .i64 n]] w fun e w' => ∃ a' len' cap' l', e = .returned (.tuple #[.slice a' len' cap', .bool true]) ∧ Tms w' a' len' cap' l' ∧ len' ≤ 8796093021952 ∧ Below w.heap.size w w' := by
  have N0 := new_below w (.cells #[.int .i64 5, .int .i64 pr, .int .i64 n] 29)
  have X := hide N0
  have HS := hide (hs.below N0)
  have HE := hide (he.below N0)
  clear hs he N0
  go_enter Tryd.func10, Tryd.ntmps10
  go_wp2_with fail
  refine Calls.mono (looks_any HE.out a len cap l HS.out 5 pr n hm) ?_
  rintro e w1 ⟨rfl, b⟩
  have S1 := hide (HS.out.below b)
  have X1 := hide (chain X.out b)
  clear b
  go_wp2
  go_ret2
  exact ⟨_, _, _, _, rfl, S1.out, hm, X1.out⟩

theorem plays_any {w : World} {E : Nat → Addr} (he : Errs w E) (a : Option Addr) (len cap : Nat) (l : List Tm) (hs : Tms w a len cap l) (kd pr n : Int) (hm : len ≤ 8796093021952) :
    Calls Tryd.prog 10 #[.slice a len cap, .agg #[.int .i64 kd, .int .i64 pr, .int .i64 n]] w fun e w' => ∃ a' len' cap' l', e = .returned (.tuple #[.slice a' len' cap', .bool true]) ∧ Tms w' a' len' cap' l' ∧ len' ≤ 8796093021952 ∧ Below w.heap.size w w' := by
  by_cases h1 : kd = 1
  · subst h1; exact plays1_any he a len cap l hs pr n hm
  by_cases h2 : kd = 2
  · subst h2; exact plays2_any he a len cap l hs pr n hm
  by_cases h3 : kd = 3
  · subst h3; exact plays3_any he a len cap l hs pr n hm
  by_cases h4 : kd = 4
  · subst h4; exact plays4_any he a len cap l hs pr n hm
  by_cases h5 : kd = 5
  · subst h5; exact plays5_any he a len cap l hs pr n hm
  exact playsNo_any he a len cap l hs kd pr n h1 h2 h3 h4 h5 hm
end Go.Proofs.YtahdaodikpblnaaDoor
