/-
  One call on a memory: the law's own plays.
-/
import Derived.Test.YtphgcfjjhhaehaaDoorPgStores
namespace Go.Proofs.YtphgcfjjhhaehaaDoor
open Go.RowKit FerryCrc
set_option linter.unusedVariables false

set_option maxRecDepth 100000 in
set_option maxHeartbeats 8000000 in
theorem plays_any {E : Nat → Addr} (base : Nat) (aM : Option Addr) (len cM : Nat) (l : List Pg) (kd sz : Int) (ad vv : Nat) (D : List Nat) (w : World) (he : Errs w E) (ho : POwn w base (.slice aM len cM) l) (ok : Oks l) (hl : l.length = len) (hm : len ≤ 67108864) (hbase : base ≤ w.heap.size) (okad : ad < 4294967296) (okv : vv < 4294967296) (okd : D.length ≤ 9223372036854775807) (hD : ∀ c ∈ D, c < 256) (hsz1 : -9223372036854775808 ≤ sz) (hsz2 : sz ≤ 9223372036854775807) :
    Calls Tryd.prog 11 #[.slice aM len cM, .agg #[.int .i64 kd, .int .i64 sz, .int .u32 (ad : Int), .int .u32 (vv : Int), .string (str D)]] w fun e w' => ∃ (x : Value) (l' : List Pg), e = .returned (.tuple #[x, .bool true]) ∧ POwn w' base x l' ∧ Oks l' ∧ l'.length = len ∧ Below w.heap.size w w' := by
  have HE := hide he
  have HO := hide ho
  have OKL := hide ok
  have HD := hide hD
  have HX : Hid (l.length = len) := hl
  obtain ⟨_, _, e0, hpg, _⟩ := ho.pgs ok (by omega)
  rw [hl] at e0 hpg
  simp only [Value.slice.injEq, true_and] at e0
  obtain ⟨rfl, rfl⟩ := e0
  have HP := hide hpg
  clear he ho ok hD hpg hl
  go_enter Tryd.func11, Tryd.ntmps11
  have D0 := hide ((Below.refl w.heap.size w).alloc (Nat.le_refl _) (.cells #[.int .i64 kd, .int .i64 sz, .int .u32 (ad : Int), .int .u32 (vv : Int), .string (str D)] 30))
  have f0 : (w.alloc (.cells #[.int .i64 kd, .int .i64 sz, .int .u32 (ad : Int), .int .u32 (vv : Int), .string (str D)] 30)).cell? ⟨w.heap.size, 0, none⟩ = some (.int .i64 kd) := by rw [World.cell?_alloc_at _ _ _ _ rfl]; rfl
  have f1 : (w.alloc (.cells #[.int .i64 kd, .int .i64 sz, .int .u32 (ad : Int), .int .u32 (vv : Int), .string (str D)] 30)).cell? ⟨w.heap.size, 1, none⟩ = some (.int .i64 sz) := by rw [World.cell?_alloc_at _ _ _ _ rfl]; rfl
  have f2 : (w.alloc (.cells #[.int .i64 kd, .int .i64 sz, .int .u32 (ad : Int), .int .u32 (vv : Int), .string (str D)] 30)).cell? ⟨w.heap.size, 2, none⟩ = some (.int .u32 (ad : Int)) := by rw [World.cell?_alloc_at _ _ _ _ rfl]; rfl
  have f3 : (w.alloc (.cells #[.int .i64 kd, .int .i64 sz, .int .u32 (ad : Int), .int .u32 (vv : Int), .string (str D)] 30)).cell? ⟨w.heap.size, 3, none⟩ = some (.int .u32 (vv : Int)) := by rw [World.cell?_alloc_at _ _ _ _ rfl]; rfl
  have f4 : (w.alloc (.cells #[.int .i64 kd, .int .i64 sz, .int .u32 (ad : Int), .int .u32 (vv : Int), .string (str D)] 30)).cell? ⟨w.heap.size, 4, none⟩ = some (.string (str D)) := by rw [World.cell?_alloc_at _ _ _ _ rfl]; rfl
  have frg : (w.alloc (.cells #[.int .i64 kd, .int .i64 sz, .int .u32 (ad : Int), .int .u32 (vv : Int), .string (str D)] 30)).rangeAt w.heap.size 0 [.int .i64 kd, .int .i64 sz, .int .u32 (ad : Int), .int .u32 (vv : Int), .string (str D)] := range_alloc w _ _
  have HSH := hide (fun a k => bflt_short (l := l) (by rw [HX.out]; exact hm) a k)
  by_cases hk1 : kd = 1
  · subst hk1
    go_wp2_with fail
    generalize w.alloc (.cells #[.int .i64 1, .int .i64 sz, .int .u32 (ad : Int), .int .u32 (vv : Int), .string (str D)] 30) = w0 at *
    have HP0 := hide (HP.out.below D0.out)
    have HO0 := hide (HO.out.below D0.out)
    have ED : Hid (Errs w0.drew E) := HE.out.below (chain D0.out ((Below.refl _ _).drew))
    have HCP := hide (refCopy_any aM len cM l w0.drew (HP0.out.below ((Below.refl _ _).drew)))
    by_cases hz : sz = 1 ∨ sz = 2 ∨ sz = 4
    · obtain ⟨s, rfl, hzs⟩ := sized_int hz
      have F1 : Hid (w0.drew.cell? ⟨w.heap.size, 1, none⟩ = some (.int .i64 (s : Int))) := f1
      have F2 : Hid (w0.drew.cell? ⟨w.heap.size, 2, none⟩ = some (.int .u32 (ad : Int))) := f2
      have HST := hide (fun (w5 : World) (a5 : Option Addr) (c5 : Nat) (h : Pgs w5 a5 len c5 l) => load_any a5 _ c5 l ad s w5 h okad hzs)
      clear f0 f1 f2 f3 f4 frg
      refine Calls.mono (refLoad_any aM len cM l ad s w0 HP0.out okad hzs) ?_
      rintro e w1 ⟨rfl, rfl⟩
      go_wp2_with fail
      go_region_held3 (fun wz => wz.cell? ⟨w.heap.size, 1, none⟩ = some (.int .i64 (s : Int)) ∧ wz.cell? ⟨w.heap.size, 2, none⟩ = some (.int .u32 (ad : Int))) (first | exact ⟨F1.out, F2.out⟩ | exact ⟨K1.out, K2.out⟩) (first | (go_at_call 10; refine HCP.out.mono ?_; rintro e w5 ⟨v5, rfl, ho5, b5⟩; obtain ⟨a5, c5, rfl, g5, _⟩ := ho5.pgs OKL.out (by rw [HX.out]; omega); rw [HX.out] at g5 ⊢; have G5 := hide g5; have B5 := hide b5; have K1 : Hid _ := cell_below F1.out b5; have K2 : Hid _ := cell_below F2.out b5; clear ho5 b5 g5) | (go_at_call 27; refine (HST.out w5 a5 c5 G5.out).mono ?_; rintro e w6 ⟨rfl, rfl⟩))
      have B16 := hide (undrew B5.out)
      have O6 := hide (HO0.out.below B16.out)
      have D6 := hide (chain D0.out B16.out)
      go_wp2_with fail
      refine Calls.mono (lcode_any (HE.out.below D6.out) .nilIface 0 (bare_nil E)) ?_
      rintro e w8 ⟨rfl, b8⟩
      have O8 := hide (O6.out.below b8)
      have D8 := hide (chain D6.out b8)
      clear b8
      go_wp2
      go_ret2
      exact ⟨_, _, rfl, O8.out, OKL.out, HX.out, D8.out⟩
    · have hz1 : ¬ sz = 1 := fun e => hz (.inl e)
      have hz2 : ¬ sz = 2 := fun e => hz (.inr (.inl e))
      have hz4 : ¬ sz = 4 := fun e => hz (.inr (.inr e))
      have F1 : Hid (w0.drew.cell? ⟨w.heap.size, 1, none⟩ = some (.int .i64 sz)) := f1
      have F2 : Hid (w0.drew.cell? ⟨w.heap.size, 2, none⟩ = some (.int .u32 (ad : Int))) := f2
      have HST := hide (fun (w5 : World) (a5 : Option Addr) (c5 : Nat) (h : Errs w5 E) => load_bad h.v12 a5 len c5 ad sz hz1 hz2 hz4)
      clear f0 f1 f2 f3 f4 frg
      refine Calls.mono (refLoad_bad aM len cM ad sz w0 hz1 hz2 hz4) ?_
      rintro e w1 ⟨rfl, rfl⟩
      clear hz hz1 hz2 hz4
      go_wp2_with fail
      go_region_held3 (fun wz => wz.cell? ⟨w.heap.size, 1, none⟩ = some (.int .i64 sz) ∧ wz.cell? ⟨w.heap.size, 2, none⟩ = some (.int .u32 (ad : Int))) (first | exact ⟨F1.out, F2.out⟩ | exact ⟨K1.out, K2.out⟩ | exact ⟨M1.out, M2.out⟩) (first | (go_at_call 10; refine HCP.out.mono ?_; rintro e w5 ⟨v5, rfl, ho5, b5⟩; obtain ⟨a5, c5, rfl, g5, _⟩ := ho5.pgs OKL.out (by rw [HX.out]; omega); rw [HX.out] at g5 ⊢; have G5 := hide g5; have B5 := hide b5; have K1 : Hid _ := cell_below F1.out b5; have K2 : Hid _ := cell_below F2.out b5; clear ho5 b5 g5) | (go_at_call 27; refine (HST.out w5 a5 c5 (ED.out.below B5.out)).mono ?_; rintro e w6 ⟨rfl, b6⟩; have B6 := hide b6; have M1 : Hid _ := cell_below K1.out b6; have M2 : Hid _ := cell_below K2.out b6; clear b6))
      have B16 := hide (chain (undrew B5.out) B6.out)
      unfold sent
      have O6 := hide (HO0.out.below B16.out)
      have D6 := hide (chain D0.out B16.out)
      go_wp2_with fail
      refine Calls.mono (lcode_any (HE.out.below D6.out) (sent (E 12)) 12 (bare_sent E 12 (by decide) (by decide))) ?_
      rintro e w8 ⟨rfl, b8⟩
      have O8 := hide (O6.out.below b8)
      have D8 := hide (chain D6.out b8)
      clear b8
      go_wp2
      go_ret2
      exact ⟨_, _, rfl, O8.out, OKL.out, HX.out, D8.out⟩
  by_cases hk3 : kd = 3
  · subst hk3
    go_wp2_with fail
    generalize w.alloc (.cells #[.int .i64 3, .int .i64 sz, .int .u32 (ad : Int), .int .u32 (vv : Int), .string (str D)] 30) = w0 at *
    have HP0 := hide (HP.out.below D0.out)
    have HO0 := hide (HO.out.below D0.out)
    have ED : Hid (Errs w0.drew E) := HE.out.below (chain D0.out ((Below.refl _ _).drew))
    have HCP := hide (refCopy_any aM len cM l w0.drew (HP0.out.below ((Below.refl _ _).drew)))
    · 
      have F2 : Hid (w0.drew.cell? ⟨w.heap.size, 2, none⟩ = some (.int .u32 (ad : Int))) := f2
      have HST := hide (fun (w5 : World) (a5 : Option Addr) (c5 : Nat) (h : Pgs w5 a5 len c5 l) => fetch_any a5 _ c5 l ad w5 h okad)
      clear f0 f1 f2 f3 f4 frg
      refine Calls.mono (refFetch_any aM len cM l ad w0 HP0.out okad) ?_
      rintro e w1 ⟨rfl, rfl⟩
      go_wp2_with fail
      go_region_held3 (fun wz => wz.cell? ⟨w.heap.size, 2, none⟩ = some (.int .u32 (ad : Int))) (first | exact F2.out | exact K2.out) (first | (go_at_call 10; refine HCP.out.mono ?_; rintro e w5 ⟨v5, rfl, ho5, b5⟩; obtain ⟨a5, c5, rfl, g5, _⟩ := ho5.pgs OKL.out (by rw [HX.out]; omega); rw [HX.out] at g5 ⊢; have G5 := hide g5; have B5 := hide b5; have K2 : Hid _ := cell_below F2.out b5; clear ho5 b5 g5) | (go_at_call 30; refine (HST.out w5 a5 c5 G5.out).mono ?_; rintro e w6 ⟨rfl, rfl⟩))
      have B16 := hide (undrew B5.out)
      have O6 := hide (HO0.out.below B16.out)
      have D6 := hide (chain D0.out B16.out)
      go_wp2
      go_ret2
      exact ⟨_, _, rfl, O6.out, OKL.out, HX.out, D6.out⟩
  by_cases hk4 : kd = 4
  · subst hk4
    go_wp2_with fail
    generalize w.alloc (.cells #[.int .i64 4, .int .i64 sz, .int .u32 (ad : Int), .int .u32 (vv : Int), .string (str D)] 30) = w0 at *
    have HP0 := hide (HP.out.below D0.out)
    have HO0 := hide (HO.out.below D0.out)
    have ED : Hid (Errs w0.drew E) := HE.out.below (chain D0.out ((Below.refl _ _).drew))
    have HCP := hide (refCopy_any aM len cM l w0.drew (HP0.out.below ((Below.refl _ _).drew)))
    by_cases hz : 0 ≤ sz
    · obtain ⟨s, rfl⟩ := Int.eq_ofNat_of_zero_le hz
      have F1 : Hid (w0.drew.cell? ⟨w.heap.size, 1, none⟩ = some (.int .i64 (s : Int))) := f1
      have F2 : Hid (w0.drew.cell? ⟨w.heap.size, 2, none⟩ = some (.int .u32 (ad : Int))) := f2
      have HST := hide (fun (w5 : World) (a5 : Option Addr) (c5 : Nat) (h : Pgs w5 a5 len c5 l) => out_any a5 _ c5 l ad s w5 h okad (by omega))
      clear f3 f4 frg f0
      refine Calls.mono (refOut_any aM len cM l ad s w0 HP0.out okad (by omega) hm) ?_
      rintro e w1 ⟨ff, rfl, hrf, _, b1⟩
      have R1 := hide hrf
      have B1 := hide b1
      have t1 := cell_below f1 b1
      have t2 := cell_below f2 b1
      clear F1 F2 HCP f1 f2
      have F1 : Hid (w1.drew.cell? ⟨w.heap.size, 1, none⟩ = some (.int .i64 (s : Int))) := t1
      have F2 : Hid (w1.drew.cell? ⟨w.heap.size, 2, none⟩ = some (.int .u32 (ad : Int))) := t2
      have HCP := hide (refCopy_any aM len cM l w1.drew ((HP0.out.below b1).below ((Below.refl _ _).drew)))
      clear t1 t2 hrf b1
      generalize hS : (if ff = 0 then rdB l ad s else []) = S
      have HS := hide hS
      clear hS
      go_wp2_with fail
      go_region_held3 (fun wz => wz.cell? ⟨w.heap.size, 1, none⟩ = some (.int .i64 (s : Int)) ∧ wz.cell? ⟨w.heap.size, 2, none⟩ = some (.int .u32 (ad : Int))) (first | exact ⟨F1.out, F2.out⟩ | exact ⟨K1.out, K2.out⟩ | exact ⟨M1.out, M2.out⟩) (first | (go_at_call 10; refine HCP.out.mono ?_; rintro e w5 ⟨v5, rfl, ho5, b5⟩; obtain ⟨a5, c5, rfl, g5, _⟩ := ho5.pgs OKL.out (by rw [HX.out]; omega); rw [HX.out] at g5 ⊢; have G5 := hide g5; have B5 := hide b5; have K1 : Hid _ := cell_below F1.out b5; have K2 : Hid _ := cell_below F2.out b5; clear ho5 b5 g5) | (go_at_call 29; refine (HST.out w5 a5 c5 G5.out).mono ?_; rintro e w6 ⟨f6, rfl, hrf6, _, b6⟩; obtain rfl : f6 = ff := (hrf6.congr (fun a => HSH.out a 0)).uniq R1.out; rw [HS.out]; clear hrf6; have B6 := hide b6; have M1 : Hid _ := cell_below K1.out b6; have M2 : Hid _ := cell_below K2.out b6; clear b6))

      have B16 := hide (chain (chain B1.out (undrew B5.out)) B6.out)
      clear R1
      have O6 := hide (HO0.out.below B16.out)
      have D6 := hide (chain D0.out B16.out)
      go_wp2_with fail
      refine Calls.mono (lcode_any (HE.out.below D6.out) .nilIface 0 (bare_nil E)) ?_
      rintro e w8 ⟨rfl, b8⟩
      have O8 := hide (O6.out.below b8)
      have D8 := hide (chain D6.out b8)
      clear b8
      go_wp2
      go_ret2
      exact ⟨_, _, rfl, O8.out, OKL.out, HX.out, D8.out⟩
    · have hz1 : sz < 0 := by omega
      have F1 : Hid (w0.drew.cell? ⟨w.heap.size, 1, none⟩ = some (.int .i64 sz)) := f1
      have F2 : Hid (w0.drew.cell? ⟨w.heap.size, 2, none⟩ = some (.int .u32 (ad : Int))) := f2
      have HST := hide (fun (w5 : World) (a5 : Option Addr) (c5 : Nat) (h : Errs w5 E) => out_bad h.v12 a5 len c5 ad sz hz1)
      clear f0 f1 f2 f3 f4 frg
      refine Calls.mono (refOut_bad aM len cM ad sz w0 hz1) ?_
      rintro e w1 ⟨rfl, rfl⟩
      go_wp2_with fail
      go_region_held3 (fun wz => wz.cell? ⟨w.heap.size, 1, none⟩ = some (.int .i64 sz) ∧ wz.cell? ⟨w.heap.size, 2, none⟩ = some (.int .u32 (ad : Int))) (first | exact ⟨F1.out, F2.out⟩ | exact ⟨K1.out, K2.out⟩ | exact ⟨M1.out, M2.out⟩) (first | (go_at_call 10; refine HCP.out.mono ?_; rintro e w5 ⟨v5, rfl, ho5, b5⟩; obtain ⟨a5, c5, rfl, g5, _⟩ := ho5.pgs OKL.out (by rw [HX.out]; omega); rw [HX.out] at g5 ⊢; have G5 := hide g5; have B5 := hide b5; have K1 : Hid _ := cell_below F1.out b5; have K2 : Hid _ := cell_below F2.out b5; clear ho5 b5 g5) | (go_at_call 29; refine (HST.out w5 a5 c5 (ED.out.below B5.out)).mono ?_; rintro e w6 ⟨rfl, b6⟩; have B6 := hide b6; have M1 : Hid _ := cell_below K1.out b6; have M2 : Hid _ := cell_below K2.out b6; clear b6))
      have B16 := hide (chain (undrew B5.out) B6.out)
      unfold sent
      have O6 := hide (HO0.out.below B16.out)
      have D6 := hide (chain D0.out B16.out)
      go_wp2_with fail
      refine Calls.mono (lcode_any (HE.out.below D6.out) (sent (E 12)) 12 (bare_sent E 12 (by decide) (by decide))) ?_
      rintro e w8 ⟨rfl, b8⟩
      have O8 := hide (O6.out.below b8)
      have D8 := hide (chain D6.out b8)
      clear b8
      go_wp2
      go_ret2
      exact ⟨_, _, rfl, O8.out, OKL.out, HX.out, D8.out⟩
  by_cases hk25 : kd = 2 ∨ kd = 5
  · have HSV := hide (fun (w5 : World) (h1 : Errs w5 E) (h2 : POwn w5 base (.slice aM len cM) l) (h3 : base ≤ w5.heap.size) => stores_any base aM len cM l kd sz ad vv D w5 h1 h2 OKL.out HX.out hm h3 okad okv okd HD.out)
    rcases hk25 with rfl | rfl
    · go_wp2_with fail
      refine Calls.mono (HSV.out _ (HE.out.below D0.out) (HO.out.below D0.out) (Nat.le_trans hbase D0.out.size)) ?_
      rintro e w5 ⟨x5, l5, rfl, ho5, ok5, hl5, b5⟩
      have O5 := hide ho5
      have K5 := hide ok5
      have D5 := hide (chain D0.out b5)
      clear ho5 ok5 b5 f0 f1 f2 f3 f4 frg
      go_wp2
      go_ret2
      exact ⟨_, _, rfl, O5.out, K5.out, hl5, D5.out⟩
    · go_wp2_with fail
      refine Calls.mono (HSV.out _ (HE.out.below D0.out) (HO.out.below D0.out) (Nat.le_trans hbase D0.out.size)) ?_
      rintro e w5 ⟨x5, l5, rfl, ho5, ok5, hl5, b5⟩
      have O5 := hide ho5
      have K5 := hide ok5
      have D5 := hide (chain D0.out b5)
      clear ho5 ok5 b5 f0 f1 f2 f3 f4 frg
      go_wp2
      go_ret2
      exact ⟨_, _, rfl, O5.out, K5.out, hl5, D5.out⟩
  have hk2 : ¬ kd = 2 := fun e => hk25 (.inl e)
  have hk5 : ¬ kd = 5 := fun e => hk25 (.inr e)
  clear hk25
  have n1 : (kd == 1) = false := by simpa using hk1
  have n3 : (kd == 3) = false := by simpa using hk3
  have n4 : (kd == 4) = false := by simpa using hk4
  have n2 : (kd == 2) = false := by simpa using hk2
  have n5 : (kd == 5) = false := by simpa using hk5
  clear hk1 hk2 hk3 hk4 hk5
  by_cases hk6 : kd = 6
  · have HSV := hide (fun (w5 : World) (h1 : Errs w5 E) (h2 : POwn w5 base (.slice aM len cM) l) (h3 : base ≤ w5.heap.size) => pokes_any base aM len cM l kd sz ad vv D w5 h1 h2 OKL.out HX.out hm h3 okad okv okd HD.out)
    subst hk6
    clear n1 n2 n3 n4 n5
    go_wp2_with fail
    refine Calls.mono (HSV.out _ (HE.out.below D0.out) (HO.out.below D0.out) (Nat.le_trans hbase D0.out.size)) ?_
    rintro e w5 ⟨x5, l5, rfl, ho5, ok5, hl5, b5⟩
    have O5 := hide ho5
    have K5 := hide ok5
    have D5 := hide (chain D0.out b5)
    clear ho5 ok5 b5 f0 f1 f2 f3 f4 frg
    go_wp2
    go_ret2
    exact ⟨_, _, rfl, O5.out, K5.out, hl5, D5.out⟩
  have n6 : (kd == 6) = false := by simpa using hk6
  clear hk6
  by_cases hk7 : kd = 7
  · subst hk7
    clear n1 n2 n3 n4 n5 n6
    go_wp2_with fail
    have HP0 := hide (HP.out.below D0.out)
    have SZ0 : Hid (base ≤ (w.alloc (.cells #[.int .i64 7, .int .i64 sz, .int .u32 (ad : Int), .int .u32 (vv : Int), .string (str D)] 30)).heap.size) := Nat.le_trans hbase D0.out.size
    have okc : Oks (l.map Pg.clean) := fun P hP => by
      obtain ⟨p, hp, rfl⟩ := List.mem_map.1 hP
      exact Pg.clean_ok (OKL.out p hp)
    have OKC := hide okc
    have HCL : Hid ((l.map Pg.clean).length = len) := by unfold Hid; rw [List.length_map]; exact HX.out
    generalize w.alloc (.cells #[.int .i64 7, .int .i64 sz, .int .u32 (ad : Int), .int .u32 (vv : Int), .string (str D)] 30) = w0 at *
    clear f0 f1 f2 f3 f4 frg okc
    refine Calls.mono (refClean_any aM len cM l w0 HP0.out) ?_
    rintro e w1 ⟨v1, rfl, ho1, b1⟩
    have O1 := hide ho1
    have HP1 := hide (HP0.out.below b1)
    have D1 := hide (chain D0.out b1)
    clear ho1 b1
    go_wp2_with fail
    refine Calls.mono (refCopy_any aM len cM l w1 HP1.out) ?_
    rintro e w2 ⟨v2, rfl, ho2, b2⟩
    obtain ⟨a2, c2, rfl, g2, _⟩ := ho2.pgs OKL.out (by rw [HX.out]; omega)
    rw [HX.out] at g2 ⊢
    have G2 := hide g2
    have O2 := hide (O1.out.below b2)
    have HP2 := hide (HP1.out.below b2)
    have D2 := hide (chain D1.out b2)
    clear ho2 b2 g2
    go_wp2_with fail
    refine Calls.mono (clean_any a2 len c2 l w2 G2.out) ?_
    rintro e w3 ⟨v3, rfl, ho3, b3⟩
    have Q3 := hide ho3
    have O3 := hide (O2.out.below b3)
    have HP3 := hide (HP2.out.below b3)
    have D3 := hide (chain D2.out b3)
    clear ho3 b3
    go_wp2_with fail
    refine Calls.mono (refClean_any aM len cM l w3 HP3.out) ?_
    rintro e w4 ⟨v4, rfl, ho4, b4⟩
    have Q4 := hide (Q3.out.below b4)
    have R4 := hide ho4
    have O4 := hide (O3.out.below b4)
    have D4 := hide (chain D3.out b4)
    clear ho4 b4
    go_wp2_with fail
    refine Calls.mono (same_own Q4.out R4.out OKC.out (by rw [HCL.out]; omega)) ?_
    rintro e w5 ⟨rfl, b5⟩
    have O5 := hide (O4.out.below b5)
    have D5 := hide (chain D4.out b5)
    clear b5
    go_wp2
    go_ret2
    exact ⟨_, _, rfl, O5.out.weaken SZ0.out, OKC.out, HCL.out, D5.out⟩
  have n7 : (kd == 7) = false := by simpa using hk7
  clear hk7
  by_cases hk8 : kd = 8
  · subst hk8
    clear n1 n2 n3 n4 n5 n6 n7
    go_wp2_with fail
    have HP0 := hide (HP.out.below D0.out)
    have HO0 := hide (HO.out.below D0.out)
    generalize w.alloc (.cells #[.int .i64 8, .int .i64 sz, .int .u32 (ad : Int), .int .u32 (vv : Int), .string (str D)] 30) = w0 at *
    clear f0 f1 f2 f3 f4 frg
    refine Calls.mono (refCopy_any aM len cM l w0 HP0.out) ?_
    rintro e w1 ⟨v1, rfl, ho1, b1⟩
    obtain ⟨a1, c1, rfl, g1, _⟩ := ho1.pgs OKL.out (by rw [HX.out]; omega)
    rw [HX.out] at g1 ⊢
    have G1 := hide g1
    have HP1 := hide (HP0.out.below b1)
    have O1 := hide (HO0.out.below b1)
    have D1 := hide (chain D0.out b1)
    clear ho1 b1 g1
    go_wp2_with fail
    refine Calls.mono (copy_any a1 len c1 l w1 G1.out) ?_
    rintro e w2 ⟨g, rfl, _, ho2, b2⟩
    have Q2 := hide ho2
    have HP2 := hide (HP1.out.below b2)
    have O2 := hide (O1.out.below b2)
    have D2 := hide (chain D1.out b2)
    clear ho2 b2
    go_wp2_with fail
    refine Calls.mono (same_own Q2.out O2.out OKL.out (by rw [HX.out]; omega)) ?_
    rintro e w3 ⟨rfl, b3⟩
    have HP3 := hide (HP2.out.below b3)
    have O3 := hide (O2.out.below b3)
    have D3 := hide (chain D2.out b3)
    clear b3
    go_wp2_with fail
    refine Calls.mono (refCopy_any aM len cM l w3 HP3.out) ?_
    rintro e w4 ⟨v4, rfl, ho4, b4⟩
    obtain ⟨a4, c4, rfl, g4, _⟩ := ho4.pgs OKL.out (by rw [HX.out]; omega)
    rw [HX.out] at g4 ⊢
    have G4 := hide g4
    have HP4 := hide (HP3.out.below b4)
    have O4 := hide (O3.out.below b4)
    have D4 := hide (chain D3.out b4)
    clear ho4 b4 g4
    go_wp2_with fail
    refine Calls.mono (written_any a4 len c4 l w4 G4.out) ?_
    rintro e w5 ⟨v5, rfl, ho5, b5⟩
    have Q5 := hide ho5
    have HP5 := hide (HP4.out.below b5)
    have O5 := hide (O4.out.below b5)
    have D5 := hide (chain D4.out b5)
    clear ho5 b5
    go_wp2_with fail
    refine Calls.mono (refWritten_any aM len cM l w5 HP5.out) ?_
    rintro e w6 ⟨v6, rfl, ho6, b6⟩
    have Q6 := hide (Q5.out.below b6)
    have R6 := hide ho6
    have O6 := hide (O5.out.below b6)
    have D6 := hide (chain D5.out b6)
    clear ho6 b6
    go_wp2_with fail
    refine Calls.mono (ints_same Q6.out R6.out (by have := drt_len l len; omega)) ?_
    rintro e w7 ⟨rfl, b7⟩
    have O7 := hide (O6.out.below b7)
    have D7 := hide (chain D6.out b7)
    clear b7
    go_wp2
    go_ret2
    exact ⟨_, _, rfl, O7.out, OKL.out, HX.out, D7.out⟩
  have n8 : (kd == 8) = false := by simpa using hk8
  clear hk8
  have O0 := hide (HO.out.below D0.out)
  go_wp2
  go_ret2
  exact ⟨_, _, rfl, O0.out, OKL.out, HX.out, D0.out⟩
end Go.Proofs.YtphgcfjjhhaehaaDoor
