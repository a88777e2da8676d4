/-
  One call on a memory: the law's own stores.
-/
import Derived.Test.YtphgcfjjhhaehaaDoorPgPokes
namespace Go.Proofs.YtphgcfjjhhaehaaDoor
open Go.RowKit FerryCrc
set_option linter.unusedVariables false

set_option maxRecDepth 100000 in
set_option maxHeartbeats 8000000 in
theorem stores_any {E : Nat → Addr} (base : Nat) (aM : Option Addr) (len cM : Nat) (l : List Pg) (kd sz : Int) (ad vv : Nat) (D : List Nat) (w : World) (he : Errs w E) (ho : POwn w base (.slice aM len cM) l) (ok : Oks l) (hl : l.length = len) (hm : len ≤ 67108864) (hbase : base ≤ w.heap.size) (okad : ad < 4294967296) (okv : vv < 4294967296) (okd : D.length ≤ 9223372036854775807) (hD : ∀ c ∈ D, c < 256) :
    Calls Tryd.prog 36 #[.slice aM len cM, .agg #[.int .i64 kd, .int .i64 sz, .int .u32 (ad : Int), .int .u32 (vv : Int), .string (str D)]] w fun e w' => ∃ (x : Value) (l' : List Pg), e = .returned (.tuple #[x, .bool true]) ∧ POwn w' base x l' ∧ Oks l' ∧ l'.length = len ∧ Below w.heap.size w w' := by
  have HE := hide he
  have HO := hide ho
  have OKL := hide ok
  have HD := hide hD
  have HX : Hid (l.length = len) := hl
  obtain ⟨_, _, e0, hpg, _⟩ := ho.pgs ok (by omega)
  rw [hl] at e0 hpg
  simp only [Value.slice.injEq, true_and] at e0
  obtain ⟨rfl, rfl⟩ := e0
  have HP := hide hpg
  clear he ho ok hD hpg hl
  go_enter Tryd.func36, Tryd.ntmps36
  have D0 := hide ((Below.refl w.heap.size w).alloc (Nat.le_refl _) (.cells #[.int .i64 kd, .int .i64 sz, .int .u32 (ad : Int), .int .u32 (vv : Int), .string (str D)] 30))
  have f0 : (w.alloc (.cells #[.int .i64 kd, .int .i64 sz, .int .u32 (ad : Int), .int .u32 (vv : Int), .string (str D)] 30)).cell? ⟨w.heap.size, 0, none⟩ = some (.int .i64 kd) := by rw [World.cell?_alloc_at _ _ _ _ rfl]; rfl
  have f1 : (w.alloc (.cells #[.int .i64 kd, .int .i64 sz, .int .u32 (ad : Int), .int .u32 (vv : Int), .string (str D)] 30)).cell? ⟨w.heap.size, 1, none⟩ = some (.int .i64 sz) := by rw [World.cell?_alloc_at _ _ _ _ rfl]; rfl
  have f2 : (w.alloc (.cells #[.int .i64 kd, .int .i64 sz, .int .u32 (ad : Int), .int .u32 (vv : Int), .string (str D)] 30)).cell? ⟨w.heap.size, 2, none⟩ = some (.int .u32 (ad : Int)) := by rw [World.cell?_alloc_at _ _ _ _ rfl]; rfl
  have f3 : (w.alloc (.cells #[.int .i64 kd, .int .i64 sz, .int .u32 (ad : Int), .int .u32 (vv : Int), .string (str D)] 30)).cell? ⟨w.heap.size, 3, none⟩ = some (.int .u32 (vv : Int)) := by rw [World.cell?_alloc_at _ _ _ _ rfl]; rfl
  have f4 : (w.alloc (.cells #[.int .i64 kd, .int .i64 sz, .int .u32 (ad : Int), .int .u32 (vv : Int), .string (str D)] 30)).cell? ⟨w.heap.size, 4, none⟩ = some (.string (str D)) := by rw [World.cell?_alloc_at _ _ _ _ rfl]; rfl
  have frg : (w.alloc (.cells #[.int .i64 kd, .int .i64 sz, .int .u32 (ad : Int), .int .u32 (vv : Int), .string (str D)] 30)).rangeAt w.heap.size 0 [.int .i64 kd, .int .i64 sz, .int .u32 (ad : Int), .int .u32 (vv : Int), .string (str D)] := range_alloc w _ _
  have HSH := hide (fun a k => bflt_short (l := l) (by rw [HX.out]; exact hm) a k)
  by_cases hk2 : kd = 2
  · subst hk2
    go_wp2_with fail
    generalize w.alloc (.cells #[.int .i64 2, .int .i64 sz, .int .u32 (ad : Int), .int .u32 (vv : Int), .string (str D)] 30) = w0 at *
    have HP0 := hide (HP.out.below D0.out)
    have HO0 := hide (HO.out.below D0.out)
    have SZ1 : Hid (base ≤ w0.heap.size) := Nat.le_trans hbase D0.out.size
    have FF1 := hide f1
    have FF2 := hide f2
    have FF3 := hide f3
    clear f0 f1 f2 f3 f4 frg HP
    by_cases hz : sz = 1 ∨ sz = 2 ∨ sz = 4
    · obtain ⟨s, rfl, hzs⟩ := sized_int hz
      refine Calls.mono (refStore_any aM len cM l ad s vv w0 HP0.out okad hzs okv) ?_
      rintro e w1 ⟨x1, rfl, ho1, b1⟩
      have X1 := hide ho1
      have HP1 := hide (HP0.out.below b1)
      have HO1 := hide (HO0.out.below b1)
      have D1 := hide (chain D0.out b1)
      have t1 := cell_below FF1.out b1
      have F1 : Hid (w1.drew.cell? ⟨w.heap.size, 1, none⟩ = some (.int .i64 (s : Int))) := t1
      clear t1
      have t2 := cell_below FF2.out b1
      have F2 : Hid (w1.drew.cell? ⟨w.heap.size, 2, none⟩ = some (.int .u32 (ad : Int))) := t2
      clear t2
      have t3 := cell_below FF3.out b1
      have F3 : Hid (w1.drew.cell? ⟨w.heap.size, 3, none⟩ = some (.int .u32 (vv : Int))) := t3
      clear t3
      have HCP := hide (refCopy_any aM len cM l w1.drew (HP1.out.below ((Below.refl _ _).drew)))
      have HST := hide (fun (w5 : World) (a5 : Option Addr) (c5 : Nat) (h : Pgs w5 a5 len c5 l) => store_any a5 _ c5 l ad s vv w5 h okad hzs okv)
      clear ho1 b1 FF1 FF2 FF3
      go_wp2_with fail
      go_region_held3 (fun wz => wz.cell? ⟨w.heap.size, 1, none⟩ = some (.int .i64 (s : Int)) ∧ wz.cell? ⟨w.heap.size, 2, none⟩ = some (.int .u32 (ad : Int)) ∧ wz.cell? ⟨w.heap.size, 3, none⟩ = some (.int .u32 (vv : Int))) (first | exact ⟨F1.out, F2.out, F3.out⟩ | exact ⟨K1.out, K2.out, K3.out⟩ | exact ⟨M1.out, M2.out, M3.out⟩) (first | (go_at_call 10; refine HCP.out.mono ?_; rintro e w5 ⟨v5, rfl, ho5, b5⟩; obtain ⟨a5, c5, rfl, g5, _⟩ := ho5.pgs OKL.out (by rw [HX.out]; omega); rw [HX.out] at g5 ⊢; have G5 := hide g5; have B5 := hide b5; have K1 : Hid _ := cell_below F1.out b5; have K2 : Hid _ := cell_below F2.out b5; have K3 : Hid _ := cell_below F3.out b5; clear ho5 b5 g5) | (go_at_call 24; refine (HST.out w5 a5 c5 G5.out).mono ?_; rintro e w6 ⟨x6, rfl, ho6, b6⟩; have O6 := hide ho6; clear ho6; have B6 := hide b6; have M1 : Hid _ := cell_below K1.out b6; have M2 : Hid _ := cell_below K2.out b6; have M3 : Hid _ := cell_below K3.out b6; clear b6))
      have B16 := hide (chain (undrew B5.out) B6.out)
      have X6 := hide (X1.out.below B16.out)
      have HO6 := hide (HO1.out.below B16.out)
      have D6 := hide (chain D1.out B16.out)
      clear K1 K2 K3 M1 M2 M3 F1 F2 F3 HCP HST G5 B5 B6 X1 HO1 D1 HP1
      by_cases hf0 : nfault l ad s 1 = 0
      · have e1 : stv l ad s vv = stored l ad s vv := by unfold stv; rw [if_pos hf0]
        have OKS := hide (stored_ok OKL.out ad s vv)
        have HSL : Hid ((stored l ad s vv).length = len) := by unfold Hid; rw [stored_len]; exact HX.out
        rw [hf0]
        rw [e1] at X6 O6
        clear e1 hf0
        go_wp2_with fail
        refine Calls.mono (same_own O6.out X6.out OKS.out (by rw [HSL.out]; omega)) ?_
        rintro e w7 ⟨rfl, b7⟩
        have X7 := hide (X6.out.below b7)
        have D7 := hide (chain D6.out b7)
        clear b7
        go_wp2_with fail
        refine Calls.mono (lcode_any (HE.out.below D7.out) .nilIface 0 (bare_nil E)) ?_
        rintro e w8 ⟨rfl, b8⟩
        have X8 := hide (X7.out.below b8)
        have D8 := hide (chain D7.out b8)
        clear b8
        go_wp2
        go_ret2
        exact ⟨_, _, rfl, X8.out.weaken SZ1.out, OKS.out, HSL.out, D8.out⟩
      · have hd : ((nfault l ad s 1 : Nat) : Int) ≠ 0 := by omega
        have hd1 : (((nfault l ad s 1 : Nat) : Int) == 0) = false := by simpa using hd
        have e1 : stv l ad s vv = [] := by unfold stv; rw [if_neg hf0]
        rw [e1] at X6 O6
        clear e1 hd hf0
        generalize nfault l ad s 1 = ff at *
        go_wp2_with fail
        refine Calls.mono (same_own O6.out X6.out (fun p hp => by simp at hp) (by simp)) ?_
        rintro e w7 ⟨rfl, b7⟩
        have O7 := hide (HO6.out.below b7)
        have D7 := hide (chain D6.out b7)
        clear b7
        go_wp2_with fail
        refine Calls.mono (lcode_any (HE.out.below D7.out) .nilIface 0 (bare_nil E)) ?_
        rintro e w8 ⟨rfl, b8⟩
        have O8 := hide (O7.out.below b8)
        have D8 := hide (chain D7.out b8)
        clear b8
        go_wp2
        go_ret2
        exact ⟨_, _, rfl, O8.out, OKL.out, HX.out, D8.out⟩
    · have hz1 : ¬ sz = 1 := fun e => hz (.inl e)
      have hz2 : ¬ sz = 2 := fun e => hz (.inr (.inl e))
      have hz4 : ¬ sz = 4 := fun e => hz (.inr (.inr e))
      refine Calls.mono (refStore_bad aM len cM ad sz vv w0 hz1 hz2 hz4) ?_
      rintro e w1 ⟨rfl, rfl⟩
      have F1 : Hid (w0.drew.cell? ⟨w.heap.size, 1, none⟩ = some (.int .i64 sz)) := FF1.out
      have F2 : Hid (w0.drew.cell? ⟨w.heap.size, 2, none⟩ = some (.int .u32 (ad : Int))) := FF2.out
      have F3 : Hid (w0.drew.cell? ⟨w.heap.size, 3, none⟩ = some (.int .u32 (vv : Int))) := FF3.out
      have HCP := hide (refCopy_any aM len cM l w0.drew (HP0.out.below ((Below.refl _ _).drew)))
      have HST := hide (fun (w5 : World) (a5 : Option Addr) (c5 : Nat) (h : Errs w5 E) => store_bad h.v12 a5 len c5 ad sz vv hz1 hz2 hz4)
      have ED : Hid (Errs w0.drew E) := HE.out.below (chain D0.out ((Below.refl _ _).drew))
      clear FF1 FF2 FF3 hz hz1 hz2 hz4
      go_wp2_with fail
      go_region_held3 (fun wz => wz.cell? ⟨w.heap.size, 1, none⟩ = some (.int .i64 sz) ∧ wz.cell? ⟨w.heap.size, 2, none⟩ = some (.int .u32 (ad : Int)) ∧ wz.cell? ⟨w.heap.size, 3, none⟩ = some (.int .u32 (vv : Int))) (first | exact ⟨F1.out, F2.out, F3.out⟩ | exact ⟨K1.out, K2.out, K3.out⟩ | exact ⟨M1.out, M2.out, M3.out⟩) (first | (go_at_call 10; refine HCP.out.mono ?_; rintro e w5 ⟨v5, rfl, ho5, b5⟩; obtain ⟨a5, c5, rfl, g5, _⟩ := ho5.pgs OKL.out (by rw [HX.out]; omega); rw [HX.out] at g5 ⊢; have G5 := hide g5; have B5 := hide b5; have K1 : Hid _ := cell_below F1.out b5; have K2 : Hid _ := cell_below F2.out b5; have K3 : Hid _ := cell_below F3.out b5; clear ho5 b5 g5) | (go_at_call 24; refine (HST.out w5 a5 c5 (ED.out.below B5.out)).mono ?_; rintro e w6 ⟨rfl, b6⟩; have B6 := hide b6; have M1 : Hid _ := cell_below K1.out b6; have M2 : Hid _ := cell_below K2.out b6; have M3 : Hid _ := cell_below K3.out b6; clear b6))
      have B16 := hide (chain (undrew B5.out) B6.out)
      have HO6 := hide (HO0.out.below B16.out)
      have D6 := hide (chain D0.out B16.out)
      clear K1 K2 K3 M1 M2 M3 F1 F2 F3 HCP HST G5 B5 B6
      unfold sent
      go_wp2_with fail
      refine Calls.mono (same_own (pown_nil w6 0) (pown_nil w6 0) (fun p hp => by simp at hp) (by simp)) ?_
      rintro e w7 ⟨rfl, b7⟩
      have O7 := hide (HO6.out.below b7)
      have D7 := hide (chain D6.out b7)
      clear b7
      go_wp2_with fail
      refine Calls.mono (lcode_any (HE.out.below D7.out) (sent (E 12)) 12 (bare_sent E 12 (by decide) (by decide))) ?_
      rintro e w8 ⟨rfl, b8⟩
      have O8 := hide (O7.out.below b8)
      have D8 := hide (chain D7.out b8)
      clear b8
      go_wp2
      go_ret2
      exact ⟨_, _, rfl, O8.out, OKL.out, HX.out, D8.out⟩
  · have d2 : (kd == 2) = false := by simpa using hk2
    clear hk2
    go_wp2_with fail
    generalize w.alloc (.cells #[.int .i64 kd, .int .i64 sz, .int .u32 (ad : Int), .int .u32 (vv : Int), .string (str D)] 30) = w0 at *
    have HP0 := hide (HP.out.below D0.out)
    have HO0 := hide (HO.out.below D0.out)
    have SZ1 : Hid (base ≤ w0.heap.size) := Nat.le_trans hbase D0.out.size
    have FF2 := hide f2
    have FF4 := hide f4
    clear f0 f1 f2 f3 f4 frg HP
    refine Calls.mono (refIn_any aM len cM l ad D w0 HP0.out okad HD.out okd hm) ?_
    rintro e w1 ⟨f1, x1, rfl, hrf1, hf6, ho1, b1⟩
    have X1 := hide ho1
    have R1 := hide hrf1
    have HP1 := hide (HP0.out.below b1)
    have HO1 := hide (HO0.out.below b1)
    have D1 := hide (chain D0.out b1)
    have t2 := cell_below FF2.out b1
    have F2 : Hid (w1.drew.cell? ⟨w.heap.size, 2, none⟩ = some (.int .u32 (ad : Int))) := t2
    clear t2
    have t4 := cell_below FF4.out b1
    have F4 : Hid (w1.drew.cell? ⟨w.heap.size, 4, none⟩ = some (.string (str D))) := t4
    clear t4
    have HCP := hide (refCopy_any aM len cM l w1.drew (HP1.out.below ((Below.refl _ _).drew)))
    have HST := hide (fun (w5 : World) (a5 : Option Addr) (c5 : Nat) (h : Pgs w5 a5 len c5 l) => in_any a5 _ c5 l ad D w5 h okad HD.out okd)
    clear ho1 b1 FF2 FF4 hrf1
    go_wp2_with fail
    go_region_held3 (fun wz => wz.cell? ⟨w.heap.size, 2, none⟩ = some (.int .u32 (ad : Int)) ∧ wz.cell? ⟨w.heap.size, 4, none⟩ = some (.string (str D))) (first | exact ⟨F2.out, F4.out⟩ | exact ⟨K2.out, K4.out⟩ | exact ⟨M2.out, M4.out⟩) (first | (go_at_call 10; refine HCP.out.mono ?_; rintro e w5 ⟨v5, rfl, ho5, b5⟩; obtain ⟨a5, c5, rfl, g5, _⟩ := ho5.pgs OKL.out (by rw [HX.out]; omega); rw [HX.out] at g5 ⊢; have G5 := hide g5; have B5 := hide b5; have K2 : Hid _ := cell_below F2.out b5; have K4 : Hid _ := cell_below F4.out b5; clear ho5 b5 g5) | (go_at_call 28; refine (HST.out w5 a5 c5 G5.out).mono ?_; rintro e w6 ⟨f6, x6, rfl, hrf6, _, ho6, b6⟩; have O6 := hide ho6; have R6 := hide hrf6; clear ho6 hrf6; have B6 := hide b6; have M2 : Hid _ := cell_below K2.out b6; have M4 : Hid _ := cell_below K4.out b6; clear b6))
    have B16 := hide (chain (undrew B5.out) B6.out)
    have X6 := hide (X1.out.below B16.out)
    have HO6 := hide (HO1.out.below B16.out)
    have D6 := hide (chain D1.out B16.out)
    obtain rfl : f6 = f1 := (R6.out.congr (fun a => HSH.out a 1)).uniq R1.out
    clear K2 K4 M2 M4 F2 F4 HCP HST G5 B5 B6 X1 HO1 D1 HP1 R1 R6
    by_cases hf0 : f6 = 0
    · subst hf0
      have OKS := hide (put_in_ok OKL.out ad HD.out)
      have HSL : Hid ((put_in l ad D).length = len) := by unfold Hid; rw [put_in_len]; exact HX.out
      rw [if_pos rfl] at X6 O6
      go_wp2_with fail
      refine Calls.mono (same_own O6.out X6.out OKS.out (by rw [HSL.out]; omega)) ?_
      rintro e w7 ⟨rfl, b7⟩
      have X7 := hide (X6.out.below b7)
      have D7 := hide (chain D6.out b7)
      clear b7
      go_wp2
      go_ret2
      exact ⟨_, _, rfl, X7.out.weaken SZ1.out, OKS.out, HSL.out, D7.out⟩
    · have hd1 : ((f6 : Int) == 0) = false := by simp; omega
      rw [if_neg hf0] at X6 O6
      clear hf0
      go_wp2_with fail
      refine Calls.mono (same_own O6.out X6.out (fun p hp => by simp at hp) (by simp)) ?_
      rintro e w7 ⟨rfl, b7⟩
      have O7 := hide (HO6.out.below b7)
      have D7 := hide (chain D6.out b7)
      clear b7
      go_wp2
      go_ret2
      exact ⟨_, _, rfl, O7.out, OKL.out, HX.out, D7.out⟩
end Go.Proofs.YtphgcfjjhhaehaaDoor
