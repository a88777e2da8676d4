/-
  Walk of the law PageStored.
-/
import Derived.Test.YtphgcfjjhhaehaaDoorPgBack
import Derived.Test.YtphgcfjjhhaehaaDoorPgOthers
import Derived.Test.YtphgcfjjhhaehaaDoorPosOpen
import Derived.Deep.RegionHeld3
namespace Go.Proofs.YtphgcfjjhhaehaaDoor.pageStored
open Go.RowKit FerryCrc
set_option linter.unusedVariables false

theorem sized_int {s : Int} (h : s = 1 ∨ s = 2 ∨ s = 4) : ∃ k : Nat, s = (k : Int) ∧ Sized k := by
  rcases h with rfl | rfl | rfl
  · exact ⟨1, rfl, .inl rfl⟩
  · exact ⟨2, rfl, .inr (.inl rfl)⟩
  · exact ⟨4, rfl, .inr (.inr rfl)⟩
theorem undrew {w w' : World} (h : Below w.drew.heap.size w.drew w') : Below w.heap.size w w' := (Below.refl _ _).drew.trans h

set_option maxRecDepth 100000 in
set_option maxHeartbeats 16000000 in
theorem law {E : Nat → Addr} (a : Option Addr) (len cap : Nat) (l : List Pg) (kd sz : Int) (ad vv : Nat) (D : List Nat) (w : World) (he : Errs w E) (hs : Pgs w a len cap l) (okad : ad < 4294967296) (okv : vv < 4294967296) (okd : D.length ≤ 9223372036854775807) (hD : ∀ c ∈ D, c < 256) :
    Calls Tryd.prog 6 #[.slice a len cap, .agg #[.int .i64 kd, .int .i64 sz, .int .u32 (ad : Int), .int .u32 (vv : Int), .string (str D)]] w fun e w' => e = .returned (.bool true) ∧ Below w.heap.size w w' := by
  obtain rfl := hs.size
  have hm := hs.most
  have HE := hide he
  have HS := hide hs
  have HD := hide hD
  have okL : Oks (l.map Pg.open) := fun P hP => by
    obtain ⟨p, hp, rfl⟩ := List.mem_map.1 hP
    exact Pg.open_ok (hs.ok p hp)
  have OKL := hide okL
  have OPL := hide (open_list l)
  clear he hs hD okL
  go_enter Tryd.func6, Tryd.ntmps6
  go_wp2_with fail
  have D0 := hide ((Below.refl w.heap.size w).alloc (Nat.le_refl _) (.cells #[.int .i64 kd, .int .i64 sz, .int .u32 (ad : Int), .int .u32 (vv : Int), .string (str D)] 30))
  have f1 : (w.alloc (.cells #[.int .i64 kd, .int .i64 sz, .int .u32 (ad : Int), .int .u32 (vv : Int), .string (str D)] 30)).cell? ⟨w.heap.size, 1, none⟩ = some (.int .i64 sz) := by rw [World.cell?_alloc_at _ _ _ _ rfl]; rfl
  have f2 : (w.alloc (.cells #[.int .i64 kd, .int .i64 sz, .int .u32 (ad : Int), .int .u32 (vv : Int), .string (str D)] 30)).cell? ⟨w.heap.size, 2, none⟩ = some (.int .u32 (ad : Int)) := by rw [World.cell?_alloc_at _ _ _ _ rfl]; rfl
  have f3 : (w.alloc (.cells #[.int .i64 kd, .int .i64 sz, .int .u32 (ad : Int), .int .u32 (vv : Int), .string (str D)] 30)).cell? ⟨w.heap.size, 3, none⟩ = some (.int .u32 (vv : Int)) := by rw [World.cell?_alloc_at _ _ _ _ rfl]; rfl
  have f4 : (w.alloc (.cells #[.int .i64 kd, .int .i64 sz, .int .u32 (ad : Int), .int .u32 (vv : Int), .string (str D)] 30)).cell? ⟨w.heap.size, 4, none⟩ = some (.string (str D)) := by rw [World.cell?_alloc_at _ _ _ _ rfl]; rfl
  generalize w.alloc (.cells #[.int .i64 kd, .int .i64 sz, .int .u32 (ad : Int), .int .u32 (vv : Int), .string (str D)] 30) = w0 at *
  refine Calls.mono (known_any w0) ?_
  rintro e w1 ⟨rfl, b⟩
  have D1 := hide (chain D0.out b)
  have g1 := cell_below f1 b
  have g2 := cell_below f2 b
  have g3 := cell_below f3 b
  have g4 := cell_below f4 b
  clear b f1 f2 f3 f4 D0
  go_wp2_with fail
  refine Calls.mono (readable_any a _ cap l w1 (HS.out.below D1.out)) ?_
  rintro e w2 ⟨v, rfl, ho, b⟩
  obtain ⟨aM, cM, rfl, hpg, _⟩ := ho.pgs OKL.out (by rw [List.length_map]; exact hm)
  rw [List.length_map] at hpg ⊢
  have D2 := hide (chain D1.out b)
  have f1 := cell_below g1 b
  have f2 := cell_below g2 b
  have f3 := cell_below g3 b
  have f4 := cell_below g4 b
  have HP := hide hpg
  have HLL : Hid ((l.map Pg.open).length = l.length) := List.length_map _
  clear b g1 g2 g3 g4 D1 hpg ho
  generalize l.map Pg.open = L at *
  go_wp2_with fail
  have HCP := hide (refCopy_any aM _ cM L w2.drew (HP.out.below ((Below.refl _ _).drew)))
  have F1 : Hid (w2.drew.cell? ⟨w.heap.size, 1, none⟩ = some (.int .i64 sz)) := f1
  have F2 : Hid (w2.drew.cell? ⟨w.heap.size, 2, none⟩ = some (.int .u32 (ad : Int))) := f2
  have F3 : Hid (w2.drew.cell? ⟨w.heap.size, 3, none⟩ = some (.int .u32 (vv : Int))) := f3
  have F4 : Hid (w2.drew.cell? ⟨w.heap.size, 4, none⟩ = some (.string (str D))) := f4
  have ED : Hid (Errs w2.drew E) := HE.out.below (chain D2.out ((Below.refl _ _).drew))
  clear f1 f2 f3 f4
  by_cases hz : sz = 1 ∨ sz = 2 ∨ sz = 4
  · obtain ⟨s, rfl, hzs⟩ := sized_int hz
    have HST := hide (fun (w5 : World) (a5 : Option Addr) (c5 : Nat) (h : Pgs w5 a5 l.length c5 L) => store_any a5 _ c5 L ad s vv w5 h okad hzs okv)
    go_region_held3 (fun wz => wz.cell? ⟨w.heap.size, 1, none⟩ = some (.int .i64 (s : Int)) ∧ wz.cell? ⟨w.heap.size, 2, none⟩ = some (.int .u32 (ad : Int)) ∧ wz.cell? ⟨w.heap.size, 3, none⟩ = some (.int .u32 (vv : Int))) (first | exact ⟨F1.out, F2.out, F3.out⟩ | exact ⟨K1.out, K2.out, K3.out⟩ | exact ⟨M1.out, M2.out, M3.out⟩) (first | (go_at_call 10; refine HCP.out.mono ?_; rintro e w5 ⟨v5, rfl, ho5, b5⟩; obtain ⟨a5, c5, rfl, g5, _⟩ := ho5.pgs OKL.out (by rw [HLL.out]; exact hm); rw [HLL.out] at g5 ⊢; have G5 := hide g5; have B5 := hide b5; have K1 : Hid _ := cell_below F1.out b5; have K2 : Hid _ := cell_below F2.out b5; have K3 : Hid _ := cell_below F3.out b5; clear ho5 b5 g5) | (go_at_call 24; refine (HST.out w5 a5 c5 G5.out).mono ?_; rintro e w6 ⟨x6, rfl, ho6, b6⟩; have O6 := hide ho6; have B6 := hide b6; have M1 : Hid _ := cell_below K1.out b6; have M2 : Hid _ := cell_below K2.out b6; have M3 : Hid _ := cell_below K3.out b6; clear ho6 b6))
    have B26 := hide (chain (undrew B5.out) B6.out)
    have M4 : Hid _ := cell_below (cell_below F4.out B5.out) B6.out
    have HP6 := hide (HP.out.below B26.out)
    have D6 := hide (chain D2.out B26.out)
    clear K1 K2 K3 F1 F2 F3 F4 HCP HST G5 B5 B6 HP
    go_wp2_with fail
    refine Calls.mono (refCopy_any aM _ cM L w6 HP6.out) ?_
    rintro e w7 ⟨v7, rfl, ho7, b7⟩
    have P7 := hide ho7
    have B7 := hide b7
    have g1 := cell_below M1.out b7
    have g2 := cell_below M2.out b7
    have g3 := cell_below M3.out b7
    clear ho7 b7
    go_wp2_with fail
    refine Calls.mono (poke_own ad s vv w7 P7.out OKL.out (by rw [HLL.out]; exact hm) okad hzs okv) ?_
    rintro e w8 ⟨rfl, ho8, b8⟩
    have P8 := hide ho8
    have B68 : Hid (Below w6.heap.size w6 w8) := B7.out.trans b8
    have O8 := hide (O6.out.below B68.out)
    have HP8 := hide (HP6.out.below B68.out)
    have D8 := hide (chain D6.out B68.out)
    have E8 := hide (HE.out.below D8.out)
    have h1 := cell_below M1.out B68.out
    have h2 := cell_below M2.out B68.out
    have h3 := cell_below M3.out B68.out
    have h4 := cell_below M4.out B68.out
    clear ho8 b8 P7 B7 g1 g2 g3 O6 HP6 D6 M1 M2 M3 M4 B68
    by_cases hf0 : nfault L ad s 1 = 0
    · rw [hf0]
      have e1 : stv L ad s vv = stored L ad s vv := by unfold stv; rw [if_pos hf0]
      have e2 : pkv L ad s vv = stored L ad s vv := by unfold pkv; rw [if_pos hf0]
      rw [e1] at O8
      rw [e2] at P8
      have OKS := hide (stored_ok OKL.out ad s vv)
      obtain ⟨sl1, sl2⟩ := stored_load OKL.out OPL.out hzs hf0 okv
      have SL1 := hide sl1
      have SL2 := hide sl2
      have STC := hide (stored_tch (v := vv) OKL.out hzs (nfault_zero hf0).1)
      have HSL : Hid ((stored L ad s vv).length = l.length) := by unfold Hid; rw [stored_len]; exact HLL.out
      clear e1 e2 sl1 sl2
      go_wp2_with fail
      refine Calls.mono (lcode_any E8.out .nilIface 0 (bare_nil E)) ?_
      rintro e w9 ⟨rfl, b9⟩
      have E9 := hide (E8.out.below b9)
      have B9 := hide b9
      clear b9
      go_wp2_with fail
      refine Calls.mono (lcode_any E9.out .nilIface 0 (bare_nil E)) ?_
      rintro e w10 ⟨rfl, b10⟩
      have B10 := hide (chain B9.out b10)
      clear b10 E9 B9
      go_wp2_with fail
      have O10 := hide (O8.out.below B10.out)
      have P10 := hide (P8.out.below B10.out)
      refine Calls.mono (same_own O10.out P10.out OKS.out (by rw [HSL.out]; exact hm)) ?_
      rintro e w11 ⟨rfl, b11⟩
      have B11 := hide (chain B10.out b11)
      have O11 := hide (O10.out.below b11)
      clear b11 B10 O10 P10 O8 P8
      obtain ⟨a6, c6, rfl, hpg6, _⟩ := O11.out.pgs OKS.out (by rw [HSL.out]; exact hm)
      rw [HSL.out] at hpg6 ⊢
      have HP6 := hide hpg6
      have hpg6' := hpg6
      rw [STC.out] at hpg6'
      have HP6' := hide hpg6'
      have HP11 := hide (HP8.out.below B11.out)
      have i1 := cell_below h1 B11.out
      have i2 := cell_below h2 B11.out
      have i3 := cell_below h3 B11.out
      have i4 := cell_below h4 B11.out
      have D11 := hide (chain D8.out B11.out)
      have hs4 : s ≤ 4 := by rcases hzs with rfl | rfl | rfl <;> omega
      clear hpg6 hpg6' h1 h2 h3 h4 HP8 D8 E8 B11 O11
      go_wp2_with fail
      refine Calls.mono (others_any aM _ cM L a6 c6 ad s (byt vv s ad) w11 HP11.out HP6'.out okad (by omega)) ?_
      rintro e w12 ⟨rfl, b12⟩
      have j1 := cell_below i1 b12
      have j2 := cell_below i2 b12
      have j3 := cell_below i3 b12
      have j4 := cell_below i4 b12
      have HS12 := hide (HP6.out.below b12)
      have HP12 := hide (HP11.out.below b12)
      have D12 := hide (chain D11.out b12)
      clear b12 i1 i2 i3 i4 HP6 HP6' HP11 D11
      have HLD := hide (load_any a6 _ c6 (stored L ad s vv) ad s w12 HS12.out okad hzs)
      rw [SL1.out, SL2.out] at HLD
      clear SL1 SL2 STC HS12
      go_wp2_with fail
      refine Calls.mono HLD.out ?_
      rintro e w' ⟨rfl, rfl⟩
      have mk1 := mask1 vv okv
      have mk2 := mask2 vv okv
      have mk4 := mask4 vv okv
      clear HLD hf0
      rcases hzs with rfl | rfl | rfl
      all_goals
        go_wp2_with fail
        clear j1 j3 mk1 mk2 mk4
        have HCP := hide (refCopy_any aM _ cM L w12.drew (HP12.out.below ((Below.refl _ _).drew)))
        have F2 : Hid (w12.drew.cell? ⟨w.heap.size, 2, none⟩ = some (.int .u32 (ad : Int))) := j2
        have F4 : Hid (w12.drew.cell? ⟨w.heap.size, 4, none⟩ = some (.string (str D))) := j4
        have HST := hide (fun (w15 : World) (a15 : Option Addr) (c15 : Nat) (h : Pgs w15 a15 l.length c15 L) => in_any a15 _ c15 L ad D w15 h okad HD.out okd)
        clear j2 j4
        go_region_held3 (fun wz => wz.cell? ⟨w.heap.size, 2, none⟩ = some (.int .u32 (ad : Int)) ∧ wz.cell? ⟨w.heap.size, 4, none⟩ = some (.string (str D))) (first | exact ⟨F2.out, F4.out⟩ | exact ⟨K2.out, K4.out⟩ | exact ⟨M2.out, M4.out⟩) (first | (go_at_call 10; refine HCP.out.mono ?_; rintro e w15 ⟨v15, rfl, ho15, b15⟩; obtain ⟨a15, c15, rfl, g15, _⟩ := ho15.pgs OKL.out (by rw [HLL.out]; exact hm); rw [HLL.out] at g15 ⊢; have G15 := hide g15; have B15 := hide b15; have K2 : Hid _ := cell_below F2.out b15; have K4 : Hid _ := cell_below F4.out b15; clear ho15 b15 g15) | (go_at_call 28; refine (HST.out w15 a15 c15 G15.out).mono ?_; rintro e w16 ⟨f, x16, rfl, hrf, hf6, ho16, b16⟩; have O16 := hide ho16; have B16 := hide b16; have RF16 := hide hrf; have M2 : Hid _ := cell_below K2.out b16; have M4 : Hid _ := cell_below K4.out b16; clear ho16 b16 hrf))
        have BT := hide (chain (undrew B15.out) B16.out)
        have HP16 := hide (HP12.out.below BT.out)
        have D16 := hide (chain D12.out BT.out)
        have m2 := M2.out
        have m4 := M4.out
        clear K2 K4 F2 F4 M2 M4 HCP HST G15 B15 B16 BT HP12 D12
        have hsz : (str D).size = D.length := str_len D
        by_cases hf : f = 0
        · subst hf
          have hz : ∀ i, i < D.length → bflt L (ad + i) 1 = 0 := by
            rcases RF16.out with ⟨_, h⟩ | ⟨i, _, _, h1, h2⟩
            · exact h
            · exact absurd rfl h2
          have hdl : D.length ≤ 4294967296 := by
            by_cases h0 : D.length = 0
            · omega
            · have := (bflt_zero (hz (D.length - 1) (by omega))).1
              omega
          have O17 := O16.out
          rw [if_pos rfl] at O17
          have okp := put_in_ok OKL.out ad HD.out
          have hpl : (put_in L ad D).length = l.length := by rw [put_in_len]; exact HLL.out
          obtain ⟨a17, c17, rfl, hpg17, _⟩ := O17.pgs okp (by rw [hpl]; exact hm)
          rw [hpl] at hpg17 ⊢
          have HP17 := hide hpg17
          have PR := hide (put_read OKL.out hz)
          have PF := hide (fun f => put_rf (f := f) OPL.out hz)
          clear hz O17 okp hpl hpg17 O16 RF16
          go_wp2_with fail
          refine Calls.mono (out_any a17 _ c17 (put_in L ad D) ad D.length w16 HP17.out okad (by omega)) ?_
          rintro e w17 ⟨f17, rfl, hrf17, _, b17⟩
          obtain rfl : f17 = 0 := PF.out f17 hrf17
          rw [if_pos rfl, PR.out]
          have n2 := cell_below m2 b17
          have n4 := cell_below m4 b17
          have HP18 := hide (HP17.out.below b17)
          have HPM := hide (HP16.out.below b17)
          have D17 := hide (chain D16.out b17)
          clear hrf17 b17 m2 m4 HP17 HP16 D16
          go_wp2_with fail
          refine Calls.mono (others_any aM _ cM L a17 c17 ad D.length (datB D ad) w17 HPM.out HP18.out okad hdl) ?_
          rintro e w18 ⟨rfl, b18⟩
          have D18 := hide (chain D17.out b18)
          clear b18
          go_wp2
          go_ret
          exact ⟨rfl, D18.out⟩
        · have hd : ((f : Int) != 0) = true := by simp; omega
          have hne : D ≠ [] := fun e => by
            rcases RF16.out with ⟨h, _⟩ | ⟨i, hi, _, _, _⟩
            · exact hf h
            · rw [e] at hi; simp at hi
          have hstr : (str D).toList.isEmpty = false := by
            rw [ByteArray.toList_eq]
            simp [str, hne]
          have O17 := O16.out
          rw [if_neg hf] at O17
          obtain ⟨a17, c17, rfl, _, _⟩ := O17.pgs (fun p hp => by simp at hp) (by simp)
          clear O17 O16 RF16 hf
          simp only [List.length_nil]
          go_wp2
          go_ret
          exact ⟨rfl, D16.out⟩

    · have hd : ((nfault L ad s 1 : Nat) : Int) ≠ 0 := by omega
      have hd1 : (((nfault L ad s 1 : Nat) : Int) != 0) = true := by simpa using hd
      have e1 : stv L ad s vv = [] := by unfold stv; rw [if_neg hf0]
      have e2 : pkv L ad s vv = L := by unfold pkv; rw [if_neg hf0]
      rw [e1] at O8
      rw [e2] at P8
      obtain ⟨a6, c6, rfl, _, _⟩ := O8.out.pgs (fun p hp => by simp at hp) (by simp)
      simp only [List.length_nil]
      clear e1 e2 hd hf0 O8
      generalize nfault L ad s 1 = f0 at *
      go_wp2_with fail
      refine Calls.mono (lcode_any E8.out .nilIface 0 (bare_nil E)) ?_
      rintro e w9 ⟨rfl, b9⟩
      have E9 := hide (E8.out.below b9)
      have B9 := hide b9
      clear b9
      go_wp2_with fail
      refine Calls.mono (lcode_any E9.out .nilIface 0 (bare_nil E)) ?_
      rintro e w10 ⟨rfl, b10⟩
      have B10 := hide (chain B9.out b10)
      clear b10 E9 B9
      go_wp2_with fail
      have P10 := hide (P8.out.below B10.out)
      have HP10 := hide (HP8.out.below B10.out)
      obtain ⟨a7, c7, hv7, hpg7, _⟩ := P10.out.pgs OKL.out (by rw [HLL.out]; exact hm)
      subst hv7
      rw [HLL.out] at hpg7 ⊢
      refine Calls.mono (refSame_any a7 _ c7 L aM cM w10 hpg7 HP10.out) ?_
      rintro e w11 ⟨rfl, b11⟩
      have B11 := hide (chain B10.out b11)
      have HP11 := hide (HP8.out.below B11.out)
      have i2 := cell_below h2 B11.out
      have i4 := cell_below h4 B11.out
      have D11 := hide (chain D8.out B11.out)
      clear b11 hpg7 h1 h2 h3 h4 HP8 D8 E8 B10 B11 P10 HP10 P8
      go_wp2_with fail
      have HCP := hide (refCopy_any aM _ cM L w11.drew (HP11.out.below ((Below.refl _ _).drew)))
      have F2 : Hid (w11.drew.cell? ⟨w.heap.size, 2, none⟩ = some (.int .u32 (ad : Int))) := i2
      have F4 : Hid (w11.drew.cell? ⟨w.heap.size, 4, none⟩ = some (.string (str D))) := i4
      have HST := hide (fun (w15 : World) (a15 : Option Addr) (c15 : Nat) (h : Pgs w15 a15 l.length c15 L) => in_any a15 _ c15 L ad D w15 h okad HD.out okd)
      clear i2 i4
      go_region_held3 (fun wz => wz.cell? ⟨w.heap.size, 2, none⟩ = some (.int .u32 (ad : Int)) ∧ wz.cell? ⟨w.heap.size, 4, none⟩ = some (.string (str D))) (first | exact ⟨F2.out, F4.out⟩ | exact ⟨K2.out, K4.out⟩ | exact ⟨M2.out, M4.out⟩) (first | (go_at_call 10; refine HCP.out.mono ?_; rintro e w15 ⟨v15, rfl, ho15, b15⟩; obtain ⟨a15, c15, rfl, g15, _⟩ := ho15.pgs OKL.out (by rw [HLL.out]; exact hm); rw [HLL.out] at g15 ⊢; have G15 := hide g15; have B15 := hide b15; have K2 : Hid _ := cell_below F2.out b15; have K4 : Hid _ := cell_below F4.out b15; clear ho15 b15 g15) | (go_at_call 28; refine (HST.out w15 a15 c15 G15.out).mono ?_; rintro e w16 ⟨f, x16, rfl, hrf, hf6, ho16, b16⟩; have O16 := hide ho16; have B16 := hide b16; have RF16 := hide hrf; have M2 : Hid _ := cell_below K2.out b16; have M4 : Hid _ := cell_below K4.out b16; clear ho16 b16 hrf))
      have BT := hide (chain (undrew B15.out) B16.out)
      have HP16 := hide (HP11.out.below BT.out)
      have D16 := hide (chain D11.out BT.out)
      have m2 := M2.out
      have m4 := M4.out
      clear K2 K4 F2 F4 M2 M4 HCP HST G15 B15 B16 BT HP11 D11
      have hsz : (str D).size = D.length := str_len D
      by_cases hf : f = 0
      · subst hf
        have hz : ∀ i, i < D.length → bflt L (ad + i) 1 = 0 := by
          rcases RF16.out with ⟨_, h⟩ | ⟨i, _, _, h1, h2⟩
          · exact h
          · exact absurd rfl h2
        have hdl : D.length ≤ 4294967296 := by
          by_cases h0 : D.length = 0
          · omega
          · have := (bflt_zero (hz (D.length - 1) (by omega))).1
            omega
        have O17 := O16.out
        rw [if_pos rfl] at O17
        have okp := put_in_ok OKL.out ad HD.out
        have hpl : (put_in L ad D).length = l.length := by rw [put_in_len]; exact HLL.out
        obtain ⟨a17, c17, rfl, hpg17, _⟩ := O17.pgs okp (by rw [hpl]; exact hm)
        rw [hpl] at hpg17 ⊢
        have HP17 := hide hpg17
        have PR := hide (put_read OKL.out hz)
        have PF := hide (fun f => put_rf (f := f) OPL.out hz)
        clear hz O17 okp hpl hpg17 O16 RF16
        go_wp2_with fail
        refine Calls.mono (out_any a17 _ c17 (put_in L ad D) ad D.length w16 HP17.out okad (by omega)) ?_
        rintro e w17 ⟨f17, rfl, hrf17, _, b17⟩
        obtain rfl : f17 = 0 := PF.out f17 hrf17
        rw [if_pos rfl, PR.out]
        have n2 := cell_below m2 b17
        have n4 := cell_below m4 b17
        have HP18 := hide (HP17.out.below b17)
        have HPM := hide (HP16.out.below b17)
        have D17 := hide (chain D16.out b17)
        clear hrf17 b17 m2 m4 HP17 HP16 D16
        go_wp2_with fail
        refine Calls.mono (others_any aM _ cM L a17 c17 ad D.length (datB D ad) w17 HPM.out HP18.out okad hdl) ?_
        rintro e w18 ⟨rfl, b18⟩
        have D18 := hide (chain D17.out b18)
        clear b18
        go_wp2
        go_ret
        exact ⟨rfl, D18.out⟩
      · have hd : ((f : Int) != 0) = true := by simp; omega
        have hne : D ≠ [] := fun e => by
          rcases RF16.out with ⟨h, _⟩ | ⟨i, hi, _, _, _⟩
          · exact hf h
          · rw [e] at hi; simp at hi
        have hstr : (str D).toList.isEmpty = false := by
          rw [ByteArray.toList_eq]
          simp [str, hne]
        have O17 := O16.out
        rw [if_neg hf] at O17
        obtain ⟨a17, c17, rfl, _, _⟩ := O17.pgs (fun p hp => by simp at hp) (by simp)
        clear O17 O16 RF16 hf
        simp only [List.length_nil]
        go_wp2
        go_ret
        exact ⟨rfl, D16.out⟩

  · have hz1 : ¬ sz = 1 := fun e => hz (.inl e)
    have hz2 : ¬ sz = 2 := fun e => hz (.inr (.inl e))
    have hz4 : ¬ sz = 4 := fun e => hz (.inr (.inr e))
    have q1 : (sz == 1) = false := by simpa using hz1
    have q2 : (sz == 2) = false := by simpa using hz2
    have q4 : (sz == 4) = false := by simpa using hz4
    have HST := hide (fun (w5 : World) (a5 : Option Addr) (c5 : Nat) (h : Errs w5 E) => store_bad h.v12 a5 l.length c5 ad sz vv hz1 hz2 hz4)
    have HPK := hide (fun (w5 : World) (a5 : Option Addr) (c5 : Nat) (h : Errs w5 E) => poke_bad h.v12 a5 l.length c5 ad sz vv hz1 hz2 hz4)
    clear hz hz1 hz2 hz4
    go_region_held3 (fun wz => wz.cell? ⟨w.heap.size, 1, none⟩ = some (.int .i64 sz) ∧ wz.cell? ⟨w.heap.size, 2, none⟩ = some (.int .u32 (ad : Int)) ∧ wz.cell? ⟨w.heap.size, 3, none⟩ = some (.int .u32 (vv : Int))) (first | exact ⟨F1.out, F2.out, F3.out⟩ | exact ⟨K1.out, K2.out, K3.out⟩ | exact ⟨M1.out, M2.out, M3.out⟩) (first | (go_at_call 10; refine HCP.out.mono ?_; rintro e w5 ⟨v5, rfl, ho5, b5⟩; obtain ⟨a5, c5, rfl, g5, _⟩ := ho5.pgs OKL.out (by rw [HLL.out]; exact hm); rw [HLL.out] at g5 ⊢; have B5 := hide b5; have K1 : Hid _ := cell_below F1.out b5; have K2 : Hid _ := cell_below F2.out b5; have K3 : Hid _ := cell_below F3.out b5; clear ho5 b5 g5) | (go_at_call 24; refine (HST.out w5 a5 c5 (ED.out.below B5.out)).mono ?_; rintro e w6 ⟨rfl, b6⟩; have B6 := hide b6; have M1 : Hid _ := cell_below K1.out b6; have M2 : Hid _ := cell_below K2.out b6; have M3 : Hid _ := cell_below K3.out b6; clear b6))
    have B26 := hide (chain (undrew B5.out) B6.out)
    have M4 : Hid _ := cell_below (cell_below F4.out B5.out) B6.out
    have HP6 := hide (HP.out.below B26.out)
    have D6 := hide (chain D2.out B26.out)
    clear K1 K2 K3 F1 F2 F3 F4 HCP HST B5 B6 HP
    unfold sent
    go_wp2_with fail
    refine Calls.mono (refCopy_any aM _ cM L w6 HP6.out) ?_
    rintro e w7 ⟨v7, rfl, ho7, b7⟩
    obtain ⟨a7, c7, rfl, hpg7, _⟩ := ho7.pgs OKL.out (by rw [HLL.out]; exact hm)
    rw [HLL.out] at hpg7 ⊢
    have HP7 := hide (HP6.out.below b7)
    have Q7 := hide hpg7
    have g1 := cell_below M1.out b7
    have g2 := cell_below M2.out b7
    have g3 := cell_below M3.out b7
    have g4 := cell_below M4.out b7
    have D7 := hide (chain D6.out b7)
    have E7 := hide (HE.out.below D7.out)
    clear ho7 b7 hpg7 M1 M2 M3 M4 HP6 D6 B26
    go_wp2_with fail
    refine Calls.mono (HPK.out w7 a7 c7 E7.out) ?_
    rintro e w8 ⟨rfl, b8⟩
    have E8 := hide (E7.out.below b8)
    have B8 := hide b8
    clear b8
    unfold sent
    go_wp2_with fail
    refine Calls.mono (lcode_any E8.out (sent (E 12)) 12 (bare_sent E 12 (by decide) (by decide))) ?_
    rintro e w9 ⟨rfl, b9⟩
    have E9 := hide (E8.out.below b9)
    have B9 := hide (chain B8.out b9)
    clear b9 E8 B8
    go_wp2_with fail
    refine Calls.mono (lcode_any E9.out (sent (E 12)) 12 (bare_sent E 12 (by decide) (by decide))) ?_
    rintro e w10 ⟨rfl, b10⟩
    have B10 := hide (chain B9.out b10)
    clear b10 E9 B9
    go_wp2_with fail
    refine Calls.mono (refSame_any a7 _ c7 L aM cM w10 (Q7.out.below B10.out) (HP7.out.below B10.out)) ?_
    rintro e w11 ⟨rfl, b11⟩
    have B11 := hide (chain B10.out b11)
    have HP11 := hide (HP7.out.below B11.out)
    have i1 := cell_below g1 B11.out
    have i2 := cell_below g2 B11.out
    have i4 := cell_below g4 B11.out
    have D11 := hide (chain D7.out B11.out)
    clear b11 g1 g2 g3 g4 HP7 Q7 D7 E7 B10 B11 HPK
    go_wp2_with fail
    clear i1
    have HCP := hide (refCopy_any aM _ cM L w11.drew (HP11.out.below ((Below.refl _ _).drew)))
    have F2 : Hid (w11.drew.cell? ⟨w.heap.size, 2, none⟩ = some (.int .u32 (ad : Int))) := i2
    have F4 : Hid (w11.drew.cell? ⟨w.heap.size, 4, none⟩ = some (.string (str D))) := i4
    have HST := hide (fun (w15 : World) (a15 : Option Addr) (c15 : Nat) (h : Pgs w15 a15 l.length c15 L) => in_any a15 _ c15 L ad D w15 h okad HD.out okd)
    clear i2 i4
    go_region_held3 (fun wz => wz.cell? ⟨w.heap.size, 2, none⟩ = some (.int .u32 (ad : Int)) ∧ wz.cell? ⟨w.heap.size, 4, none⟩ = some (.string (str D))) (first | exact ⟨F2.out, F4.out⟩ | exact ⟨K2.out, K4.out⟩ | exact ⟨M2.out, M4.out⟩) (first | (go_at_call 10; refine HCP.out.mono ?_; rintro e w15 ⟨v15, rfl, ho15, b15⟩; obtain ⟨a15, c15, rfl, g15, _⟩ := ho15.pgs OKL.out (by rw [HLL.out]; exact hm); rw [HLL.out] at g15 ⊢; have G15 := hide g15; have B15 := hide b15; have K2 : Hid _ := cell_below F2.out b15; have K4 : Hid _ := cell_below F4.out b15; clear ho15 b15 g15) | (go_at_call 28; refine (HST.out w15 a15 c15 G15.out).mono ?_; rintro e w16 ⟨f, x16, rfl, hrf, hf6, ho16, b16⟩; have O16 := hide ho16; have B16 := hide b16; have RF16 := hide hrf; have M2 : Hid _ := cell_below K2.out b16; have M4 : Hid _ := cell_below K4.out b16; clear ho16 b16 hrf))
    have BT := hide (chain (undrew B15.out) B16.out)
    have HP16 := hide (HP11.out.below BT.out)
    have D16 := hide (chain D11.out BT.out)
    have m2 := M2.out
    have m4 := M4.out
    clear K2 K4 F2 F4 M2 M4 HCP HST G15 B15 B16 BT HP11 D11
    have hsz : (str D).size = D.length := str_len D
    by_cases hf : f = 0
    · subst hf
      have hz : ∀ i, i < D.length → bflt L (ad + i) 1 = 0 := by
        rcases RF16.out with ⟨_, h⟩ | ⟨i, _, _, h1, h2⟩
        · exact h
        · exact absurd rfl h2
      have hdl : D.length ≤ 4294967296 := by
        by_cases h0 : D.length = 0
        · omega
        · have := (bflt_zero (hz (D.length - 1) (by omega))).1
          omega
      have O17 := O16.out
      rw [if_pos rfl] at O17
      have okp := put_in_ok OKL.out ad HD.out
      have hpl : (put_in L ad D).length = l.length := by rw [put_in_len]; exact HLL.out
      obtain ⟨a17, c17, rfl, hpg17, _⟩ := O17.pgs okp (by rw [hpl]; exact hm)
      rw [hpl] at hpg17 ⊢
      have HP17 := hide hpg17
      have PR := hide (put_read OKL.out hz)
      have PF := hide (fun f => put_rf (f := f) OPL.out hz)
      clear hz O17 okp hpl hpg17 O16 RF16
      go_wp2_with fail
      refine Calls.mono (out_any a17 _ c17 (put_in L ad D) ad D.length w16 HP17.out okad (by omega)) ?_
      rintro e w17 ⟨f17, rfl, hrf17, _, b17⟩
      obtain rfl : f17 = 0 := PF.out f17 hrf17
      rw [if_pos rfl, PR.out]
      have n2 := cell_below m2 b17
      have n4 := cell_below m4 b17
      have HP18 := hide (HP17.out.below b17)
      have HPM := hide (HP16.out.below b17)
      have D17 := hide (chain D16.out b17)
      clear hrf17 b17 m2 m4 HP17 HP16 D16
      go_wp2_with fail
      refine Calls.mono (others_any aM _ cM L a17 c17 ad D.length (datB D ad) w17 HPM.out HP18.out okad hdl) ?_
      rintro e w18 ⟨rfl, b18⟩
      have D18 := hide (chain D17.out b18)
      clear b18
      go_wp2
      go_ret
      exact ⟨rfl, D18.out⟩
    · have hd : ((f : Int) != 0) = true := by simp; omega
      have hne : D ≠ [] := fun e => by
        rcases RF16.out with ⟨h, _⟩ | ⟨i, hi, _, _, _⟩
        · exact hf h
        · rw [e] at hi; simp at hi
      have hstr : (str D).toList.isEmpty = false := by
        rw [ByteArray.toList_eq]
        simp [str, hne]
      have O17 := O16.out
      rw [if_neg hf] at O17
      obtain ⟨a17, c17, rfl, _, _⟩ := O17.pgs (fun p hp => by simp at hp) (by simp)
      clear O17 O16 RF16 hf
      simp only [List.length_nil]
      go_wp2
      go_ret
      exact ⟨rfl, D16.out⟩

end Go.Proofs.YtphgcfjjhhaehaaDoor.pageStored
