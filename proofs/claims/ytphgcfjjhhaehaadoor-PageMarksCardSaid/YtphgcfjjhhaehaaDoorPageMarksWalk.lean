/-
  Walk of the law PageMarks.
-/
import Derived.Test.YtphgcfjjhhaehaaDoorPgPoke
import Derived.Test.YtphgcfjjhhaehaaDoorPosOpen
import Derived.Deep.RegionHeld3
namespace Go.Proofs.YtphgcfjjhhaehaaDoor.pageMarks
open Go.RowKit FerryCrc
set_option linter.unusedVariables false

theorem sized_int {s : Int} (h : s = 1 ∨ s = 2 ∨ s = 4) : ∃ k : Nat, s = (k : Int) ∧ Sized k := by
  rcases h with rfl | rfl | rfl
  · exact ⟨1, rfl, .inl rfl⟩
  · exact ⟨2, rfl, .inr (.inl rfl)⟩
  · exact ⟨4, rfl, .inr (.inr rfl)⟩

theorem undrew {w w' : World} (h : Below w.drew.heap.size w.drew w') : Below w.heap.size w w' := (Below.refl _ _).drew.trans h

set_option maxRecDepth 100000 in
set_option maxHeartbeats 4000000 in
theorem law (A : Addr) (a : Option Addr) (len cap : Nat) (l : List Pg) (a' : Option Addr) (len' cap' : Nat) (C : Nat → Po) (w : World) (he : w.cell? ⟨11, 0, none⟩ = some (sent A)) (hs : Pgs w a len cap l) (hc : Pos w a' len' C) :
    Calls Tryd.prog 8 #[.slice a len cap, .slice a' len' cap'] w fun e w' => e = .returned (.bool true) ∧ Below w.heap.size w w' := by
  obtain rfl := hs.size
  have hm := hs.most
  have hm' := hc.most
  have okF : Oks (l.map Pg.clean) := fun P hP => by
    obtain ⟨p, hp, rfl⟩ := List.mem_map.1 hP
    exact Pg.clean_ok (hs.ok p hp)
  have OKF := hide okF
  have HE := hide he
  have HS := hide hs
  have HC := hide hc
  clear he hs hc okF
  go_enter Tryd.func8, Tryd.ntmps8
  go_wp2_with fail
  refine Calls.mono (known_any w) ?_
  rintro e w1 ⟨rfl, b1⟩
  have D1 := hide b1
  clear b1
  go_wp2_with fail
  refine Calls.mono (refCopy_any a _ cap l w1 (HS.out.below D1.out)) ?_
  rintro e w2 ⟨v2, rfl, ho, b⟩
  obtain ⟨a2, c2, rfl, g2, _⟩ := ho.pgs HS.out.ok hm
  have G2 := hide g2
  have D2 := hide (chain D1.out b)
  clear ho b D1 g2
  go_wp2_with fail
  refine Calls.mono (clean_any a2 _ c2 l w2 G2.out) ?_
  rintro e w3 ⟨v3, rfl, ho, b⟩
  have hFl : (l.map Pg.clean).length = l.length := List.length_map _
  obtain ⟨a3, c3, rfl, g3, _⟩ := ho.pgs OKF.out (by rw [hFl]; exact hm)
  rw [hFl] at g3 ⊢
  have G3 := hide g3
  have D3 := hide (chain D2.out b)
  clear ho b D2 g3 G2
  obtain ⟨F, hF⟩ : ∃ F, l.map Pg.clean = F := ⟨_, rfl⟩
  have HFF := hide hF
  rw [hF] at G3 OKF hFl
  have HFL := hide hFl
  clear hF hFl
  go_wp2_with fail
  refine Calls.mono (refCopy_any a3 _ c3 F w3 G3.out) ?_
  rintro e w4 ⟨v4, rfl, ho, b⟩
  have O4 := hide ho
  have D4 := hide (chain D3.out b)
  have B4 := hide b
  clear ho b
  go_wp2_with fail
  go_loopw [6, 7] (fun x i wr => ∃ (k : Nat) (L : List Pg), k ≤ len' ∧ i = .int .i64 (k : Int) ∧ Hid (POwn wr w3.heap.size x L) ∧ Hid (Good F L) ∧ Hid (Below w3.heap.size w3 wr)) (fun _ i _ => len' - (intOf i).toNat)
  case atStart => exact ⟨0, F, by omega, rfl, O4.out, Good.refl OKF.out, B4.out⟩
  case round =>
    obtain ⟨k, L, hk, rfl, hown, hgood, hbl⟩ := hrel
    have DR := hide (chain D3.out hbl.out)
    by_cases hlt : k < len'
    · obtain ⟨b, off, rfl, ok, hr⟩ := (HC.out.below DR.out).cell k hlt
      have HO := hide ok
      have r0 := hr 0 _ rfl
      have r1 := hr 1 _ rfl
      have r2 := hr 2 _ rfl
      have r3 := hr 3 _ rfl
      have r4 := hr 4 _ rfl
      simp only [Nat.add_zero] at r0
      have hq1 : (k : Int) < (len' : Int) := by omega
      clear hr ok
      have okad := HO.out.addr
      have okv := HO.out.v
      have okd := HO.out.data
      generalize hg1 : (C k).kind = kd at *
      generalize hg2 : (C k).size = sz at *
      generalize hg3 : (C k).addr = ad at *
      generalize hg4 : (C k).v = vv at *
      generalize hg5 : (C k).data = dt at *
      clear hg1 hg2 hg3 hg4 hg5
      have hLl : L.length = l.length := by rw [hgood.out.len, HFL.out]
      obtain ⟨aL, cL, rfl, hpgL, _⟩ := hown.out.pgs hgood.out.ok (by rw [hLl]; exact hm)
      rw [hLl] at hpgL hown ⊢
      have HLL := hide hLl
      have OKL := hide hgood.out.ok
      clear hLl
      have BA := hide ((Below.refl wr.heap.size wr).alloc (Nat.le_refl _) (.cells #[.int .i64 kd, .int .i64 sz, .int .u32 (ad : Int), .int .u32 (vv : Int), .string dt] 30))
      have f1 : (wr.alloc (.cells #[.int .i64 kd, .int .i64 sz, .int .u32 (ad : Int), .int .u32 (vv : Int), .string dt] 30)).cell? ⟨wr.heap.size, 1, none⟩ = some (.int .i64 sz) := by rw [World.cell?_alloc_at _ _ _ _ rfl]; rfl
      have f2 : (wr.alloc (.cells #[.int .i64 kd, .int .i64 sz, .int .u32 (ad : Int), .int .u32 (vv : Int), .string dt] 30)).cell? ⟨wr.heap.size, 2, none⟩ = some (.int .u32 (ad : Int)) := by rw [World.cell?_alloc_at _ _ _ _ rfl]; rfl
      have f3 : (wr.alloc (.cells #[.int .i64 kd, .int .i64 sz, .int .u32 (ad : Int), .int .u32 (vv : Int), .string dt] 30)).cell? ⟨wr.heap.size, 3, none⟩ = some (.int .u32 (vv : Int)) := by rw [World.cell?_alloc_at _ _ _ _ rfl]; rfl
      have f4 : (wr.alloc (.cells #[.int .i64 kd, .int .i64 sz, .int .u32 (ad : Int), .int .u32 (vv : Int), .string dt] 30)).cell? ⟨wr.heap.size, 4, none⟩ = some (.string dt) := by rw [World.cell?_alloc_at _ _ _ _ rfl]; rfl
      have PA := hide (hpgL.below BA.out)
      have OA := hide (hown.out.below BA.out)
      have BB := hide (chain hbl.out BA.out)
      have HG3 := hide hbl.out.size
      clear hpgL
      by_cases hk2 : kd = 2
      · subst hk2
        go_wp2_with fail
        generalize wr.alloc (.cells #[.int .i64 2, .int .i64 sz, .int .u32 (ad : Int), .int .u32 (vv : Int), .string dt] 30) = wa at *
        have HCP := hide (refCopy_any aL _ cL L wa.drew (PA.out.below ((Below.refl _ _).drew)))
        clear r0 r1 r2 r3 r4
        have F1 : Hid (wa.drew.cell? ⟨wr.heap.size, 1, none⟩ = some (.int .i64 sz)) := f1
        have F2 : Hid (wa.drew.cell? ⟨wr.heap.size, 2, none⟩ = some (.int .u32 (ad : Int))) := f2
        have F3 : Hid (wa.drew.cell? ⟨wr.heap.size, 3, none⟩ = some (.int .u32 (vv : Int))) := f3
        by_cases hz : sz = 1 ∨ sz = 2 ∨ sz = 4
        · obtain ⟨s, rfl, hzs⟩ := sized_int hz
          have HST := hide (fun (w5 : World) (a5 : Option Addr) (c5 : Nat) (h : Pgs w5 a5 l.length c5 L) => store_any a5 _ c5 L ad s vv w5 h okad hzs okv)
          go_region_held3 (fun wz => wz.cell? ⟨wr.heap.size, 1, none⟩ = some (.int .i64 (s : Int)) ∧ wz.cell? ⟨wr.heap.size, 2, none⟩ = some (.int .u32 (ad : Int)) ∧ wz.cell? ⟨wr.heap.size, 3, none⟩ = some (.int .u32 (vv : Int))) (first | exact ⟨F1.out, F2.out, F3.out⟩ | exact ⟨K1.out, K2.out, K3.out⟩ | exact ⟨M1.out, M2.out, M3.out⟩) (first | (go_at_call 10; refine HCP.out.mono ?_; rintro e w5 ⟨v5, rfl, ho5, b5⟩; obtain ⟨a5, c5, rfl, g5, _⟩ := ho5.pgs OKL.out (by rw [HLL.out]; exact hm); rw [HLL.out] at g5 ⊢; have G5 := hide g5; have B5 := hide b5; have K1 : Hid _ := cell_below F1.out b5; have K2 : Hid _ := cell_below F2.out b5; have K3 : Hid _ := cell_below F3.out b5; clear ho5 b5 g5) | (go_at_call 24; refine (HST.out w5 a5 c5 G5.out).mono ?_; rintro e w6 ⟨x6, rfl, ho6, b6⟩; have O6 := hide ho6; have B6 := hide b6; have M1 : Hid _ := cell_below K1.out b6; have M2 : Hid _ := cell_below K2.out b6; have M3 : Hid _ := cell_below K3.out b6; clear ho6 b6))
          have B5' := hide (undrew B5.out)
          have BW := hide (chain (chain BB.out B5'.out) B6.out)
          have SZ : Hid (w3.heap.size ≤ w5.heap.size) := Nat.le_trans BB.out.size B5'.out.size
          have OL := hide ((OA.out.below B5'.out).below B6.out)
          by_cases hf0 : nfault L ad s 1 = 0
          · have hg2 := hide (hgood.out.stored (v := vv) (nz_fits hzs hf0))
            have O7 : Hid (POwn w6 w3.heap.size x6 (stored L ad s vv)) := by
              have := O6.out
              unfold stv at this
              rw [if_pos hf0] at this
              exact this.weaken SZ.out
            rw [hf0]
            clear hf0
            go_wp2
            go_roundw
            case rel => exact ⟨k + 1, _, by omega, by go_num, O7.out, hg2.out, BW.out⟩
            case measure => simp [intOf]; omega
          · have hd : ((nfault L ad s 1 : Nat) : Int) ≠ 0 := by omega
            have hd1 : (((nfault L ad s 1 : Nat) : Int) == 0) = false := by simpa using hd
            clear hd hf0
            generalize nfault L ad s 1 = f at *
            go_wp2
            go_roundw
            case rel => exact ⟨k + 1, L, by omega, by go_num, OL.out, hgood.out, BW.out⟩
            case measure => simp [intOf]; omega
        · have hz1 : ¬ sz = 1 := fun e => hz (.inl e)
          have hz2 : ¬ sz = 2 := fun e => hz (.inr (.inl e))
          have hz4 : ¬ sz = 4 := fun e => hz (.inr (.inr e))
          have HST := hide (fun (w5 : World) (a5 : Option Addr) (c5 : Nat) (h : w5.cell? ⟨11, 0, none⟩ = some (sent A)) => store_bad h a5 l.length c5 ad sz vv hz1 hz2 hz4)
          have EA := hide (cell_below HE.out (chain D3.out BB.out))
          clear hz hz1 hz2 hz4
          go_region_held3 (fun wz => wz.cell? ⟨wr.heap.size, 1, none⟩ = some (.int .i64 sz) ∧ wz.cell? ⟨wr.heap.size, 2, none⟩ = some (.int .u32 (ad : Int)) ∧ wz.cell? ⟨wr.heap.size, 3, none⟩ = some (.int .u32 (vv : Int))) (first | exact ⟨F1.out, F2.out, F3.out⟩ | exact ⟨K1.out, K2.out, K3.out⟩ | exact ⟨M1.out, M2.out, M3.out⟩) (first | (go_at_call 10; refine HCP.out.mono ?_; rintro e w5 ⟨v5, rfl, ho5, b5⟩; obtain ⟨a5, c5, rfl, g5, _⟩ := ho5.pgs OKL.out (by rw [HLL.out]; exact hm); rw [HLL.out] at g5 ⊢; have B5 := hide b5; have K1 : Hid _ := cell_below F1.out b5; have K2 : Hid _ := cell_below F2.out b5; have K3 : Hid _ := cell_below F3.out b5; clear ho5 b5 g5) | (go_at_call 24; refine (HST.out w5 a5 c5 (cell_below EA.out (undrew B5.out))).mono ?_; rintro e w6 ⟨rfl, b6⟩; have B6 := hide b6; have M1 : Hid _ := cell_below K1.out b6; have M2 : Hid _ := cell_below K2.out b6; have M3 : Hid _ := cell_below K3.out b6; clear b6))
          have B5' := hide (undrew B5.out)
          have BW := hide (chain (chain BB.out B5'.out) B6.out)
          have OL := hide ((OA.out.below B5'.out).below B6.out)
          unfold sent
          go_wp2
          go_roundw
          case rel => exact ⟨k + 1, L, by omega, by go_num, OL.out, hgood.out, BW.out⟩
          case measure => simp [intOf]; omega
      by_cases hk5 : kd = 5
      · subst hk5
        go_wp2_with fail
        generalize wr.alloc (.cells #[.int .i64 5, .int .i64 sz, .int .u32 (ad : Int), .int .u32 (vv : Int), .string dt] 30) = wa at *
        obtain ⟨D, hD, rfl⟩ : ∃ D, (∀ c ∈ D, c < 256) ∧ dt = str D := ⟨bytesOf dt, bytesOf_lt dt, (str_bytesOf dt).symm⟩
        rw [str_len] at okd
        have HCP := hide (refCopy_any aL _ cL L wa.drew (PA.out.below ((Below.refl _ _).drew)))
        clear r0 r1 r2 r3 r4
        have F2 : Hid (wa.drew.cell? ⟨wr.heap.size, 2, none⟩ = some (.int .u32 (ad : Int))) := f2
        have F4 : Hid (wa.drew.cell? ⟨wr.heap.size, 4, none⟩ = some (.string (str D))) := f4
        have HST := hide (fun (w5 : World) (a5 : Option Addr) (c5 : Nat) (h : Pgs w5 a5 l.length c5 L) => in_any a5 _ c5 L ad D w5 h okad hD okd)
        have HDD := hide hD
        clear hD
        go_region_held3 (fun wz => wz.cell? ⟨wr.heap.size, 2, none⟩ = some (.int .u32 (ad : Int)) ∧ wz.cell? ⟨wr.heap.size, 4, none⟩ = some (.string (str D))) (first | exact ⟨F2.out, F4.out⟩ | exact ⟨K2.out, K4.out⟩ | exact ⟨M2.out, M4.out⟩) (first | (go_at_call 10; refine HCP.out.mono ?_; rintro e w5 ⟨v5, rfl, ho5, b5⟩; obtain ⟨a5, c5, rfl, g5, _⟩ := ho5.pgs OKL.out (by rw [HLL.out]; exact hm); rw [HLL.out] at g5 ⊢; have G5 := hide g5; have B5 := hide b5; have K2 : Hid _ := cell_below F2.out b5; have K4 : Hid _ := cell_below F4.out b5; clear ho5 b5 g5) | (go_at_call 28; refine (HST.out w5 a5 c5 G5.out).mono ?_; rintro e w6 ⟨f, x6, rfl, _, hf6, ho6, b6⟩; have O6 := hide ho6; have B6 := hide b6; have M2 : Hid _ := cell_below K2.out b6; have M4 : Hid _ := cell_below K4.out b6; clear ho6 b6))
        have B5' := hide (undrew B5.out)
        have BW := hide (chain (chain BB.out B5'.out) B6.out)
        have SZ : Hid (w3.heap.size ≤ w5.heap.size) := Nat.le_trans BB.out.size B5'.out.size
        have OL := hide ((OA.out.below B5'.out).below B6.out)
        by_cases hf0 : f = 0
        · subst hf0
          have hg2 := hide (hgood.out.put (n := ad) HDD.out)
          have O7 : Hid (POwn w6 w3.heap.size x6 (put_in L ad D)) := by
            have := O6.out
            rw [if_pos rfl] at this
            exact this.weaken SZ.out
          go_wp2
          go_roundw
          case rel => exact ⟨k + 1, _, by omega, by go_num, O7.out, hg2.out, BW.out⟩
          case measure => simp [intOf]; omega
        · have hd1 : ((f : Int) == 0) = false := by simp; omega
          clear hf0 O6
          go_wp2
          go_roundw
          case rel => exact ⟨k + 1, L, by omega, by go_num, OL.out, hgood.out, BW.out⟩
          case measure => simp [intOf]; omega
      by_cases hk6 : kd = 6
      · subst hk6
        go_wp2_with fail
        generalize wr.alloc (.cells #[.int .i64 6, .int .i64 sz, .int .u32 (ad : Int), .int .u32 (vv : Int), .string dt] 30) = wa at *
        clear r0 r1 r2 r3 r4
        by_cases hz : sz = 1 ∨ sz = 2 ∨ sz = 4
        · obtain ⟨s, rfl, hzs⟩ := sized_int hz
          refine Calls.mono (poke_own ad s vv wa OA.out OKL.out (by rw [HLL.out]; exact hm) okad hzs okv) ?_
          rintro e w6 ⟨rfl, ho6, b6⟩
          have hg2 : Hid (Good F (pkv L ad s vv)) := by
            unfold Hid pkv
            by_cases hf0 : nfault L ad s 1 = 0
            · rw [if_pos hf0]; exact hgood.out.stored (nz_fits hzs hf0)
            · rw [if_neg hf0]; exact hgood.out
          have O6 := hide ho6
          have BW : Hid (Below w3.heap.size w3 w6) := BB.out.trans b6
          clear ho6 b6
          generalize nfault L ad s 1 = f at *
          go_wp2
          go_roundw
          case rel => exact ⟨k + 1, _, by omega, by go_num, O6.out, hg2.out, BW.out⟩
          case measure => simp [intOf]; omega
        · have hz1 : ¬ sz = 1 := fun e => hz (.inl e)
          have hz2 : ¬ sz = 2 := fun e => hz (.inr (.inl e))
          have hz4 : ¬ sz = 4 := fun e => hz (.inr (.inr e))
          have EA := hide (cell_below HE.out (chain D3.out BB.out))
          refine Calls.mono (poke_bad EA.out aL l.length cL ad sz vv hz1 hz2 hz4) ?_
          rintro e w6 ⟨rfl, b6⟩
          have BW := hide (chain BB.out b6)
          have OL := hide (OA.out.below b6)
          clear b6 hz hz1 hz2 hz4
          unfold sent
          go_wp2
          go_roundw
          case rel => exact ⟨k + 1, L, by omega, by go_num, OL.out, hgood.out, BW.out⟩
          case measure => simp [intOf]; omega
      · have d2 : (kd == 2) = false := by simpa using hk2
        have d5 : (kd == 5) = false := by simpa using hk5
        have d6 : (kd == 6) = false := by simpa using hk6
        clear hk2 hk5 hk6
        go_wp2
        go_roundw
        case rel => exact ⟨k + 1, L, by omega, by go_num, OA.out, hgood.out, BB.out⟩
        case measure => simp [intOf]; omega
    · obtain rfl : k = len' := by omega
      have hLl : L.length = l.length := by rw [hgood.out.len, HFL.out]
      obtain ⟨aL, cL, rfl, hpgL, _⟩ := hown.out.pgs hgood.out.ok (by rw [hLl]; exact hm)
      rw [hLl] at hpgL hown ⊢
      have HLL := hide hLl
      have GL := hide hpgL
      clear hLl hpgL
      have hlt : ¬ (k : Int) < (k : Int) := by omega
      have G3R := hide (G3.out.below hbl.out)
      go_wp2_with fail
      refine Calls.mono (differ_any a3 _ c3 F aL cL L wr G3R.out GL.out) ?_
      rintro e w5 ⟨x5, rfl, ho5, b5⟩
      have X5 := hide ho5
      have DW5 := hide (chain DR.out b5)
      have GL5 := hide (GL.out.below b5)
      have GF5 := hide (G3R.out.below b5)
      clear ho5 b5 GL G3R hown
      go_wp2_with fail
      refine Calls.mono (written_any aL _ cL L w5 GL5.out) ?_
      rintro e w6 ⟨x6, rfl, ho6, b6⟩
      have X6 := hide ho6
      have X5' := hide (X5.out.below b6)
      have DW6 := hide (chain DW5.out b6)
      have GL6 := hide (GL5.out.below b6)
      have GF6 := hide (GF5.out.below b6)
      clear ho6 b6 GL5 GF5 X5 DW5
      go_wp2_with fail
      refine Calls.mono (written_any a3 _ c3 F w6 GF6.out) ?_
      rintro e w7 ⟨x7, rfl, ho7, b7⟩
      have hcl : drt F l.length = [] := by rw [← HFF.out]; exact drt_clean l _
      rw [hcl] at ho7
      obtain ⟨a7, c7, rfl, _⟩ := ho7.ivs (by simp)
      have X6' := hide (X6.out.below b7)
      have X5'' := hide (X5'.out.below b7)
      have DW7 := hide (chain DW6.out b7)
      have GL7 := hide (GL6.out.below b7)
      clear ho7 b7 hcl GL6 GF6 X6 X5' DW6
      have hdl : (dif F L l.length).length ≤ l.length := dif_len _ _ _
      have hwl : (drt L l.length).length ≤ l.length := drt_len _ _
      obtain ⟨a5, c5, rfl, i5⟩ := X5''.out.ivs (by omega)
      obtain ⟨a6, c6, rfl, i6⟩ := X6'.out.ivs (by omega)
      have I5 := hide i5
      have I6 := hide i6
      clear i5 i6 X5'' X6'
      have UW := hide (drt_up L l.length).1
      have UD := hide (dif_up F L l.length).1
      have AM := hide (hgood.out.among (len := l.length))
      generalize dif F L l.length = dl at *
      generalize drt L l.length = wl at *
      simp only [List.length_nil]
      go_wp2_with fail
      go_loopw [17, 18] (fun j i wr => ∃ ji ii : Nat, ii ≤ dl.length ∧ ji ≤ wl.length ∧ i = .int .i64 (ii : Int) ∧ j = .int .i64 (ji : Int) ∧ Hid (∀ t y x : Nat, t < ji → wl[t]? = some y → dl[ii]? = some x → y < x) ∧ Hid (Below w7.heap.size w7 wr)) (fun _ i _ => dl.length - (intOf i).toNat)
      case atStart => exact ⟨0, 0, by omega, by omega, rfl, rfl, fun t y x h => by omega, Below.refl _ _⟩
      case round =>
        obtain ⟨ji, ii, hii, hji, rfl, rfl, hlow, hb8⟩ := hrel
        by_cases hlt2 : ii < dl.length
        · obtain ⟨x, hx⟩ : ∃ x, dl[ii]? = some x := ⟨_, List.getElem?_eq_getElem hlt2⟩
          have hxw : x ∈ wl := AM.out x (List.mem_of_getElem? hx)
          have HX := hide hx
          have HXW := hide hxw
          have HLOW : Hid (∀ t y : Nat, t < ji → wl[t]? = some y → y < x) := fun t y h1 h2 => hlow.out t y x h1 h2 hx
          obtain ⟨b5, o5, rfl, cD⟩ := I5.out.cell ii x hx
          have CD := hide cD
          clear hx hxw hlow cD
          have hil : (ii : Int) < (dl.length : Int) := by omega
          obtain ⟨w8, hw8⟩ : ∃ w8, w8 = wr := ⟨_, rfl⟩
          subst hw8
          go_wp2_with fail
          go_loopw [17] (fun j wr => ∃ jj : Nat, jj ≤ wl.length ∧ j = .int .i64 (jj : Int) ∧ Hid (∀ t y : Nat, t < jj → wl[t]? = some y → y < x) ∧ Hid (Below w7.heap.size w7 wr)) (fun j _ => wl.length - (intOf j).toNat)
          case atStart => exact ⟨ji, hji, rfl, HLOW.out, hb8.out⟩
          case round =>
            obtain ⟨jj, hjj, rfl, hlow2, hb9⟩ := hrel
            obtain ⟨y, hy, hyx⟩ := seek UW.out HXW.out hlow2.out
            have hjl : jj < wl.length := (List.getElem?_eq_some_iff.1 hy).1
            obtain ⟨b6, o6, rfl, cW⟩ := I6.out.cell jj y hy
            have c1 : wr.cell? ⟨b5, o5 + ii, none⟩ = some (.int .i64 (x : Int)) := cell_below CD.out hb9.out
            have c2 : wr.cell? ⟨b6, o6 + jj, none⟩ = some (.int .i64 (y : Int)) := cell_below cW hb9.out
            have HY := hide hy
            have hjl2 : (jj : Int) < (wl.length : Int) := by omega
            clear hy cW
            rcases hyx with hyx | hyx
            · have hyx2 : (y : Int) < (x : Int) := by omega
              go_wp2_with fail
              go_quiet (fail)
              go_wp2
              go_roundw
              case rel =>
                refine ⟨jj + 1, by omega, by go_num, fun t z h1 h2 => ?_, drewN_below hb9.out nq⟩
                by_cases e : t = jj
                · subst e
                  have := HY.out
                  rw [h2] at this
                  rw [Option.some.inj this]
                  exact hyx
                · exact hlow2.out t z (by omega) h2
              case measure => simp [intOf]; omega
            · subst hyx
              have hyx2 : ¬ (y : Int) < (y : Int) := by omega
              have hjl3 : ((jj : Int) == (wl.length : Int)) = false := by simp; omega
              go_wp2_with fail
              go_quiet (fail)
              have d1 : (wr.drewN nq).cell? ⟨b5, o5 + ii, none⟩ = some (.int .i64 (y : Int)) := c1
              have d2 : (wr.drewN nq).cell? ⟨b6, o6 + jj, none⟩ = some (.int .i64 (y : Int)) := c2
              have hb10 : Hid (Below w7.heap.size w7 (wr.drewN nq)) := drewN_below hb9.out nq
              clear c1 c2
              generalize wr.drewN nq = w10 at *
              clear nq
              go_wp2_with fail
              go_quiet (fail)
              go_wp2
              refine ⟨⟨jj, ii + 1, by omega, by omega, by simp, rfl, fun t z x' h1 h2 h3 => ?_, drewN_below hb10.out nq⟩, by simp [intOf]; omega⟩
              have q1 := hlow2.out t z h1 h2
              have q2 := UD.out.lt HX.out h3 (Nat.lt_succ_self _)
              omega
        · obtain rfl : ii = dl.length := by omega
          have hil : ¬ (dl.length : Int) < (dl.length : Int) := by omega
          have DW8 := hide (chain DW7.out hb8.out)
          have GL8 := hide (GL7.out.below hb8.out)
          clear hlow I5 I6 UW UD AM GL7 DW7
          go_wp2_with fail
          refine Calls.mono (clean_any aL _ cL L wr GL8.out) ?_
          rintro e w9 ⟨x9, rfl, ho9, b9⟩
          have okc : Oks (L.map Pg.clean) := fun P hP => by
            obtain ⟨p, hp, rfl⟩ := List.mem_map.1 hP
            exact Pg.clean_ok (hgood.out.ok p hp)
          obtain ⟨a9, c9, rfl, g9, _⟩ := ho9.pgs okc (by rw [List.length_map, HLL.out]; exact hm)
          rw [List.length_map, HLL.out] at g9 ⊢
          have G9 := hide g9
          have GL9 := hide (GL8.out.below b9)
          have DW9 := hide (chain DW8.out b9)
          clear ho9 g9 b9 okc
          go_wp2_with fail
          refine Calls.mono (alike_any a9 _ c9 _ aL _ cL L w9 G9.out GL9.out) ?_
          rintro e w10 ⟨r, rfl, hr, b10⟩
          obtain rfl : r = true := hr.2 (key_clean L)
          have G10 := hide (G9.out.below b10)
          have DW10 := hide (chain DW9.out b10)
          clear hr b10
          go_wp2_with fail
          refine Calls.mono (written_any a9 _ c9 _ w10 G10.out) ?_
          rintro e w11 ⟨x11, rfl, ho11, b11⟩
          rw [drt_clean] at ho11
          obtain ⟨a11, c11, rfl, _⟩ := ho11.ivs (by simp)
          have DW11 := hide (chain DW10.out b11)
          clear ho11 b11
          simp only [List.length_nil]
          go_wp2
          go_ret
          exact ⟨rfl, DW11.out⟩
end Go.Proofs.YtphgcfjjhhaehaaDoor.pageMarks
