/-
  The walk of XferArrives: an image and its acknowledgements over a link that loses and doubles.
-/
import Derived.Test.YtnopclacchoijaaDoorXaState
import Derived.Deep.CutRange
namespace Go.Proofs.YtnopclacchoijaaDoor
open Go.RowKit FerryCrc
set_option linter.unusedVariables false
set_option linter.unusedSimpArgs false

set_option maxRecDepth 100000 in
set_option maxHeartbeats 8000000 in
theorem alaw (a : Option Addr) (n c : Nat) (L : List Nat) (tr : Int) (la : Option Addr) (lm lc : Nat) (O : List Lo) (w : World) {E : Nat → Addr} (he : Er7 w E) (hs : Bts w a n c L) (ho : Lss w la lm lc O) (hom : lm ≤ 4611686018427387904) (htr : tr ≤ 9223372036854775807) :
    Calls Tryd.prog 7 #[.slice a n c, .int .i64 tr, .slice la lm lc] w fun e w' => e = .returned (.bool true) ∧ Below w.heap.size w w' := by
  have hl := hs.size
  have hol := ho.1.size
  have HE := hide he
  have HB := hide hs
  have HO := hide ho
  have HTR := hide htr
  have HLs := hide hs.small
  have HAW := hide (awake_any he)
  have HST := hide (fun (w' : World) (h : Er7 w' E) (hb : Bts w' a n c L) => start_any 0 3 1 9 1 a n c L h hb)
  rw [cutE_arr] at HST
  clear he hs ho htr
  go_enter Tryd.func7, Tryd.ntmps7
  go_upto_region 1 with fail
  go_wp2_with fail
  refine Calls.mono HAW.out ?_
  rintro e w1 ⟨rfl, b1⟩
  have HD := hide b1
  clear b1 HAW
  go_upto_region 3 with fail
  go_wp2_with fail
  refine Calls.mono (HST.out w1 (HE.out.below HD.out) (HB.out.below HD.out)) ?_
  rintro e w2 ⟨v, rfl, o2, b2⟩
  obtain ⟨aa, ac, rfl, hf2⟩ := o2.rcs
  clear HST
  by_cases hn : n = 0 ∨ 4096 < n
  · rw [if_pos hn]
    have HC : Hid (¬ cutE 0 3 1 9 1 L.length = 0) := by unfold Hid; rw [hl, cutE_arr, if_pos hn]; decide
    have HV : Hid (startS 0 3 1 9 1 L = zSd) := if_neg HC.out
    rw [HV.out, show erv E 11 = sent (E 11) from rfl]
    unfold sent Sd.cells zSd
    simp only
    generalize (startA 0 3 1 9 1 L).length = an
    replace HD := hide (chain HD.out b2)
    clear o2 b2 hf2
    have D3 := hide (xnew w2 (.cells #[.int .i64 0, .int .i64 0, .int .i64 0, .int .i64 0, .int .i64 0, .string ⟨#[]⟩, .slice aa an ac, .int .i64 0] 48))
    replace HD := hide (chain HD.out D3.out)
    by_cases h0 : n = 0
    · have h2 : ((n : Int) == 0) = true := by simp; omega
      clear hn h0
      go_wp2
      go_ret
      exact ⟨rfl, HD.out⟩
    · have h1 : (4096 : Int) < (n : Int) := by omega
      have h2 : ((n : Int) == 0) = false := by simp; omega
      clear hn
      go_wp2
      go_ret
      exact ⟨rfl, HD.out⟩
  · rw [if_neg hn]
    have HC : Hid (cutE 0 3 1 9 1 L.length = 0) := by unfold Hid; rw [hl, cutE_arr, if_neg hn]
    have hn1 : 1 ≤ n := by omega
    have hn4 : n ≤ 4096 := by omega
    clear hn
    obtain ⟨t, ht⟩ : ∃ t, tot L = t := ⟨_, rfl⟩
    have htb := tot_bounds (L := L) (by omega) (by omega)
    rw [ht, hl] at htb
    obtain ⟨t1, t2, t3, t4⟩ := htb
    have HT := hide ht
    have HSV : Hid (startS 0 3 1 9 1 L = ⟨0, 3, 1, 9, 1, str L, 0⟩ ∧ startA 0 3 1 9 1 L = List.replicate t false) := ⟨if_pos HC.out, by unfold startA; rw [if_pos HC.out, HT.out]⟩
    rw [HSV.out.1, show erv E 0 = .nilIface from rfl]
    rw [HSV.out.2] at o2 hf2 ⊢
    rw [List.length_replicate] at o2 hf2 ⊢
    unfold Sd.cells
    simp only
    obtain ⟨W3, hW3, B7, B9, D3⟩ := box2 w2 [.int .i64 0, .int .i64 3, .int .i64 1, .int .i64 9, .int .i64 1, .string (str L), .slice aa t ac, .int .i64 0] 48 [.bool false, .int .i64 0, .int .i64 0, .int .i64 0, .int .i64 0, .int .i64 0, .int .i64 0, .slice none 0 0] 78
    have HA : Hid (A1 w W3 L t w2.heap.size (w2.heap.size + 1) 0 (List.replicate t false) (List.replicate t false) aa ac false 0 0 0 0 0 0 none 0 0 []) := by
      have hs1 := HD.out.size
      have hs2 := b2.size
      have o3 := o2.below D3
      exact ⟨B7, B9, o3.weaken hs1, World.ownsRow_nil _ _ _ _, ⟨own_hi o2 (Nat.le_refl _), own_hi o2 (by omega)⟩, ⟨fun e => by simp [Value.ownBlock] at e, fun e => by simp [Value.ownBlock] at e⟩, ⟨by rw [List.length_replicate, HT.out], .inl ⟨rfl, rfl, rfl, by rw [List.any_replicate]; simp⟩⟩, List.length_replicate .., tle_new _ _, chain (chain HD.out b2) D3, by omega, by omega, by omega⟩
    obtain ⟨g7, hg7⟩ : ∃ g, w2.heap.size = g := ⟨_, rfl⟩
    obtain ⟨g9, hg9⟩ : ∃ g, g7 + 1 = g := ⟨_, rfl⟩
    rw [hg7, hg9] at HA
    have HW3 := hide hW3
    have HG := hide (show w2.heap.size = g7 ∧ g7 + 1 = g9 from ⟨hg7, hg9⟩)
    clear hW3 B7 B9 D3 o2 b2 hf2 HSV ht hg7 hg9 HD
    go_upto_region 7 with fail
    have hW3 := HW3.out
    obtain ⟨hg7, hg9⟩ := HG.out
    simp only [hW3, hg7, hg9]
    clear hW3 hg7 hg9 HW3 HG
    go_wp2_with fail
    go_loopw [47] (fun s47 wr => ∃ (k : Nat) (F : List Bool) (C : List Bool) (on : Bool) (x1 x2 x3 x4 x5 x6 : Int) (pa : Option Addr) (pn pc : Nat) (P : List ByteArray) (fa : Option Addr) (fc : Nat), k ≤ lm ∧ s47 = .int .i64 (k : Int) ∧ Hid (A1 w wr L t g7 g9 k F C fa fc on x1 x2 x3 x4 x5 x6 pa pn pc P)) (fun i _ => lm - (intOf i).toNat)
    case atStart => exact ⟨0, List.replicate t false, List.replicate t false, false, 0, 0, 0, 0, 0, 0, none, 0, 0, [], aa, ac, Nat.zero_le _, rfl, HA.out⟩
    case round =>
      clear HA
      obtain ⟨k, F, C, on, x1, x2, x3, x4, x5, x6, pa, pn, pc, P, fa, fc, hk, rfl, HA⟩ := hrel
      by_cases hlt : k < lm
      · --
        obtain ⟨o, hox⟩ : ∃ o, O[k]? = some o := ⟨_, List.getElem?_eq_getElem (by omega)⟩
        obtain ⟨ja, jn, jc, jl, ma, mn, mc, ml⟩ := o
        obtain ⟨lb, lo, rfl, hcx⟩ := (HO.out.1.below HA.out.be).at lo2 (by decide) hox
        have o0 := hcx 0 _ rfl
        have o1 := hcx 1 _ rfl
        simp only [Nat.add_zero] at o0
        have HI : Hid (Ins w ja jn jc jl ∧ Ins w ma mn mc ml) := HO.out.2 _ (List.mem_of_getElem? hox)
        have hltc : (k : Int) < (lm : Int) := by omega
        clear hcx hox
        obtain ⟨W1, hW1, B1, D1⟩ := box1 wr [.slice ja jn jc, .slice ma mn mc] 90
        have HB11 := hide B1
        have HD1 := hide D1
        have HA1 := hide (HA.out.below D1)
        have HW1 := hide hW1
        clear hW1 B1 D1
        go_upto_region 10 with fail
        have hW1 := HW1.out
        simp only [hW1]
        clear hW1 HW1 o0 o1
        have cg0 := HA1.out.s7.cell 0 rfl
        have cg1 := HA1.out.s7.cell 1 rfl
        have cg2 := HA1.out.s7.cell 2 rfl
        have cg3 := HA1.out.s7.cell 3 rfl
        have cg4 := HA1.out.s7.cell 4 rfl
        have cg5 := HA1.out.s7.cell 5 rfl
        have cg6 := HA1.out.s7.cell 6 rfl
        have cg7 := HA1.out.s7.cell 7 rfl
        by_cases hkt : (k : Int) < tr
        · --
          obtain ⟨k1, hk1⟩ : ∃ x, k + 1 = x := ⟨_, rfl⟩
          have HK1 := hide hk1
          clear hk1
          go_wp2_with fail
          refine Calls.mono (round_on HLs.out HC.out HK1.out HT.out HA.out.fl hkt HTR.out (HE.out.below HA1.out.be) (own_rcs HA1.out.f7)) ?_
          rintro e w4 ⟨ga, gc, na, nc, rfl, fo, no, b4⟩
          clear cg0 cg1 cg2 cg3 cg4 cg5 cg6 cg7
          obtain ⟨W5, hW5, B12, D5⟩ := box1 w4 [.int .i64 0, .int .i64 3, .int .i64 1, .int .i64 9, .int .i64 1, .string (str L), .slice ga t gc, .int .i64 ((k1 : Nat) : Int)] 48
          have HA2 := hide (HA.out.enter HB11.out HD1.out fo no b4 B12 D5)
          obtain ⟨g11, hg11⟩ : ∃ g, wr.heap.size = g := ⟨_, rfl⟩
          obtain ⟨g12, hg12⟩ : ∃ g, w4.heap.size = g := ⟨_, rfl⟩
          rw [hg11, hg12] at HA2
          have HW5 := hide hW5
          have HG := hide (show wr.heap.size = g11 ∧ w4.heap.size = g12 from ⟨hg11, hg12⟩)
          clear hW5 B12 D5 fo no b4 HB11 HD1 HA1 HA hg11 hg12
          go_upto_region 11 with fail
          have hW5 := HW5.out
          obtain ⟨hg11, hg12⟩ := HG.out
          simp only [hW5, hg11, hg12]
          clear hW5 hg11 hg12 HW5 HG
          go_wp2_with fail
          go_loopw [16, 76] (fun s16 s76 wr => ∃ (i : Nat) (cl : Bool) (C : List Bool) (on : Bool) (x1 x2 x3 x4 x5 x6 : Int) (pa : Option Addr) (pn pc : Nat) (P : List ByteArray) (G : List Bool) (ga : Option Addr) (gc : Nat), i ≤ (duI F).length ∧ s76 = .int .i64 (i : Int) ∧ s16 = .bool cl ∧ Hid (cl = true → ∀ x ∈ (duI F).take i, G[x]? = some true) ∧ Hid (A2 w wr L t g7 g9 g11 g12 k k1 F C G fa fc on x1 x2 x3 x4 x5 x6 pa pn pc P ga gc na (duI F).length nc ja jn jc ma mn mc)) (fun _ i _ => (duI F).length - (intOf i).toNat)
          case atStart => exact ⟨0, true, C, on, x1, x2, x3, x4, x5, x6, pa, pn, pc, P, F, ga, gc, Nat.zero_le _, rfl, rfl, fun _ x hx => by simp at hx, HA2.out⟩
          case round =>
            clear HA2
            obtain ⟨i, cl, C, on, x1, x2, x3, x4, x5, x6, pa, pn, pc, P, G, ga, gc, hi, rfl, rfl, HCL, HA⟩ := hrel
            by_cases hil : i < (duI F).length
            · --
              obtain ⟨j, hj⟩ : ∃ j, (duI F)[i]? = some j := ⟨_, List.getElem?_eq_getElem hil⟩
              obtain ⟨hjt, hFj⟩ := duI_at (List.mem_of_getElem? hj)
              rw [HA.out.fl] at hjt
              have hilc : (i : Int) < ((duI F).length : Int) := by omega
              obtain ⟨nb, no, rfl, hcn⟩ := (own_rcs HA.out.nn).at nt10 (by decide) (k := i) (x := ntOf 0 3 1 9 1 L j) (by rw [List.getElem?_map, hj]; rfl)
              have HNC : Hid (wr.cell? ⟨nb, no + i * 10 + 0, none⟩ = some (.int .i64 1) ∧ wr.cell? ⟨nb, no + i * 10 + 1, none⟩ = some (.int .i64 0) ∧ wr.cell? ⟨nb, no + i * 10 + 2, none⟩ = some (.int .i64 3) ∧ wr.cell? ⟨nb, no + i * 10 + 3, none⟩ = some (.int .i64 1) ∧ wr.cell? ⟨nb, no + i * 10 + 4, none⟩ = some (.int .i64 9) ∧ wr.cell? ⟨nb, no + i * 10 + 5, none⟩ = some (.int .i64 1) ∧ wr.cell? ⟨nb, no + i * 10 + 6, none⟩ = some (.int .i64 (j : Int)) ∧ wr.cell? ⟨nb, no + i * 10 + 7, none⟩ = some (.int .i64 (t : Int)) ∧ wr.cell? ⟨nb, no + i * 10 + 8, none⟩ = some (.int .u32 0) ∧ wr.cell? ⟨nb, no + i * 10 + 9, none⟩ = some (.string (pcs L j))) := by
                unfold ntOf at hcn
                rw [HT.out] at hcn
                exact ⟨hcn 0 _ rfl, hcn 1 _ rfl, hcn 2 _ rfl, hcn 3 _ rfl, hcn 4 _ rfl, hcn 5 _ rfl, hcn 6 _ rfl, hcn 7 _ rfl, hcn 8 _ rfl, hcn 9 _ rfl⟩
              clear hcn
              obtain ⟨m0, m1, m2, m3, m4, m5, m6, m7, m8, m9⟩ := HNC.out
              rw [Nat.add_zero] at m0
              have hm1 : ((duI F).length : Int) ≤ 32 := by
                have := duI_len F
                rw [HA.out.fl] at this
                omega
              obtain ⟨W4, hW4, B18, D4⟩ := box1 wr [.int .i64 1, .int .i64 0, .int .i64 3, .int .i64 1, .int .i64 9, .int .i64 1, .int .i64 (j : Int), .int .i64 (t : Int), .int .u32 0, .string (pcs L j)] 34
              obtain ⟨g18, hg18⟩ : ∃ g, wr.heap.size = g := ⟨_, rfl⟩
              rw [hg18] at B18
              have HW4 := hide hW4
              have HG18 := hide hg18
              have l9 := HA.out.s9.lt
              have l12 := HA.out.s12.lt
              have HNE : Hid (g18 ≠ g9 ∧ g18 ≠ g12) := by unfold Hid; omega
              have HA4 := hide (HA.out.below D4)
              have H18 := hide B18
              clear hW4 hg18 B18 D4 HA l9 l12 HNC
              go_upto_region 19 with fail
              have hW4 := HW4.out
              have hg18 := HG18.out
              simp only [hW4, hg18]
              clear hW4 hg18 HW4 HG18 m0 m1 m2 m3 m4 m5 m6 m7 m8 m9
              have k6 := H18.out.cell 6 rfl
              have s6 := HA4.out.s7.cell 6 rfl
              obtain ⟨fb, fo, rfl, hcf⟩ := (own_rcs HA4.out.f7).at bvl1 (by decide) hFj
              have y0 := hcf 0 _ rfl
              simp only [Nat.mul_one, Nat.add_zero] at y0
              have hj0 : ¬ (j : Int) < 0 := by omega
              have hj1 : ¬ (t : Int) ≤ (j : Int) := by omega
              have hj2 : (j : Int) < (t : Int) := by omega
              clear hcf
              obtain ⟨n1, hn1⟩ : ∃ x, tms (fat jl i) = x := ⟨_, rfl⟩
              obtain ⟨n2, hn2⟩ : ∃ x, tms (fat ml i) = x := ⟨_, rfl⟩
              have hb1 := tms_le (fat jl i)
              have hb2 := tms_le (fat ml i)
              rw [hn1] at hb1
              rw [hn2] at hb2
              have HN1 := hide hn1
              have HN2 := hide hn2
              clear hn1 hn2
              go_upto_region 21 with fail
              clear k6 s6 y0
              go_wp2_with fail
              go_loopw [19] (fun s19 wr => ∃ (q : Nat) (C : List Bool) (on : Bool) (x1 x2 x3 x4 x5 x6 : Int) (pa : Option Addr) (pn pc : Nat) (P : List ByteArray) (G : List Bool) (ga : Option Addr) (gc : Nat), q ≤ n1 ∧ s19 = .int .i64 (q : Int) ∧ Hid (1 ≤ q → C[j]? = some true) ∧ Hid (1 ≤ q → 1 ≤ n2 → G[j]? = some true) ∧ Hid (cl = true → ∀ x ∈ (duI F).take i, G[x]? = some true) ∧ Hid (A2 w wr L t g7 g9 g11 g12 k k1 F C G (some ⟨fb, fo, none⟩) fc on x1 x2 x3 x4 x5 x6 pa pn pc P ga gc (some ⟨nb, no, none⟩) (duI F).length nc ja jn jc ma mn mc) ∧ Hid (Bk wr g18 [.int .i64 1, .int .i64 0, .int .i64 3, .int .i64 1, .int .i64 9, .int .i64 1, .int .i64 (j : Int), .int .i64 (t : Int), .int .u32 0, .string (pcs L j)] 34)) (fun q _ => n1 - (intOf q).toNat)
              case atStart => exact ⟨0, C, on, x1, x2, x3, x4, x5, x6, pa, pn, pc, P, G, ga, gc, Nat.zero_le _, rfl, fun h => absurd h (by omega), fun h => absurd h (by omega), HCL.out, HA4.out, H18.out⟩
              case round =>
                clear HCL HA4 H18
                obtain ⟨q, C, on, x1, x2, x3, x4, x5, x6, pa, pn, pc, P, G, ga, gc, hq, rfl, HC1, HG1, HCL, HA, HB18⟩ := hrel
                have c0 := HA.out.s11.cell 0 rfl
                go_wp2_with fail
                refine Calls.mono (fate_any ja jn jc jl i (HI.out.1.below HA.out.be) (by omega)) ?_
                rintro e w' ⟨rfl, rfl⟩
                go_wp2_with fail
                refine Calls.mono (times_any _ _) ?_
                rintro e w' ⟨rfl, rfl⟩
                rw [HN1.out]
                clear c0
                by_cases hql : q < n1
                · --
                  have hqc : (q : Int) < (n1 : Int) := by omega
                  have cg0 := HA.out.s9.cell 0 rfl
                  have cg1 := HA.out.s9.cell 1 rfl
                  have cg2 := HA.out.s9.cell 2 rfl
                  have cg3 := HA.out.s9.cell 3 rfl
                  have cg4 := HA.out.s9.cell 4 rfl
                  have cg5 := HA.out.s9.cell 5 rfl
                  have cg6 := HA.out.s9.cell 6 rfl
                  have cg7 := HA.out.s9.cell 7 rfl
                  have ck0 := HB18.out.cell 0 rfl
                  have ck1 := HB18.out.cell 1 rfl
                  have ck2 := HB18.out.cell 2 rfl
                  have ck3 := HB18.out.cell 3 rfl
                  have ck4 := HB18.out.cell 4 rfl
                  have ck5 := HB18.out.cell 5 rfl
                  have ck6 := HB18.out.cell 6 rfl
                  have ck7 := HB18.out.cell 7 rfl
                  have ck8 := HB18.out.cell 8 rfl
                  have ck9 := HB18.out.cell 9 rfl
                  go_upto_region 24 with fail
                  go_wp2_with fail
                  refine Calls.mono (take_step HC.out HA.out.rs HT.out hjt (HE.out.below HA.out.be) (own_rcs HA.out.p9)) ?_
                  rintro e w7 ⟨qa, qc, P', rfl, o7, r7, b7⟩
                  clear cg0 cg1 cg2 cg3 cg4 cg5 cg6 cg7 ck0 ck1 ck2 ck3 ck4 ck5 ck6 ck7 ck8 ck9
                  obtain ⟨W8, hW8, B20, B21, D8⟩ := box2 w7 [.bool true, .int .i64 0, .int .i64 1, .int .i64 (t : Int), .int .i64 3, .int .i64 1, .int .i64 9, .slice qa t qc] 78 [.int .i64 7, .int .i64 0, .int .i64 3, .int .i64 1, .int .i64 9, .int .i64 1, .int .i64 (j : Int), .int .i64 (t : Int), .int .u32 0, .string ⟨#[]⟩] 34
                  obtain ⟨g20, hg20⟩ : ∃ g, w7.heap.size = g := ⟨_, rfl⟩
                  obtain ⟨g21, hg21⟩ : ∃ g, g20 + 1 = g := ⟨_, rfl⟩
                  have l9 := HA.out.s9.lt
                  have l12 := HA.out.s12.lt
                  have b7s := b7.size
                  rw [hg20] at B20 B21
                  rw [hg21] at B21
                  have HN21 : Hid (g21 ≠ g12) := by unfold Hid; omega
                  have hn219 : g21 ≠ g9 := by omega
                  have HX := hide (HA.out.below (chain b7 D8))
                  have HA' := hide (HA.out.take b7 o7 r7 D8)
                  have H18 := hide ((HB18.out.below (chain b7 D8)).others HNE.out.1 [.bool true, .int .i64 0, .int .i64 1, .int .i64 (t : Int), .int .i64 3, .int .i64 1, .int .i64 9, .slice qa t qc] 0)
                  have H21 := hide (B21.others hn219 [.bool true, .int .i64 0, .int .i64 1, .int .i64 (t : Int), .int .i64 3, .int .i64 1, .int .i64 9, .slice qa t qc] 0)
                  have H20 := hide B20
                  have HCJ : Hid ((C.set j true)[j]? = some true) := List.getElem?_set_self (by rw [HA.out.rs.1, HT.out]; exact hjt)
                  have HW8 := hide hW8
                  have HG20 := hide (show w7.heap.size = g20 ∧ g20 + 1 = g21 from ⟨hg20, hg21⟩)
                  clear hW8 hg20 hg21 B20 B21 D8 HA HB18 o7 r7 b7 b7s l9 l12 hn219 HC1
                  go_upto_region 25 with fail
                  have hW8 := HW8.out
                  obtain ⟨hg20, hg21⟩ := HG20.out
                  simp only [hW8, hg20, hg21]
                  clear hW8 hg20 hg21 HW8 HG20
                  have ck0 := H20.out.cell 0 rfl
                  have ck1 := H20.out.cell 1 rfl
                  have ck2 := H20.out.cell 2 rfl
                  have ck3 := H20.out.cell 3 rfl
                  have ck4 := H20.out.cell 4 rfl
                  have ck5 := H20.out.cell 5 rfl
                  have ck6 := H20.out.cell 6 rfl
                  have ck7 := H20.out.cell 7 rfl
                  have cg0 := HX.out.s9.cell 0 rfl
                  have cg1 := HX.out.s9.cell 1 rfl
                  have cg2 := HX.out.s9.cell 2 rfl
                  have cg3 := HX.out.s9.cell 3 rfl
                  have cg4 := HX.out.s9.cell 4 rfl
                  have cg5 := HX.out.s9.cell 5 rfl
                  have cg6 := HX.out.s9.cell 6 rfl
                  have cg7 := HX.out.s9.cell 7 rfl
                  have cf0 := HX.out.s9.frozen 0
                  have cf1 := HX.out.s9.frozen 1
                  have cf2 := HX.out.s9.frozen 2
                  have cf3 := HX.out.s9.frozen 3
                  have cf4 := HX.out.s9.frozen 4
                  have cf5 := HX.out.s9.frozen 5
                  have cf6 := HX.out.s9.frozen 6
                  have cf7 := HX.out.s9.frozen 7
                  go_upto_region 28 with fail
                  obtain ⟨W9, hW9⟩ : ∃ W9, ((((((((W8.setCell ⟨g9, 0, none⟩ (.bool true)).setCell ⟨g9, 1, none⟩ (.int .i64 0)).setCell ⟨g9, 2, none⟩ (.int .i64 1)).setCell ⟨g9, 3, none⟩ (.int .i64 (t : Int))).setCell ⟨g9, 4, none⟩ (.int .i64 3)).setCell ⟨g9, 5, none⟩ (.int .i64 1)).setCell ⟨g9, 6, none⟩ (.int .i64 9)).setCell ⟨g9, 7, none⟩ (.slice qa t qc)) = W9 := ⟨_, rfl⟩
                  simp only [hW9]
                  rw [show W8.setCells g9 0 [.bool true, .int .i64 0, .int .i64 1, .int .i64 (t : Int), .int .i64 3, .int .i64 1, .int .i64 9, .slice qa t qc] = W9 from hW9] at H18 H21 HA'
                  clear ck0 ck1 ck2 ck3 ck4 ck5 ck6 ck7 cg0 cg1 cg2 cg3 cg4 cg5 cg6 cg7 cf0 cf1 cf2 cf3 cf4 cf5 cf6 cf7 hW9 H20 HX
                  go_wp2_with fail
                  go_loopw [23] (fun s23 wr => ∃ (p : Nat) (G : List Bool) (ga : Option Addr) (gc : Nat), p ≤ n2 ∧ s23 = .int .i64 (p : Int) ∧ Hid (1 ≤ p → G[j]? = some true) ∧ Hid (1 ≤ q → 1 ≤ n2 → G[j]? = some true) ∧ Hid (cl = true → ∀ x ∈ (duI F).take i, G[x]? = some true) ∧ Hid (A2 w wr L t g7 g9 g11 g12 k k1 F (C.set j true) G (some ⟨fb, fo, none⟩) fc true 0 1 (t : Int) 3 1 9 qa t qc P' ga gc (some ⟨nb, no, none⟩) (duI F).length nc ja jn jc ma mn mc) ∧ Hid (Bk wr g18 [.int .i64 1, .int .i64 0, .int .i64 3, .int .i64 1, .int .i64 9, .int .i64 1, .int .i64 (j : Int), .int .i64 (t : Int), .int .u32 0, .string (pcs L j)] 34) ∧ Hid (Bk wr g21 [.int .i64 7, .int .i64 0, .int .i64 3, .int .i64 1, .int .i64 9, .int .i64 1, .int .i64 (j : Int), .int .i64 (t : Int), .int .u32 0, .string ⟨#[]⟩] 34)) (fun p _ => n2 - (intOf p).toNat)
                  case atStart => exact ⟨0, G, ga, gc, Nat.zero_le _, rfl, fun h => absurd h (by omega), HG1.out, HCL.out, HA'.out, H18.out, H21.out⟩
                  case round =>
                    clear HG1 HCL HA' H18 H21
                    obtain ⟨p, G, ga, gc, hp, rfl, HG1, HG2, HCL, HA, HB18, HB21⟩ := hrel
                    have c1 := HA.out.s11.cell 1 rfl
                    go_wp2_with fail
                    refine Calls.mono (fate_any ma mn mc ml i (HI.out.2.below HA.out.be) (by omega)) ?_
                    rintro e w' ⟨rfl, rfl⟩
                    go_wp2_with fail
                    refine Calls.mono (times_any _ _) ?_
                    rintro e w' ⟨rfl, rfl⟩
                    rw [HN2.out]
                    clear c1
                    by_cases hpl : p < n2
                    · --
                      have hpc : (p : Int) < (n2 : Int) := by omega
                      have cg0 := HA.out.s12.cell 0 rfl
                      have cg1 := HA.out.s12.cell 1 rfl
                      have cg2 := HA.out.s12.cell 2 rfl
                      have cg3 := HA.out.s12.cell 3 rfl
                      have cg4 := HA.out.s12.cell 4 rfl
                      have cg5 := HA.out.s12.cell 5 rfl
                      have cg6 := HA.out.s12.cell 6 rfl
                      have cg7 := HA.out.s12.cell 7 rfl
                      have ck0 := HB21.out.cell 0 rfl
                      have ck1 := HB21.out.cell 1 rfl
                      have ck2 := HB21.out.cell 2 rfl
                      have ck3 := HB21.out.cell 3 rfl
                      have ck4 := HB21.out.cell 4 rfl
                      have ck5 := HB21.out.cell 5 rfl
                      have ck6 := HB21.out.cell 6 rfl
                      have ck7 := HB21.out.cell 7 rfl
                      have ck8 := HB21.out.cell 8 rfl
                      have ck9 := HB21.out.cell 9 rfl
                      go_upto_region 31 with fail
                      go_wp2_with fail
                      refine Calls.mono (ack_step HLs.out HC.out HT.out hjt HA.out.gl (HE.out.below HA.out.be) (own_rcs HA.out.f12)) ?_
                      rintro e w7 ⟨qa, qc, y, rfl, o7, b7⟩
                      have HS12 := hide (HA.out.s12.below b7)
                      have HX18 : Hid (g18 ≠ g12 ∧ g21 ≠ g12) := ⟨HNE.out.2, HN21.out⟩
                      have H18 := hide ((HB18.out.below b7).others HX18.out.1 [.int .i64 0, .int .i64 3, .int .i64 1, .int .i64 9, .int .i64 1, .string (str L), .slice qa t qc, .int .i64 ((k1 : Nat) : Int)] 0)
                      have H21 := hide ((HB21.out.below b7).others HX18.out.2 [.int .i64 0, .int .i64 3, .int .i64 1, .int .i64 9, .int .i64 1, .string (str L), .slice qa t qc, .int .i64 ((k1 : Nat) : Int)] 0)
                      have HA' := hide (HA.out.ack b7 o7 HCJ.out)
                      have HG1' : Hid ((G.set j true)[j]? = some true) := List.getElem?_set_self (by rw [HA.out.gl]; exact hjt)
                      have HCL' : Hid (cl = true → ∀ x ∈ (duI F).take i, (G.set j true)[x]? = some true) := fun h x hx => tle_set G j x (HCL.out h x hx)
                      clear cg0 cg1 cg2 cg3 cg4 cg5 cg6 cg7 ck0 ck1 ck2 ck3 ck4 ck5 ck6 ck7 ck8 ck9 HA HB18 HB21 o7 b7 HG1 HG2 HCL
                      have cf0 := HS12.out.frozen 0
                      have cf1 := HS12.out.frozen 1
                      have cf2 := HS12.out.frozen 2
                      have cf3 := HS12.out.frozen 3
                      have cf4 := HS12.out.frozen 4
                      have cf5 := HS12.out.frozen 5
                      have cf6 := HS12.out.frozen 6
                      have cf7 := HS12.out.frozen 7
                      have cg0 := HS12.out.cell 0 rfl
                      have cg1 := HS12.out.cell 1 rfl
                      have cg2 := HS12.out.cell 2 rfl
                      have cg3 := HS12.out.cell 3 rfl
                      have cg4 := HS12.out.cell 4 rfl
                      have cg5 := HS12.out.cell 5 rfl
                      have cg6 := HS12.out.cell 6 rfl
                      have cg7 := HS12.out.cell 7 rfl
                      go_upto_region 30 with fail
                      obtain ⟨W9, hW9⟩ : ∃ W9, ((((((((w7.setCell ⟨g12, 0, none⟩ (.int .i64 0)).setCell ⟨g12, 1, none⟩ (.int .i64 3)).setCell ⟨g12, 2, none⟩ (.int .i64 1)).setCell ⟨g12, 3, none⟩ (.int .i64 9)).setCell ⟨g12, 4, none⟩ (.int .i64 1)).setCell ⟨g12, 5, none⟩ (.string (str L))).setCell ⟨g12, 6, none⟩ (.slice qa t qc)).setCell ⟨g12, 7, none⟩ (.int .i64 ((k1 : Nat) : Int))) = W9 := ⟨_, rfl⟩
                      simp only [hW9]
                      rw [show w7.setCells g12 0 [.int .i64 0, .int .i64 3, .int .i64 1, .int .i64 9, .int .i64 1, .string (str L), .slice qa t qc, .int .i64 ((k1 : Nat) : Int)] = W9 from hW9] at H18 H21 HA'
                      clear cg0 cg1 cg2 cg3 cg4 cg5 cg6 cg7 cf0 cf1 cf2 cf3 cf4 cf5 cf6 cf7 hW9 HS12
                      go_wp2
                      exact ⟨⟨p + 1, G.set j true, qa, qc, by omega, by simp, fun _ => HG1'.out, fun _ _ => HG1'.out, HCL'.out, HA'.out, H18.out, H21.out⟩, by simp [intOf]; omega⟩
                    · --
                      obtain rfl : p = n2 := by omega
                      have hpc : ¬ (p : Int) < (p : Int) := by omega
                      go_wp2
                      exact ⟨⟨q + 1, C.set j true, true, 0, 1, (t : Int), 3, 1, 9, qa, t, qc, P', G, ga, gc, by omega, by simp, fun _ => HCJ.out, fun _ h => HG1.out h, HCL.out, HA.out, HB18.out⟩, by simp [intOf]; omega⟩
                · --
                  obtain rfl : q = n1 := by omega
                  have hqc : ¬ (q : Int) < (q : Int) := by omega
                  have c0 := HA.out.s11.cell 0 rfl
                  have c1 := HA.out.s11.cell 1 rfl
                  have HFP := hide (fate_any ja jn jc jl i (HI.out.1.below HA.out.be) (by omega))
                  have HFQ := hide (fate_any ma mn mc ml i (HI.out.2.below HA.out.be) (by omega))
                  have HTP : Hid (fat jl i ≠ 1 → 1 ≤ q) := fun h => by rw [← HN1.out]; exact tms_pos h
                  have HTQ : Hid (fat ml i ≠ 1 → 1 ≤ n2) := fun h => by rw [← HN2.out]; exact tms_pos h
                  have HTK : Hid ((duI F).take (i + 1) = (duI F).take i ++ [j]) := by unfold Hid; rw [List.take_add_one, hj]; rfl
                  generalize fat jl i = f1 at *
                  generalize fat ml i = f2 at *
                  cases cl with
                  | false =>
                    go_wp2
                    exact ⟨⟨i + 1, false, C, on, x1, x2, x3, x4, x5, x6, pa, pn, pc, P, G, ga, gc, by omega, by simp, rfl, fun h => (by cases h), HA.out⟩, by simp [intOf]; omega⟩
                  | true =>
                    go_upto_region 34 with fail
                    go_wp2_with fail
                    refine Calls.mono HFP.out ?_
                    rintro e w' ⟨rfl, rfl⟩
                    by_cases h1 : f1 = 1
                    · subst h1
                      go_wp2
                      exact ⟨⟨i + 1, false, C, on, x1, x2, x3, x4, x5, x6, pa, pn, pc, P, G, ga, gc, by omega, by simp, rfl, fun h => (by cases h), HA.out⟩, by simp [intOf]; omega⟩
                    · have e1 : (f1 == 1) = false := by simpa using h1
                      have e1' : (f1 != 1) = true := by simpa using h1
                      have HP1 := hide (HTP.out h1)
                      clear h1
                      go_wp2_with fail
                      refine Calls.mono HFQ.out ?_
                      rintro e w' ⟨rfl, rfl⟩
                      by_cases h2 : f2 = 1
                      · subst h2
                        go_wp2
                        exact ⟨⟨i + 1, false, C, on, x1, x2, x3, x4, x5, x6, pa, pn, pc, P, G, ga, gc, by omega, by simp, rfl, fun h => (by cases h), HA.out⟩, by simp [intOf]; omega⟩
                      · have e2 : (f2 == 1) = false := by simpa using h2
                        have e2' : (f2 != 1) = true := by simpa using h2
                        have HP2 := hide (HTQ.out h2)
                        clear h2
                        have HCL' : Hid (∀ x ∈ (duI F).take (i + 1), G[x]? = some true) := fun x hx => by
                          rw [HTK.out, List.mem_append] at hx
                          rcases hx with hx | hx
                          · first | exact HCL.out trivial x hx | exact HCL.out rfl x hx | exact HCL.out x hx
                          · rw [List.mem_singleton] at hx
                            rw [hx]
                            exact HG1.out HP1.out HP2.out
                        go_wp2
                        exact ⟨⟨i + 1, true, C, on, x1, x2, x3, x4, x5, x6, pa, pn, pc, P, G, ga, gc, by omega, by simp, rfl, fun _ => HCL'.out, HA.out⟩, by simp [intOf]; omega⟩
            · --
              obtain rfl : (duI F).length = i := by omega
              have hilc : ¬ ((duI F).length : Int) < ((duI F).length : Int) := by omega
              have HCA : Hid (cl = true → anyN G = false) := fun h => all_acked (by rw [HA.out.gl, HA.out.fl]) HA.out.fg (by have := HCL.out h; rw [List.take_of_length_le (Nat.le_refl _)] at this; exact this)
              have HX := hide HA.out.leave
              have cg0 := HA.out.s12.cell 0 rfl
              have cg1 := HA.out.s12.cell 1 rfl
              have cg2 := HA.out.s12.cell 2 rfl
              have cg3 := HA.out.s12.cell 3 rfl
              have cg4 := HA.out.s12.cell 4 rfl
              have cg5 := HA.out.s12.cell 5 rfl
              have cg6 := HA.out.s12.cell 6 rfl
              have cg7 := HA.out.s12.cell 7 rfl
              have ck0 := HA.out.s7.cell 0 rfl
              have ck1 := HA.out.s7.cell 1 rfl
              have ck2 := HA.out.s7.cell 2 rfl
              have ck3 := HA.out.s7.cell 3 rfl
              have ck4 := HA.out.s7.cell 4 rfl
              have ck5 := HA.out.s7.cell 5 rfl
              have ck6 := HA.out.s7.cell 6 rfl
              have ck7 := HA.out.s7.cell 7 rfl
              have cf0 := HA.out.s7.frozen 0
              have cf1 := HA.out.s7.frozen 1
              have cf2 := HA.out.s7.frozen 2
              have cf3 := HA.out.s7.frozen 3
              have cf4 := HA.out.s7.frozen 4
              have cf5 := HA.out.s7.frozen 5
              have cf6 := HA.out.s7.frozen 6
              have cf7 := HA.out.s7.frozen 7
              go_upto_region 37 with fail
              obtain ⟨W9, hW9⟩ : ∃ W9, ((((((((wr.setCell ⟨g7, 0, none⟩ (.int .i64 0)).setCell ⟨g7, 1, none⟩ (.int .i64 3)).setCell ⟨g7, 2, none⟩ (.int .i64 1)).setCell ⟨g7, 3, none⟩ (.int .i64 9)).setCell ⟨g7, 4, none⟩ (.int .i64 1)).setCell ⟨g7, 5, none⟩ (.string (str L))).setCell ⟨g7, 6, none⟩ (.slice ga t gc)).setCell ⟨g7, 7, none⟩ (.int .i64 ((k1 : Nat) : Int))) = W9 := ⟨_, rfl⟩
              simp only [hW9]
              rw [show wr.setCells g7 0 [.int .i64 0, .int .i64 3, .int .i64 1, .int .i64 9, .int .i64 1, .string (str L), .slice ga t gc, .int .i64 ((k1 : Nat) : Int)] = W9 from hW9] at HX
              clear cg0 cg1 cg2 cg3 cg4 cg5 cg6 cg7 ck0 ck1 ck2 ck3 ck4 ck5 ck6 ck7 cf0 cf1 cf2 cf3 cf4 cf5 cf6 cf7 hW9 HA HCL
              have cg0 := HX.out.s7.cell 0 rfl
              have cg1 := HX.out.s7.cell 1 rfl
              have cg2 := HX.out.s7.cell 2 rfl
              have cg3 := HX.out.s7.cell 3 rfl
              have cg4 := HX.out.s7.cell 4 rfl
              have cg5 := HX.out.s7.cell 5 rfl
              have cg6 := HX.out.s7.cell 6 rfl
              have cg7 := HX.out.s7.cell 7 rfl
              go_wp2_with fail
              refine Calls.mono (arrived_step HLs.out HC.out HT.out HX.out.fl (HE.out.below HX.out.be) (own_rcs HX.out.f7)) ?_
              rintro e w5 ⟨rfl, b5⟩
              replace HX := hide (HX.out.below b5)
              clear cg0 cg1 cg2 cg3 cg4 cg5 cg6 cg7 b5
              have HAL0 : Hid (anyN G = false → C.all id = true) := fun h => all_of h (by rw [HX.out.rs.1, HT.out, HX.out.fl]) HX.out.le
              cases hd : anyN G with
              | false =>
                have HAL := hide (HAL0.out hd)
                clear HAL0 HCA hd
                cases cl with
                | true =>
                  have cg0 := HX.out.s9.cell 0 rfl
                  have cg1 := HX.out.s9.cell 1 rfl
                  have cg2 := HX.out.s9.cell 2 rfl
                  have cg3 := HX.out.s9.cell 3 rfl
                  have cg4 := HX.out.s9.cell 4 rfl
                  have cg5 := HX.out.s9.cell 5 rfl
                  have cg6 := HX.out.s9.cell 6 rfl
                  have cg7 := HX.out.s9.cell 7 rfl
                  go_upto_region 40 with fail
                  go_wp2_with fail
                  refine Calls.mono (whole_step HLs.out HC.out HX.out.rs (HE.out.below HX.out.be) (own_rcs HX.out.p9)) ?_
                  rintro e w24 ⟨v, n', c', rfl, hb, b24⟩
                  have s2 := bts_string (HB.out.below (chain HX.out.be b24))
                  replace HX := hide (HX.out.below b24)
                  clear cg0 cg1 cg2 cg3 cg4 cg5 cg6 cg7 b24
                  rw [HAL.out] at hb ⊢
                  rw [if_pos rfl] at hb
                  have s1 := bts_string hb
                  clear hb
                  go_wp2
                  exact ⟨⟨k1, G, C, on, x1, x2, x3, x4, x5, x6, pa, pn, pc, P, ga, gc, by have := HK1.out; omega, by rw [← HK1.out]; simp, HX.out⟩, by simp [intOf]; omega⟩
                | false =>
                  have cg0 := HX.out.s9.cell 0 rfl
                  have cg1 := HX.out.s9.cell 1 rfl
                  have cg2 := HX.out.s9.cell 2 rfl
                  have cg3 := HX.out.s9.cell 3 rfl
                  have cg4 := HX.out.s9.cell 4 rfl
                  have cg5 := HX.out.s9.cell 5 rfl
                  have cg6 := HX.out.s9.cell 6 rfl
                  have cg7 := HX.out.s9.cell 7 rfl
                  go_upto_region 40 with fail
                  go_wp2_with fail
                  refine Calls.mono (whole_step HLs.out HC.out HX.out.rs (HE.out.below HX.out.be) (own_rcs HX.out.p9)) ?_
                  rintro e w24 ⟨v, n', c', rfl, hb, b24⟩
                  have s2 := bts_string (HB.out.below (chain HX.out.be b24))
                  replace HX := hide (HX.out.below b24)
                  clear cg0 cg1 cg2 cg3 cg4 cg5 cg6 cg7 b24
                  rw [HAL.out] at hb ⊢
                  rw [if_pos rfl] at hb
                  have s1 := bts_string hb
                  clear hb
                  go_wp2
                  exact ⟨⟨k1, G, C, on, x1, x2, x3, x4, x5, x6, pa, pn, pc, P, ga, gc, by have := HK1.out; omega, by rw [← HK1.out]; simp, HX.out⟩, by simp [intOf]; omega⟩
              | true =>
                obtain rfl : cl = false := by
                  cases cl with
                  | false => rfl
                  | true =>
                    rw [HCA.out rfl] at hd
                    cases hd
                clear HAL0 HCA hd
                have cg0 := HX.out.s9.cell 0 rfl
                have cg1 := HX.out.s9.cell 1 rfl
                have cg2 := HX.out.s9.cell 2 rfl
                have cg3 := HX.out.s9.cell 3 rfl
                have cg4 := HX.out.s9.cell 4 rfl
                have cg5 := HX.out.s9.cell 5 rfl
                have cg6 := HX.out.s9.cell 6 rfl
                have cg7 := HX.out.s9.cell 7 rfl
                go_upto_region 40 with fail
                go_wp2_with fail
                refine Calls.mono (whole_step HLs.out HC.out HX.out.rs (HE.out.below HX.out.be) (own_rcs HX.out.p9)) ?_
                rintro e w24 ⟨v, n', c', rfl, hb, b24⟩
                have s2 := bts_string (HB.out.below (chain HX.out.be b24))
                replace HX := hide (HX.out.below b24)
                clear cg0 cg1 cg2 cg3 cg4 cg5 cg6 cg7 b24
                clear hb
                generalize C.all id = z
                go_wp2
                exact ⟨⟨k1, G, C, on, x1, x2, x3, x4, x5, x6, pa, pn, pc, P, ga, gc, by have := HK1.out; omega, by rw [← HK1.out]; simp, HX.out⟩, by simp [intOf]; omega⟩
        · --
          have HKT := hide hkt
          have hkd : decide ((k : Int) < tr) = false := decide_eq_false hkt
          clear hkt
          go_wp2_with fail
          refine Calls.mono (round_off HLs.out HC.out HT.out HA.out.fl (Int.not_lt.2 HKT.out) HTR.out (HE.out.below HA1.out.be) (own_rcs HA1.out.f7)) ?_
          rintro e w4 ⟨ga, gc, na, nc, rfl, b4⟩
          have HDD := hide (chain (chain HA1.out.be b4) (xnew w4 (.cells #[.int .i64 0, .int .i64 3, .int .i64 1, .int .i64 9, .int .i64 1, .string (str L), .slice ga t gc, .int .i64 ((k : Nat) : Int)] 48)))
          clear cg0 cg1 cg2 cg3 cg4 cg5 cg6 cg7 b4
          have hkd : decide ((k : Int) < tr) = false := decide_eq_false (Int.not_lt.2 HKT.out)
          go_wp2
          go_ret
          exact ⟨rfl, HDD.out⟩
      · --
        obtain rfl : k = lm := by omega
        have hltc : ¬ (k : Int) < (k : Int) := by omega
        go_wp2
        go_ret
        exact ⟨rfl, HA.out.be⟩
end Go.Proofs.YtnopclacchoijaaDoor
