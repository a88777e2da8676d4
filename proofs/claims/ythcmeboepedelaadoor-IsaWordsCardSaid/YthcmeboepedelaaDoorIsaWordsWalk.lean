/-
  ferrylaw04.IsaWords.
-/
import Derived.Test.YthcmeboepedelaaDoorIaWMath
import Derived.Test.YthcmeboepedelaaDoorIaFixed
namespace Go.Proofs.YthcmeboepedelaaDoor.isaWords
open Go.Proofs.YthcmeboepedelaaDoor Go.RowKit FerryCrc
set_option linter.unusedVariables false
set_option linter.unusedSimpArgs false
theorem w64 (n : Int) (h : -9223372036854775808 ≤ n ∧ n ≤ 9223372036854775807) : wrap64 n = n := by unfold wrap64; omega
theorem and_small {a b : Nat} (ha : a < 4294967296) (hb : b < 4294967296) : ∃ c : Nat, c < 4294967296 ∧ bits .and .u32 (a : Int) (b : Int) = (c : Int) := ⟨a &&& b, Nat.lt_of_le_of_lt Nat.and_le_left ha, u32_and_nat a b ha hb⟩
theorem or_small {a b : Nat} (ha : a < 4294967296) (hb : b < 4294967296) : ∃ c : Nat, c < 4294967296 ∧ bits .or .u32 (a : Int) (b : Int) = (c : Int) := ⟨a ||| b, Nat.or_lt_two_pow (n := 32) ha hb, u32_or_nat a b ha hb⟩
set_option maxRecDepth 100000 in
theorem ours_any (i : Ins) (w : World) : Calls Tryd.prog 18 #[.agg i.cells] w fun e w' => e = .returned (.agg i.cells) ∧ Below w.heap.size w w' := by
  obtain ⟨op, a, b, c, imm⟩ := i
  unfold Ins.cells
  dsimp only
  obtain ⟨w2, hw2, B1, B2, D⟩ := box2 w [.int .i64 op, .int .i64 a, .int .i64 b, .int .i64 c, .int .i64 imm] 27 [.int .i64 op, .int .i64 a, .int .i64 b, .int .i64 c, .int .i64 imm] 27
  have HB := hide B2
  have HD := hide D
  have HW := hide hw2
  clear B1 B2 D hw2
  go_enter Tryd.func18, Tryd.ntmps18
  go_wp2
  try simp only [HW.out]
  refine bodyPost_ret (v := .agg #[.int .i64 op, .int .i64 a, .int .i64 b, .int .i64 c, .int .i64 imm]) (results_cell_row rfl _ _ (w.heap.size + 1) 27 #[.int .i64 op, .int .i64 a, .int .i64 b, .int .i64 c, .int .i64 imm] (0, 0) _ rfl HB.out Tryd.underlying27 rfl (by kernel_rfl)) rfl ?_
  exact ⟨rfl, HD.out⟩
set_option maxRecDepth 100000 in
set_option maxHeartbeats 40000000 in
theorem law (i : Ins) (W : Nat) (s1 s2 : ByteArray) (w : World) (hE : Isv w ∧ Iat w) (hW : W < 4294967296) :
    Calls Tryd.prog 4 #[.agg #[.int .i64 i.op, .int .i64 i.a, .int .i64 i.b, .int .i64 i.c, .int .i64 i.imm, .int .u32 (W : Int), .string s1, .string s2]] w fun e w' => e = .returned (.bool true) ∧ Below w.heap.size w w' := by
  obtain ⟨hv, ht⟩ := hE
  have HT := hide (fun (w' : World) (b : Below w.heap.size w w') => ht.below b)
  have HV := hide (fun (w' : World) (b : Below w.heap.size w w') => hv.below b)
  obtain ⟨op, xa, xb, xc, imm⟩ := i
  dsimp only
  obtain ⟨w1, hw1, B0, D0⟩ := box1 w [.int .i64 op, .int .i64 xa, .int .i64 xb, .int .i64 xc, .int .i64 imm, .int .u32 (W : Int), .string s1, .string s2] 30
  obtain ⟨q, hq⟩ : ∃ q, w.heap.size = q := ⟨_, rfl⟩
  rw [hq] at B0
  have HF := hide (fixed_any w1 (HT.out w1 D0) (HV.out w1 D0))
  have HB1 := hide D0
  have HX := hide B0
  have HW1 := hide hw1
  have HQ := hide hq
  clear hv ht D0 B0 hw1 hq
  go_enter Tryd.func4, Tryd.ntmps4
  go_upto_region 1 with fail
  try simp only [HW1.out, HQ.out]
  clear HW1
  go_wp2_with fail
  refine Calls.mono HF.out ?_
  rintro e w2 ⟨rfl, b⟩
  replace HX := hide (HX.out.below b)
  have HB2 := hide (chain HB1.out b)
  have c5 := HX.out.cell 5 rfl
  clear b HF HB1
  obtain ⟨n1, l1, e1⟩ := and_small hW (show (33550336 : Nat) < 4294967296 by decide)
  obtain ⟨m2, k2, e2⟩ := and_small hW (show (16777215 : Nat) < 4294967296 by decide)
  obtain ⟨n2, l2, e3⟩ := or_small k2 (show (268435456 : Nat) < 4294967296 by decide)
  obtain ⟨m3, k3, e4⟩ := and_small hW (show (16711680 : Nat) < 4294967296 by decide)
  obtain ⟨n3, l3, e5⟩ := or_small k3 (show (335544320 : Nat) < 4294967296 by decide)
  obtain ⟨m4, k4, e6⟩ := and_small hW (show (65535 : Nat) < 4294967296 by decide)
  obtain ⟨n4, l4, e7⟩ := or_small k4 (show (1073741824 : Nat) < 4294967296 by decide)
  replace e1 : bits .and .u32 (W : Int) 33550336 = (n1 : Int) := e1
  replace e2 : bits .and .u32 (W : Int) 16777215 = (m2 : Int) := e2
  replace e3 : bits .or .u32 (m2 : Int) 268435456 = (n2 : Int) := e3
  replace e4 : bits .and .u32 (W : Int) 16711680 = (m3 : Int) := e4
  replace e5 : bits .or .u32 (m3 : Int) 335544320 = (n3 : Int) := e5
  replace e6 : bits .and .u32 (W : Int) 65535 = (m4 : Int) := e6
  replace e7 : bits .or .u32 (m4 : Int) 1073741824 = (n4 : Int) := e7
  have HN : Hid (∀ n ∈ [W, n1, n2, n3, n4], n < 4294967296) := by
    intro n hn
    simp only [List.mem_cons, List.not_mem_nil, or_false] at hn
    rcases hn with rfl | rfl | rfl | rfl | rfl <;> assumption
  obtain ⟨w3, hw3, B3, D3⟩ := box1 w2 [.int .u32 (W : Int), .int .u32 (n1 : Int), .int .u32 (n2 : Int), .int .u32 (n3 : Int), .int .u32 (n4 : Int)] 28
  obtain ⟨q3, hq3⟩ : ∃ q, w2.heap.size = q := ⟨_, rfl⟩
  rw [hq3] at B3
  replace HX := hide (HX.out.below D3)
  have HB3 := hide (chain HB2.out D3)
  have HL := hide B3
  clear D3 B3 HB2 l1 k2 l2 k3 l3 k4 l4
  go_upto_region 4 with fail
  try simp only [hw3, hq3]
  clear hw3 hq3 e1 e2 e3 e4 e5 e6 e7 c5
  go_upto_region 5 with fail
  go_loopw [4] (fun s wr => ∃ j : Nat, j ≤ 5 ∧ s = .int .i64 (j : Int) ∧ Hid (Below w3.heap.size w3 wr)) (fun s _ => 5 - (intOf s).toNat)
  case atStart => exact ⟨0, by omega, rfl, Below.refl _ _⟩
  case round =>
  obtain ⟨j, hj, rfl, HBr⟩ := hrel
  by_cases hlt : j < 5
  · --
    obtain ⟨n, hn⟩ : ∃ n, [W, n1, n2, n3, n4][j]? = some n := ⟨_, List.getElem?_eq_getElem (by simpa using hlt)⟩
    have hn32 := HN.out n (List.mem_of_getElem? hn)
    have y0 : wr.cell? ⟨q3, j, none⟩ = some (.int .u32 (n : Int)) := by
      refine (HL.out.below HBr.out).cell j ?_
      rcases (by omega : j = 0 ∨ j = 1 ∨ j = 2 ∨ j = 3 ∨ j = 4) with rfl | rfl | rfl | rfl | rfl <;> (simp at hn; subst hn; rfl)
    have g1 : (j : Int) < 5 := by omega
    have g2 : ¬ (j : Int) < 0 := by omega
    have HBw := hide (chain HB3.out HBr.out)
    have HD := hide (decode_any n wr hn32 (HV.out wr HBw.out))
    have HN32 := hide hn32
    clear hn hn32
    go_wp2_with fail
    refine Calls.mono HD.out ?_
    rintro e w4 ⟨⟨v, rfl, hv⟩, b4⟩
    have HB4 := hide (chain HBr.out b4)
    have HBW4 := hide (chain HBw.out b4)
    clear b4 HD y0 HBr HBw
    by_cases hok : okI (cand n) = true
    · --
      rw [if_pos hok] at hv
      subst hv
      have hdec : dec n = cand n := by unfold dec; rw [if_pos hok]
      rw [hdec]
      obtain ⟨he, hf1, hf2⟩ := enc_cand HN32.out hok
      obtain ⟨⟨o, a, b, c, m⟩, hc⟩ : ∃ z, cand n = z := ⟨_, rfl⟩
      have ho : (n : Int) / 16777216 = o := by have := congrArg Ins.op hc; unfold cand at this; dsimp only at this; rw [← this]; simp
      have ha : bits .and .u32 ((n : Int) / 1048576) 15 = a := by
        have h1 := congrArg Ins.a hc
        unfold cand at h1
        dsimp only at h1
        have h2 := and_low (x := n / 1048576) 4 (by have := HN32.out; omega)
        rw [show ((2 ^ 4 - 1 : Nat) : Int) = 15 from rfl] at h2
        rw [← h1, show (n : Int) / 1048576 = ((n / 1048576 : Nat) : Int) by simp, h2]
      have hb : bits .and .u32 ((n : Int) / 65536) 15 = b := by
        have h1 := congrArg Ins.b hc
        unfold cand at h1
        dsimp only at h1
        have h2 := and_low (x := n / 65536) 4 (by have := HN32.out; omega)
        rw [show ((2 ^ 4 - 1 : Nat) : Int) = 15 from rfl] at h2
        rw [← h1, show (n : Int) / 65536 = ((n / 65536 : Nat) : Int) by simp, h2]
      have hfo : form o = form ((n / 16777216 : Nat) : Int) := by rw [← ho]; simp
      rw [hc] at he hf2 hok ⊢
      rw [← hfo] at hf1 hf2
      dsimp only at hf2
      have HOK := hide hok
      unfold Ins.cells
      dsimp only
      obtain ⟨w5, hw5, B5, D5⟩ := box1 w4 [.int .i64 o, .int .i64 a, .int .i64 b, .int .i64 c, .int .i64 m] 27
      obtain ⟨q5, hq5⟩ : ∃ q, w4.heap.size = q := ⟨_, rfl⟩
      rw [hq5] at B5
      have HX5 := hide B5
      have HB5 := hide (chain HB4.out D5)
      have HBW5 := hide (chain HBW4.out D5)
      have HW5 := hide hw5
      have HQ5 := hide hq5
      clear B5 D5 hw5 hq5 HB4 HBW4
      go_upto_region 9 with fail
      try simp only [HW5.out, HQ5.out]
      clear HW5 HQ5
      have x0 := HX5.out.cell 0 rfl
      have x1 := HX5.out.cell 1 rfl
      have x2 := HX5.out.cell 2 rfl
      have x3 := HX5.out.cell 3 rfl
      have x4 := HX5.out.cell 4 rfl
      have HE := hide (encode_any ⟨o, a, b, c, m⟩ w5 (HV.out w5 HBW5.out))
      simp only [hok, if_true] at HE
      rw [he] at HE
      unfold Ins.cells at HE
      dsimp only at HE
      have HF1 := hide hf1
      have HCC : Hid (form o = 1 → ((n / 4096 % 16 : Nat) : Int) = c) := fun h => by
        have h1 := congrArg Ins.c hc
        unfold cand at h1
        dsimp only at h1
        rw [← hfo, if_pos h] at h1
        exact h1
      have HF2 := hide hf2
      clear hok hdec hf1 hf2 hfo hc he
      go_wp2_with fail
      refine Calls.mono HE.out ?_
      rintro e w6 ⟨⟨v, rfl, rfl⟩, b6⟩
      have HB6 := hide (chain HB5.out b6)
      have HBW6 := hide (chain HBW5.out b6)
      have HX6 := hide (HX5.out.below b6)
      have HCK := hide (check_any ⟨o, a, b, c, m⟩ w6 (HV.out w6 HBW6.out))
      simp only [HOK.out, if_true] at HCK
      unfold Ins.cells at HCK
      dsimp only at HCK
      clear x0 x1 x2 x3 x4 b6 HE HB5 HBW5 HX5
      have x0 := HX6.out.cell 0 rfl
      have x1 := HX6.out.cell 1 rfl
      have x2 := HX6.out.cell 2 rfl
      have x3 := HX6.out.cell 3 rfl
      have x4 := HX6.out.cell 4 rfl
      go_wp2_with fail
      refine Calls.mono HCK.out ?_
      rintro e w7 ⟨rfl, b7⟩
      have HB7 := hide (chain HB6.out b7)
      have HX7 := hide (HX6.out.below b7)
      clear x0 x1 x2 x3 x4 b7 HCK HB6 HBW6 HX6
      have x0 := HX7.out.cell 0 rfl
      have x1 := HX7.out.cell 1 rfl
      have x2 := HX7.out.cell 2 rfl
      have x3 := HX7.out.cell 3 rfl
      have x4 := HX7.out.cell 4 rfl
      have hro := ok_range HOK.out
      dsimp only at hro
      have hwo : wrap64 ((n : Int) / 16777216) = o := by rw [ho]; exact w64 o (by omega)
      have hwa : wrap64 (bits .and .u32 ((n : Int) / 1048576) 15) = a := by rw [ha]; exact w64 a (by omega)
      have hwb : wrap64 (bits .and .u32 ((n : Int) / 65536) 15) = b := by rw [hb]; exact w64 b (by omega)
      clear ho ha hb hro
      have HFM := hide (form_any o w7)
      go_wp2_with fail
      refine Calls.mono HFM.out ?_
      rintro e w8 ⟨rfl, rfl⟩
      clear hwo hwa hwb
      by_cases hf : form o = 1
      · rw [hf]
        have h1 := HF1.out hf
        have hcv : bits .and .u32 ((n : Int) / 4096) 15 = c := by
          have h2 := and_low (x := n / 4096) 4 (by have := HN32.out; omega)
          rw [show ((2 ^ 4 - 1 : Nat) : Int) = 15 from rfl] at h2
          rw [← HCC.out hf, show (n : Int) / 4096 = ((n / 4096 : Nat) : Int) by simp, h2]
        have hro := ok_range HOK.out
        dsimp only at hro
        have hwc : wrap64 (bits .and .u32 ((n : Int) / 4096) 15) = c := by rw [hcv]; exact w64 c (by omega)
        have hlow : bits .and .u32 (n : Int) 4095 = 0 := by
          have h2 := and_low (x := n) 12 HN32.out
          rw [show ((2 ^ 12 - 1 : Nat) : Int) = 4095 from rfl, h1] at h2
          exact h2
        have hm0 : m = 0 := by
          have h3 := (ok_parts HOK.out).2.2.2.2
          dsimp only at h3
          rw [hf] at h3
          simp [loI, hiI] at h3
          omega
        subst hm0
        clear hcv hro h1 hf
        go_wp2
        exact ⟨⟨j + 1, by omega, by simp, HB7.out⟩, by simp [intOf]; omega⟩
      · obtain ⟨h1, h2⟩ := HF2.out hf
        subst h1
        have hfb : (((form o : Nat) : Int) == 1) = false := by simp; omega
        have hm1 : IntKind.u16.wrap m = ((n % 65536 : Nat) : Int) := by rw [IntKind.wrap_u16]; exact h2
        have hm2 : IntKind.u16.wrap (n : Int) = ((n % 65536 : Nat) : Int) := by rw [IntKind.wrap_u16]; omega
        have hme : IntKind.u16.wrap m = IntKind.u16.wrap (n : Int) := hm1.trans hm2.symm
        generalize form o = ff at *
        clear hf h2 hm1 hm2
        go_wp2
        exact ⟨⟨j + 1, by omega, by simp, HB7.out⟩, by simp [intOf]; omega⟩
    · --
      rw [if_neg hok] at hv
      obtain ⟨A, rfl⟩ := hv
      have hdec : dec n = noIns := by unfold dec; rw [if_neg hok]
      rw [hdec]
      unfold noIns Ins.cells
      dsimp only
      obtain ⟨w5, hw5, B5, D5⟩ := box1 w4 [.int .i64 0, .int .i64 0, .int .i64 0, .int .i64 0, .int .i64 0] 27
      obtain ⟨q5, hq5⟩ : ∃ q, w4.heap.size = q := ⟨_, rfl⟩
      rw [hq5] at B5
      have HX5 := hide B5
      have HB5 := hide (chain HB4.out D5)
      have HBW5 := hide (chain HBW4.out D5)
      have HW5 := hide hw5
      have HQ5 := hide hq5
      clear B5 D5 hw5 hq5 HB4 HBW4
      go_upto_region 9 with fail
      try simp only [HW5.out, HQ5.out]
      clear HW5 HQ5
      have x0 := HX5.out.cell 0 rfl
      have x1 := HX5.out.cell 1 rfl
      have x2 := HX5.out.cell 2 rfl
      have x3 := HX5.out.cell 3 rfl
      have x4 := HX5.out.cell 4 rfl
      go_wp2
      exact ⟨⟨j + 1, by omega, by simp, HB5.out⟩, by simp [intOf]; omega⟩
  · --
    obtain rfl : j = 5 := by omega
    have hnk : ¬ (5 : Int) < 5 := by omega
    have HXr := hide (HX.out.below HBr.out)
    have HBw := hide (chain HB3.out HBr.out)
    have x0 := HXr.out.cell 0 rfl
    have x1 := HXr.out.cell 1 rfl
    have x2 := HXr.out.cell 2 rfl
    have x3 := HXr.out.cell 3 rfl
    have x4 := HXr.out.cell 4 rfl
    have HE := hide (encode_any ⟨op, xa, xb, xc, imm⟩ wr (HV.out wr HBw.out))
    unfold Ins.cells at HE
    dsimp only at HE
    obtain ⟨ev, hev⟩ : ∃ z, (if okI ⟨op, xa, xb, xc, imm⟩ = true then encv ⟨op, xa, xb, xc, imm⟩ else 0) = z := ⟨_, rfl⟩
    have HEV := hide hev
    rw [hev] at HE
    clear hev
    go_wp2_with fail
    refine Calls.mono HE.out ?_
    rintro e w4 ⟨⟨v, rfl, hv⟩, b4⟩
    have HVV := hide hv
    have HX4 := hide (HXr.out.below b4)
    have HB4 := hide (chain HBw.out b4)
    clear b4 hv HE x0 x1 x2 x3 x4 HXr HBw HBr hnk
    have x0 := HX4.out.cell 0 rfl
    have x1 := HX4.out.cell 1 rfl
    have x2 := HX4.out.cell 2 rfl
    have x3 := HX4.out.cell 3 rfl
    have x4 := HX4.out.cell 4 rfl
    have HO := hide (ours_any ⟨op, xa, xb, xc, imm⟩ w4)
    unfold Ins.cells at HO
    dsimp only at HO
    go_wp2_with fail
    refine Calls.mono HO.out ?_
    rintro e w5 ⟨rfl, b5⟩
    have HX5 := hide (HX4.out.below b5)
    have HB5 := hide (chain HB4.out b5)
    clear b5 HO x0 x1 x2 x3 x4 HX4 HB4
    have HC := hide (rcheck_any ⟨op, xa, xb, xc, imm⟩ w5)
    unfold Ins.cells at HC
    dsimp only at HC
    obtain ⟨cd, hcd⟩ : ∃ z, codeI ⟨op, xa, xb, xc, imm⟩ = z := ⟨_, rfl⟩
    have HCD := hide hcd
    rw [hcd] at HC
    clear hcd
    go_wp2_with fail
    refine Calls.mono HC.out ?_
    rintro e w6 ⟨rfl, b6⟩
    have HX6 := hide (HX5.out.below b6)
    have HB6 := hide (chain HB5.out b6)
    clear b6 HC HX5 HB5
    by_cases hok : okI ⟨op, xa, xb, xc, imm⟩ = true
    · have hcd0 : cd = 0 := by rw [← HCD.out]; exact codeI_zero.2 hok
      subst hcd0
      have hv := HVV.out
      rw [if_pos hok] at hv
      subst hv
      have hev := HEV.out
      rw [if_pos hok] at hev
      obtain ⟨r0, r1⟩ := encv_range hok
      rw [hev] at r0 r1
      obtain ⟨n, rfl⟩ := Int.eq_ofNat_of_zero_le r0
      have hce := cand_enc hok hev
      have HD := hide (decode_any n w6 (by omega) (HV.out w6 HB6.out))
      have hde : dec n = ⟨op, xa, xb, xc, imm⟩ := by unfold dec; rw [hce, if_pos hok]
      have HOK2 : Hid (okI (cand n) = true) := by unfold Hid; rw [hce]; exact hok
      rw [hde] at HD
      unfold Ins.cells at HD
      dsimp only at HD
      clear HVV HEV HCD hce hde hev hok r0 r1
      go_wp2_with fail
      refine Calls.mono HD.out ?_
      rintro e w7 ⟨⟨v, rfl, hv⟩, b7⟩
      rw [if_pos HOK2.out] at hv
      subst hv
      obtain ⟨w8, hw8, B8, D8⟩ := box1 w7 [.int .i64 op, .int .i64 xa, .int .i64 xb, .int .i64 xc, .int .i64 imm] 27
      obtain ⟨q8, hq8⟩ : ∃ q, w7.heap.size = q := ⟨_, rfl⟩
      rw [hq8] at B8
      have HX8 := hide B8
      have HX9 := hide ((HX6.out.below b7).below D8)
      have HB8 := hide (chain (chain HB6.out b7) D8)
      have HW8 := hide hw8
      have HQ8 := hide hq8
      clear B8 D8 hw8 hq8 b7 HD HX6 HB6 HOK2
      go_upto_region 24 with fail
      try simp only [HW8.out, HQ8.out]
      clear HW8 HQ8
      have x0 := HX8.out.cell 0 rfl
      have x1 := HX8.out.cell 1 rfl
      have x2 := HX8.out.cell 2 rfl
      have x3 := HX8.out.cell 3 rfl
      have x4 := HX8.out.cell 4 rfl
      have y0 := HX9.out.cell 0 rfl
      have y1 := HX9.out.cell 1 rfl
      have y2 := HX9.out.cell 2 rfl
      have y3 := HX9.out.cell 3 rfl
      have y4 := HX9.out.cell 4 rfl
      go_wp2
      go_ret
      exact ⟨rfl, HB8.out⟩
    · have hcb : ((cd : Int) == 0) = false := by
        have : cd ≠ 0 := fun e => hok (codeI_zero.1 (by rw [HCD.out]; exact e))
        simp; omega
      have hv := HVV.out
      rw [if_neg hok] at hv
      obtain ⟨A, rfl⟩ := hv
      have hev := HEV.out
      rw [if_neg hok] at hev
      subst hev
      clear HVV HEV HCD hok
      go_wp2
      go_ret
      exact ⟨rfl, HB6.out⟩
end Go.Proofs.YthcmeboepedelaaDoor.isaWords
