/-
  ferrylaw04.IsaLabels.
-/
import Derived.Test.YthcmeboepedelaaDoorIaLab
import Derived.Deep.CutRange
namespace Go.Proofs.YthcmeboepedelaaDoor.isaLabels
open Go.Proofs.YthcmeboepedelaaDoor Go.RowKit FerryCrc
set_option linter.unusedVariables false
set_option linter.unusedSimpArgs false
theorem bw_size {xop : Int} {wd : ByteArray} {two la : Bool} {op rb : Int} (h : BrW xop wd two la op rb) : (bwOf wd two).size ≤ 17 := by
  have h1 := h.small
  unfold bwOf
  rw [ByteArray.size_append]
  cases two
  · have : tl1.size = 9 := by decide +kernel
    simp only [Bool.false_eq_true, if_false]
    omega
  · have : tl2.size = 13 := by decide +kernel
    simp only [if_true]
    omega
theorem join_size {bw : ByteArray} (h : bw.size ≤ 18) : ∀ ks : List Kd, (joinK bw ks).size ≤ 20 * ks.length
  | [] => by show (⟨#[]⟩ : ByteArray).size ≤ 0; decide
  | k :: ks => by
    have h1 := join_size h ks
    have hl : (lineB bw k).size ≤ 18 := by
      cases k
      · show hereB.size ≤ 18; decide +kernel
      · show nopB.size ≤ 18; decide +kernel
      · exact h
    show (lineB bw k ++ nlB ++ joinK bw ks).size ≤ _
    rw [ByteArray.size_append, ByteArray.size_append, List.length_cons]
    have hn : nlB.size = 1 := rfl
    omega
theorem j_here (bw : ByteArray) : joinK bw [.here] = ⟨#[104, 101, 114, 101, 58, 10]⟩ := by
  show hereB ++ nlB ++ (⟨#[]⟩ : ByteArray) = _
  decide +kernel
theorem j_nop (bw : ByteArray) : joinK bw [.nop] = ⟨#[110, 111, 112, 10]⟩ := by
  show nopB ++ nlB ++ (⟨#[]⟩ : ByteArray) = _
  decide +kernel
theorem j_br (bw : ByteArray) : joinK bw [.br] = bw ++ nlB := by
  show bw ++ nlB ++ (⟨#[]⟩ : ByteArray) = _
  exact nil_ba _
theorem j_two (bw : ByteArray) (k : Kd) : joinK bw [.here, k] = ⟨#[104, 101, 114, 101, 58, 10]⟩ ++ joinK bw [k] := by
  rw [← j_here bw, ← joinK_append]
  rfl
set_option maxRecDepth 100000 in
set_option maxHeartbeats 40000000 in
theorem law (x0 x1 x2 xop : Int) (w : World) (hE : Isv w ∧ Iat w) :
    Calls Tryd.prog 6 #[.agg #[.int .i64 x0, .int .i64 x1, .int .i64 x2, .int .i64 xop]] w fun e w' => e = .returned (.bool true) ∧ Below w.heap.size w w' := by
  obtain ⟨hv, ht⟩ := hE
  have HT := hide (fun (w' : World) (b : Below w.heap.size w w') => ht.below b)
  have HV := hide (fun (w' : World) (b : Below w.heap.size w w') => hv.below b)
  obtain ⟨wd, two, la, op, rb, hbr⟩ := br_ex xop
  have HBR := hide hbr
  have HWD := hide hbr.word
  obtain ⟨n, hn, n1, n2⟩ : ∃ n : Nat, (if 512 < (if x0 < 1 then 1 else x0) then 512 else (if x0 < 1 then 1 else x0)) = (n : Int) ∧ 1 ≤ n ∧ n ≤ 512 := ⟨(if 512 < (if x0 < 1 then 1 else x0) then 512 else (if x0 < 1 then 1 else x0)).toNat, by (repeat' split) <;> omega, by (repeat' split) <;> omega, by (repeat' split) <;> omega⟩
  obtain ⟨fr, hfr, f1⟩ : ∃ fr : Nat, (if (n : Int) - 1 < (if x1 < 0 then 0 else x1) then (n : Int) - 1 else (if x1 < 0 then 0 else x1)) = (fr : Int) ∧ fr < n := ⟨(if (n : Int) - 1 < (if x1 < 0 then 0 else x1) then (n : Int) - 1 else (if x1 < 0 then 0 else x1)).toNat, by (repeat' split) <;> omega, by (repeat' split) <;> omega⟩
  obtain ⟨to_, hto, t1⟩ : ∃ to_ : Nat, (if (n : Int) < (if x2 < 0 then 0 else x2) then (n : Int) else (if x2 < 0 then 0 else x2)) = (to_ : Int) ∧ to_ ≤ n := ⟨(if (n : Int) < (if x2 < 0 then 0 else x2) then (n : Int) else (if x2 < 0 then 0 else x2)).toNat, by (repeat' split) <;> omega, by (repeat' split) <;> omega⟩
  obtain ⟨w1, hw1, B0, D0⟩ := box1 w [.int .i64 x0, .int .i64 x1, .int .i64 x2, .int .i64 xop] 48
  obtain ⟨q, hq⟩ : ∃ q, w.heap.size = q := ⟨_, rfl⟩
  rw [hq] at B0
  have HF := hide (fixed_any w1 (HT.out w1 D0) (HV.out w1 D0))
  have HB1 := hide D0
  have HX := hide B0
  have HW1 := hide hw1
  have HQ := hide hq
  clear hv ht D0 B0 hw1 hq hbr
  go_enter Tryd.func6, Tryd.ntmps6
  go_upto_region 1 with fail
  try simp only [HW1.out, HQ.out]
  clear HW1
  go_wp2_with fail
  refine Calls.mono HF.out ?_
  rintro e w2 ⟨rfl, b⟩
  replace HX := hide (HX.out.below b)
  have HB2 := hide (chain HB1.out b)
  have c0 := HX.out.cell 0 rfl
  have c1 := HX.out.cell 1 rfl
  have c2 := HX.out.cell 2 rfl
  have c3 := HX.out.cell 3 rfl
  clear b HF HB1
  go_upto_region 4 with fail
  have hnw : IntKind.i64.wrap ((n : Int) - 1) = (n : Int) - 1 := by rw [IntKind.wrap_i64]; omega
  go_region
  obtain ⟨W0, hW0⟩ : ∃ z, z = w2.drew := ⟨_, rfl⟩
  have HBW := hide (show Below w.heap.size w W0 by rw [hW0]; exact HB2.out.drew)
  have HXW := hide (show Bk W0 q [.int .i64 x0, .int .i64 x1, .int .i64 x2, .int .i64 xop] 48 by rw [hW0]; exact HX.out)
  try rw [← hW0]
  clear hW0 HX HB2 c0 c1 c2 c3 hnw
  have c3 := HXW.out.cell 3 rfl
  have HNM := hide (Name_any xop W0 (HT.out W0 HBW.out))
  clear hn hfr hto
  generalize (if x0 < 1 then (1 : Int) else x0) = y0
  generalize (if x1 < 0 then (0 : Int) else x1) = y1
  generalize (if x2 < 0 then (0 : Int) else x2) = y2
  go_wp2_with fail
  refine Calls.mono HNM.out ?_
  rintro e w3 ⟨rfl, rfl⟩
  have hx1 : (if 48 ≤ xop ∧ xop ≤ 54 then nameI xop else ⟨#[108, 97]⟩) = wd := HWD.out
  have hx : (48 ≤ xop ∧ xop ≤ 54) ∨ xop < 48 ∨ 54 < xop := by omega
  rcases hx with hx | hx | hx
  · --
    rw [if_pos hx] at hx1
    rw [hx1]
    have g1 : ¬ xop < 48 := by omega
    have g2 : ¬ 54 < xop := by omega
    clear hx1
    go_upto_region 10 with fail
    have i1 : (wd.toList == [108, 97]) = la := HBR.out.isLa
    have j1 : ((wd.toList == [106, 97, 108]) || la) = !two := HBR.out.isOne
    obtain ⟨bw, hbw⟩ : ∃ z, bwOf wd two = z := ⟨_, rfl⟩
    have HBWF := hide hbw
    have HBK := hide HBR.out.br
    rw [hbw] at HBK
    have hbs := bw_size HBR.out
    rw [hbw] at hbs
    have HJS := hide (fun ks => join_size (bw := bw) (by omega) ks)
    have HW4 := hide HBR.out.small
    clear hbw hbs
    go_loopw [7, 8] (fun x y wr => ∃ i : Nat, i ≤ n + 1 ∧ y = .int .i64 (i : Int) ∧ x = .string (joinK bw (ksAt fr to_ n i)) ∧ W0 = wr) (fun _ y _ => n + 2 - (intOf y).toNat)
    case atStart => exact ⟨0, by omega, rfl, by rw [ks_zero]; rfl, rfl⟩
    case round =>
    obtain ⟨i, hi, rfl, rfl, rfl⟩ := hrel
    by_cases hlt : i ≤ n
    · as_aux_lemma =>
        have hst := ks_step (fr := fr) t1 hlt
        have hjz := HJS.out (ksAt fr to_ n i)
        have hkl := ks_len fr to_ n i
        have HNX : Hid (joinK bw (ksAt fr to_ n (i + 1)) = joinK bw (ksAt fr to_ n i) ++ joinK bw ((if i = to_ then [Kd.here] else []) ++ (if i < n then [kAt fr i] else []))) := by unfold Hid; rw [hst, joinK_append]
        obtain ⟨T, hT⟩ : ∃ z, joinK bw (ksAt fr to_ n i) = z := ⟨_, rfl⟩
        rw [hT] at hjz HNX ⊢
        have hTs : (T.size : Int) ≤ 20000 := by omega
        have g0 : (i : Int) ≤ (n : Int) := by omega
        have e6 : (⟨#[104, 101, 114, 101, 58, 10]⟩ : ByteArray).size = 6 := rfl
        have e4 : (⟨#[110, 111, 112, 10]⟩ : ByteArray).size = 4 := rfl
        clear hst hjz hkl hT
        obtain ⟨b1, hb1⟩ : ∃ z, (wd.toList == [106, 97, 108]) = z := ⟨_, rfl⟩
        rw [hb1] at j1
        have hws : (wd.size : Int) ≤ 4 := by have := HW4.out; omega
        by_cases ht : i = to_
        · subst ht
          by_cases hnn : i = n
          · subst hnn
            rw [if_pos rfl, if_neg (Nat.lt_irrefl _), List.append_nil, j_here] at HNX
            go_wp2
            exact ⟨⟨i + 1, by omega, by simp, by rw [HNX.out], trivial⟩, by simp [intOf] <;> omega⟩
          · have q2 : ((i : Int) == (n : Int)) = false := by simp; omega
            by_cases hff : i = fr
            · subst hff
              have hk : kAt i i = .br := if_pos rfl
              cases two with
              | true =>
                have hbl : b1 = false ∧ la = false := by cases b1 <;> cases la <;> simp at j1 ⊢
                obtain ⟨rfl, rfl⟩ := hbl
                have eb : bw ++ nlB = wd ++ ⟨#[32, 114, 51, 44, 32, 114, 52, 44, 32, 104, 101, 114, 101, 10]⟩ := by
                  rw [← HBWF.out]
                  show (wd ++ tl2) ++ nlB = _
                  rw [ByteArray.append_assoc, show tl2 ++ nlB = ⟨#[32, 114, 51, 44, 32, 114, 52, 44, 32, 104, 101, 114, 101, 10]⟩ by decide +kernel]
                have ec : (⟨#[32, 114, 51, 44, 32, 114, 52, 44, 32, 104, 101, 114, 101, 10]⟩ : ByteArray).size = 14 := rfl
                rw [if_pos rfl, if_pos (by omega), hk, List.singleton_append, j_two, j_br, eb] at HNX
                go_wp2
                exact ⟨⟨i + 1, by omega, by simp, by rw [HNX.out]; simp only [ByteArray.append_assoc], trivial⟩, by simp [intOf] <;> omega⟩
              | false =>
                cases b1 with
                | true =>
                  have eb : bw ++ nlB = wd ++ ⟨#[32, 114, 51, 44, 32, 104, 101, 114, 101, 10]⟩ := by
                    rw [← HBWF.out]
                    show (wd ++ tl1) ++ nlB = _
                    rw [ByteArray.append_assoc, show tl1 ++ nlB = ⟨#[32, 114, 51, 44, 32, 104, 101, 114, 101, 10]⟩ by decide +kernel]
                  have ec : (⟨#[32, 114, 51, 44, 32, 104, 101, 114, 101, 10]⟩ : ByteArray).size = 10 := rfl
                  rw [if_pos rfl, if_pos (by omega), hk, List.singleton_append, j_two, j_br, eb] at HNX
                  go_wp2
                  exact ⟨⟨i + 1, by omega, by simp, by rw [HNX.out]; simp only [ByteArray.append_assoc], trivial⟩, by simp [intOf] <;> omega⟩
                | false =>
                  obtain rfl : la = true := by simpa using j1
                  have eb : bw ++ nlB = wd ++ ⟨#[32, 114, 51, 44, 32, 104, 101, 114, 101, 10]⟩ := by
                    rw [← HBWF.out]
                    show (wd ++ tl1) ++ nlB = _
                    rw [ByteArray.append_assoc, show tl1 ++ nlB = ⟨#[32, 114, 51, 44, 32, 104, 101, 114, 101, 10]⟩ by decide +kernel]
                  have ec : (⟨#[32, 114, 51, 44, 32, 104, 101, 114, 101, 10]⟩ : ByteArray).size = 10 := rfl
                  rw [if_pos rfl, if_pos (by omega), hk, List.singleton_append, j_two, j_br, eb] at HNX
                  go_wp2
                  exact ⟨⟨i + 1, by omega, by simp, by rw [HNX.out]; simp only [ByteArray.append_assoc], trivial⟩, by simp [intOf] <;> omega⟩
            · have q3 : ((i : Int) == (fr : Int)) = false := by simp; omega
              have hk : kAt fr i = .nop := if_neg hff
              rw [if_pos rfl, if_pos (by omega), hk, List.singleton_append, j_two, j_nop] at HNX
              go_wp2
              exact ⟨⟨i + 1, by omega, by simp, by rw [HNX.out]; simp only [ByteArray.append_assoc], trivial⟩, by simp [intOf] <;> omega⟩
        · have q1 : ((i : Int) == (to_ : Int)) = false := by simp; omega
          by_cases hnn : i = n
          · subst hnn
            rw [if_neg ht, if_neg (Nat.lt_irrefl _), List.append_nil] at HNX
            go_wp2
            exact ⟨⟨i + 1, by omega, by simp, by rw [HNX.out]; exact congrArg Value.string (nil_ba T).symm, trivial⟩, by simp [intOf] <;> omega⟩
          · have q2 : ((i : Int) == (n : Int)) = false := by simp; omega
            by_cases hff : i = fr
            · subst hff
              have hk : kAt i i = .br := if_pos rfl
              cases two with
              | true =>
                have hbl : b1 = false ∧ la = false := by cases b1 <;> cases la <;> simp at j1 ⊢
                obtain ⟨rfl, rfl⟩ := hbl
                have eb : bw ++ nlB = wd ++ ⟨#[32, 114, 51, 44, 32, 114, 52, 44, 32, 104, 101, 114, 101, 10]⟩ := by
                  rw [← HBWF.out]
                  show (wd ++ tl2) ++ nlB = _
                  rw [ByteArray.append_assoc, show tl2 ++ nlB = ⟨#[32, 114, 51, 44, 32, 114, 52, 44, 32, 104, 101, 114, 101, 10]⟩ by decide +kernel]
                have ec : (⟨#[32, 114, 51, 44, 32, 114, 52, 44, 32, 104, 101, 114, 101, 10]⟩ : ByteArray).size = 14 := rfl
                rw [if_neg ht, if_pos (by omega), hk, List.nil_append, j_br, eb] at HNX
                go_wp2
                exact ⟨⟨i + 1, by omega, by simp, by rw [HNX.out], trivial⟩, by simp [intOf] <;> omega⟩
              | false =>
                cases b1 with
                | true =>
                  have eb : bw ++ nlB = wd ++ ⟨#[32, 114, 51, 44, 32, 104, 101, 114, 101, 10]⟩ := by
                    rw [← HBWF.out]
                    show (wd ++ tl1) ++ nlB = _
                    rw [ByteArray.append_assoc, show tl1 ++ nlB = ⟨#[32, 114, 51, 44, 32, 104, 101, 114, 101, 10]⟩ by decide +kernel]
                  have ec : (⟨#[32, 114, 51, 44, 32, 104, 101, 114, 101, 10]⟩ : ByteArray).size = 10 := rfl
                  rw [if_neg ht, if_pos (by omega), hk, List.nil_append, j_br, eb] at HNX
                  go_wp2
                  exact ⟨⟨i + 1, by omega, by simp, by rw [HNX.out], trivial⟩, by simp [intOf] <;> omega⟩
                | false =>
                  obtain rfl : la = true := by simpa using j1
                  have eb : bw ++ nlB = wd ++ ⟨#[32, 114, 51, 44, 32, 104, 101, 114, 101, 10]⟩ := by
                    rw [← HBWF.out]
                    show (wd ++ tl1) ++ nlB = _
                    rw [ByteArray.append_assoc, show tl1 ++ nlB = ⟨#[32, 114, 51, 44, 32, 104, 101, 114, 101, 10]⟩ by decide +kernel]
                  have ec : (⟨#[32, 114, 51, 44, 32, 104, 101, 114, 101, 10]⟩ : ByteArray).size = 10 := rfl
                  rw [if_neg ht, if_pos (by omega), hk, List.nil_append, j_br, eb] at HNX
                  go_wp2
                  exact ⟨⟨i + 1, by omega, by simp, by rw [HNX.out], trivial⟩, by simp [intOf] <;> omega⟩
            · have q3 : ((i : Int) == (fr : Int)) = false := by simp; omega
              have hk : kAt fr i = .nop := if_neg hff
              rw [if_neg ht, if_pos (by omega), hk, List.nil_append, j_nop] at HNX
              go_wp2
              exact ⟨⟨i + 1, by omega, by simp, by rw [HNX.out], trivial⟩, by simp [intOf] <;> omega⟩
    · --
      have hie : i = n + 1 := by omega
      have hjl := HJS.out (ksAt fr to_ n (n + 1))
      have hkl := ks_len fr to_ n (n + 1)
      have HA := hide (lab_any HBR.out t1 n2 f1 W0 (HT.out W0 HBW.out) (HV.out W0 HBW.out) (by rw [HBWF.out]; omega))
      rw [HBWF.out, ← hie] at HA
      obtain ⟨T, hT⟩ : ∃ z, joinK bw (ksAt fr to_ n i) = z := ⟨_, rfl⟩
      rw [hT] at HA ⊢
      have g0 : ¬ (i : Int) ≤ (n : Int) := by omega
      clear hT hjl hkl HJS HBK HBWF
      go_wp2_with fail
      refine Calls.mono HA.out ?_
      rintro e w5 ⟨u, L, k, rfl, k1, hL, hLf, hk, hok, hd, b5⟩
      obtain ⟨ua, uc, rfl⟩ := own_len k1 (n := n) hL
      obtain ⟨gu, rfl⟩ := lown_some k1 (i := fr) f1
      obtain ⟨b, o, ea, hc⟩ := (own_rcs k1).at wdC1 (by decide) hLf
      simp only [Option.some.injEq, Addr.mk.injEq, and_true] at ea
      obtain ⟨rfl, rfl⟩ := ea
      have y0 := hc 0 _ rfl
      simp only [Nat.mul_one, Nat.add_zero, Nat.zero_add] at y0
      have HB5 := hide (chain HBW.out b5)
      replace HXW := hide (HXW.out.below b5)
      clear c3
      have c3 := HXW.out.cell 3 rfl
      have HD := hide (decode_any k w5 hk (HV.out w5 HB5.out))
      simp only [hok, if_true, hd] at HD
      unfold Ins.cells at HD
      dsimp only at HD
      clear hc k1 b5 HA hLf hok hd HBW
      go_wp2_with fail
      refine Calls.mono HD.out ?_
      rintro e w6 ⟨⟨v, rfl, rfl⟩, b6⟩
      obtain ⟨W, hW, B0, D0⟩ := box1 w6 [.int .i64 op, .int .i64 3, .int .i64 rb, .int .i64 0, .int .i64 (immL op fr to_)] 27
      obtain ⟨q6, hq6⟩ : ∃ q, w6.heap.size = q := ⟨_, rfl⟩
      rw [hq6] at B0
      have HHW := hide hW
      have HHQ := hide hq6
      have HBX := hide B0
      have HBZ := hide (chain (chain HB5.out b6) D0)
      replace HXW := hide ((HXW.out.below b6).below D0)
      clear c3 y0 HD HB5 b6 hW hq6 B0 D0
      go_upto_region 24 with fail
      simp only [HHW.out, HHQ.out]
      clear HHW HHQ
      have c3 := HXW.out.cell 3 rfl
      have z0 := HBX.out.cell 0 rfl
      have z1 := HBX.out.cell 1 rfl
      have z2 := HBX.out.cell 2 rfl
      have z4 := HBX.out.cell 4 rfl
      have o1 := HBR.out.op1
      have o2 := HBR.out.op2
      have HBY := hide HBZ.out.drew
      cases la with
      | true =>
        obtain ⟨rfl, rfl⟩ := o1 rfl
        have hi4 : immL 16 fr to_ = 4 * (to_ : Int) := if_pos rfl
        rw [hi4] at z4
        have hw4 : IntKind.i64.wrap (4 * (to_ : Int)) = 4 * (to_ : Int) := by rw [IntKind.wrap_i64]; omega
        clear o1 o2
        go_wp2_with fail
        go_ret
        exact ⟨rfl, HBZ.out⟩
      | false =>
        obtain rfl := o2 rfl
        clear o1 o2
        have hne : op ≠ 16 := by omega
        have hi4 : immL op fr to_ = (to_ : Int) - (fr : Int) - 1 := if_neg hne
        rw [hi4] at z4
        have hw5 : IntKind.i64.wrap ((to_ : Int) - (fr : Int)) = (to_ : Int) - (fr : Int) := by rw [IntKind.wrap_i64]; omega
        have hw4 : IntKind.i64.wrap ((to_ : Int) - (fr : Int) - 1) = (to_ : Int) - (fr : Int) - 1 := by rw [IntKind.wrap_i64]; omega
        go_wp2_with fail
        go_ret
        exact ⟨rfl, HBZ.out⟩
  · --
    rw [if_neg (by omega)] at hx1
    subst hx1
    obtain rfl : la = true := by have := HBR.out.isLa; rw [← this]; decide +kernel
    obtain rfl : two = false := by have := HBR.out.isOne; simpa using this
    have g1 : xop < 48 := by omega
    go_upto_region 10 with fail
    obtain ⟨bw, hbw⟩ : ∃ z, bwOf ⟨#[108, 97]⟩ false = z := ⟨_, rfl⟩
    have HBWF := hide hbw
    have HBK := hide HBR.out.br
    rw [hbw] at HBK
    have hbs := bw_size HBR.out
    rw [hbw] at hbs
    have HJS := hide (fun ks => join_size (bw := bw) (by omega) ks)
    have HW4 := hide HBR.out.small
    clear hbw hbs
    go_loopw [7, 8] (fun x y wr => ∃ i : Nat, i ≤ n + 1 ∧ y = .int .i64 (i : Int) ∧ x = .string (joinK bw (ksAt fr to_ n i)) ∧ W0 = wr) (fun _ y _ => n + 2 - (intOf y).toNat)
    case atStart => exact ⟨0, by omega, rfl, by rw [ks_zero]; rfl, rfl⟩
    case round =>
    obtain ⟨i, hi, rfl, rfl, rfl⟩ := hrel
    by_cases hlt : i ≤ n
    · as_aux_lemma =>
        have hst := ks_step (fr := fr) t1 hlt
        have hjz := HJS.out (ksAt fr to_ n i)
        have hkl := ks_len fr to_ n i
        have HNX : Hid (joinK bw (ksAt fr to_ n (i + 1)) = joinK bw (ksAt fr to_ n i) ++ joinK bw ((if i = to_ then [Kd.here] else []) ++ (if i < n then [kAt fr i] else []))) := by unfold Hid; rw [hst, joinK_append]
        obtain ⟨T, hT⟩ : ∃ z, joinK bw (ksAt fr to_ n i) = z := ⟨_, rfl⟩
        rw [hT] at hjz HNX ⊢
        have hTs : (T.size : Int) ≤ 20000 := by omega
        have g0 : (i : Int) ≤ (n : Int) := by omega
        have e6 : (⟨#[104, 101, 114, 101, 58, 10]⟩ : ByteArray).size = 6 := rfl
        have e4 : (⟨#[110, 111, 112, 10]⟩ : ByteArray).size = 4 := rfl
        clear hst hjz hkl hT
        by_cases ht : i = to_
        · subst ht
          by_cases hnn : i = n
          · subst hnn
            rw [if_pos rfl, if_neg (Nat.lt_irrefl _), List.append_nil, j_here] at HNX
            go_wp2
            exact ⟨⟨i + 1, by omega, by simp, by rw [HNX.out], trivial⟩, by simp [intOf] <;> omega⟩
          · have q2 : ((i : Int) == (n : Int)) = false := by simp; omega
            by_cases hff : i = fr
            · subst hff
              have hk : kAt i i = .br := if_pos rfl
              have eb : bw ++ nlB = ⟨#[108, 97]⟩ ++ ⟨#[32, 114, 51, 44, 32, 104, 101, 114, 101, 10]⟩ := by
                rw [← HBWF.out]
                show (⟨#[108, 97]⟩ ++ tl1) ++ nlB = _
                rw [ByteArray.append_assoc, show tl1 ++ nlB = ⟨#[32, 114, 51, 44, 32, 104, 101, 114, 101, 10]⟩ by decide +kernel]
              have ec : (⟨#[32, 114, 51, 44, 32, 104, 101, 114, 101, 10]⟩ : ByteArray).size = 10 := rfl
              rw [if_pos rfl, if_pos (by omega), hk, List.singleton_append, j_two, j_br, eb] at HNX
              go_wp2
              exact ⟨⟨i + 1, by omega, by simp, by rw [HNX.out]; simp only [ByteArray.append_assoc], trivial⟩, by simp [intOf] <;> omega⟩
            · have q3 : ((i : Int) == (fr : Int)) = false := by simp; omega
              have hk : kAt fr i = .nop := if_neg hff
              rw [if_pos rfl, if_pos (by omega), hk, List.singleton_append, j_two, j_nop] at HNX
              go_wp2
              exact ⟨⟨i + 1, by omega, by simp, by rw [HNX.out]; simp only [ByteArray.append_assoc], trivial⟩, by simp [intOf] <;> omega⟩
        · have q1 : ((i : Int) == (to_ : Int)) = false := by simp; omega
          by_cases hnn : i = n
          · subst hnn
            rw [if_neg ht, if_neg (Nat.lt_irrefl _), List.append_nil] at HNX
            go_wp2
            exact ⟨⟨i + 1, by omega, by simp, by rw [HNX.out]; exact congrArg Value.string (nil_ba T).symm, trivial⟩, by simp [intOf] <;> omega⟩
          · have q2 : ((i : Int) == (n : Int)) = false := by simp; omega
            by_cases hff : i = fr
            · subst hff
              have hk : kAt i i = .br := if_pos rfl
              have eb : bw ++ nlB = ⟨#[108, 97]⟩ ++ ⟨#[32, 114, 51, 44, 32, 104, 101, 114, 101, 10]⟩ := by
                rw [← HBWF.out]
                show (⟨#[108, 97]⟩ ++ tl1) ++ nlB = _
                rw [ByteArray.append_assoc, show tl1 ++ nlB = ⟨#[32, 114, 51, 44, 32, 104, 101, 114, 101, 10]⟩ by decide +kernel]
              have ec : (⟨#[32, 114, 51, 44, 32, 104, 101, 114, 101, 10]⟩ : ByteArray).size = 10 := rfl
              rw [if_neg ht, if_pos (by omega), hk, List.nil_append, j_br, eb] at HNX
              go_wp2
              exact ⟨⟨i + 1, by omega, by simp, by rw [HNX.out], trivial⟩, by simp [intOf] <;> omega⟩
            · have q3 : ((i : Int) == (fr : Int)) = false := by simp; omega
              have hk : kAt fr i = .nop := if_neg hff
              rw [if_neg ht, if_pos (by omega), hk, List.nil_append, j_nop] at HNX
              go_wp2
              exact ⟨⟨i + 1, by omega, by simp, by rw [HNX.out], trivial⟩, by simp [intOf] <;> omega⟩
    · --
      have hie : i = n + 1 := by omega
      have hjl := HJS.out (ksAt fr to_ n (n + 1))
      have hkl := ks_len fr to_ n (n + 1)
      have HA := hide (lab_any HBR.out t1 n2 f1 W0 (HT.out W0 HBW.out) (HV.out W0 HBW.out) (by rw [HBWF.out]; omega))
      rw [HBWF.out, ← hie] at HA
      obtain ⟨T, hT⟩ : ∃ z, joinK bw (ksAt fr to_ n i) = z := ⟨_, rfl⟩
      rw [hT] at HA ⊢
      have g0 : ¬ (i : Int) ≤ (n : Int) := by omega
      clear hT hjl hkl HJS HBK HBWF
      go_wp2_with fail
      refine Calls.mono HA.out ?_
      rintro e w5 ⟨u, L, k, rfl, k1, hL, hLf, hk, hok, hd, b5⟩
      obtain ⟨ua, uc, rfl⟩ := own_len k1 (n := n) hL
      obtain ⟨gu, rfl⟩ := lown_some k1 (i := fr) f1
      obtain ⟨b, o, ea, hc⟩ := (own_rcs k1).at wdC1 (by decide) hLf
      simp only [Option.some.injEq, Addr.mk.injEq, and_true] at ea
      obtain ⟨rfl, rfl⟩ := ea
      have y0 := hc 0 _ rfl
      simp only [Nat.mul_one, Nat.add_zero, Nat.zero_add] at y0
      have HB5 := hide (chain HBW.out b5)
      replace HXW := hide (HXW.out.below b5)
      clear c3
      have c3 := HXW.out.cell 3 rfl
      have HD := hide (decode_any k w5 hk (HV.out w5 HB5.out))
      simp only [hok, if_true, hd] at HD
      unfold Ins.cells at HD
      dsimp only at HD
      clear hc k1 b5 HA hLf hok hd HBW
      go_wp2_with fail
      refine Calls.mono HD.out ?_
      rintro e w6 ⟨⟨v, rfl, rfl⟩, b6⟩
      obtain ⟨W, hW, B0, D0⟩ := box1 w6 [.int .i64 op, .int .i64 3, .int .i64 rb, .int .i64 0, .int .i64 (immL op fr to_)] 27
      obtain ⟨q6, hq6⟩ : ∃ q, w6.heap.size = q := ⟨_, rfl⟩
      rw [hq6] at B0
      have HHW := hide hW
      have HHQ := hide hq6
      have HBX := hide B0
      have HBZ := hide (chain (chain HB5.out b6) D0)
      replace HXW := hide ((HXW.out.below b6).below D0)
      clear c3 y0 HD HB5 b6 hW hq6 B0 D0
      go_upto_region 24 with fail
      simp only [HHW.out, HHQ.out]
      clear HHW HHQ
      have c3 := HXW.out.cell 3 rfl
      have z0 := HBX.out.cell 0 rfl
      have z1 := HBX.out.cell 1 rfl
      have z2 := HBX.out.cell 2 rfl
      have z4 := HBX.out.cell 4 rfl
      have o1 := HBR.out.op1
      have o2 := HBR.out.op2
      have HBY := hide HBZ.out.drew
      obtain ⟨rfl, rfl⟩ := o1 rfl
      have hi4 : immL 16 fr to_ = 4 * (to_ : Int) := if_pos rfl
      rw [hi4] at z4
      have hw4 : IntKind.i64.wrap (4 * (to_ : Int)) = 4 * (to_ : Int) := by rw [IntKind.wrap_i64]; omega
      clear o1 o2
      go_wp2_with fail
      go_ret
      exact ⟨rfl, HBZ.out⟩
  · --
    rw [if_neg (by omega)] at hx1
    subst hx1
    obtain rfl : la = true := by have := HBR.out.isLa; rw [← this]; decide +kernel
    obtain rfl : two = false := by have := HBR.out.isOne; simpa using this
    have g1 : ¬ xop < 48 := by omega
    have g2 : 54 < xop := by omega
    go_upto_region 10 with fail
    obtain ⟨bw, hbw⟩ : ∃ z, bwOf ⟨#[108, 97]⟩ false = z := ⟨_, rfl⟩
    have HBWF := hide hbw
    have HBK := hide HBR.out.br
    rw [hbw] at HBK
    have hbs := bw_size HBR.out
    rw [hbw] at hbs
    have HJS := hide (fun ks => join_size (bw := bw) (by omega) ks)
    have HW4 := hide HBR.out.small
    clear hbw hbs
    go_loopw [7, 8] (fun x y wr => ∃ i : Nat, i ≤ n + 1 ∧ y = .int .i64 (i : Int) ∧ x = .string (joinK bw (ksAt fr to_ n i)) ∧ W0 = wr) (fun _ y _ => n + 2 - (intOf y).toNat)
    case atStart => exact ⟨0, by omega, rfl, by rw [ks_zero]; rfl, rfl⟩
    case round =>
    obtain ⟨i, hi, rfl, rfl, rfl⟩ := hrel
    by_cases hlt : i ≤ n
    · as_aux_lemma =>
        have hst := ks_step (fr := fr) t1 hlt
        have hjz := HJS.out (ksAt fr to_ n i)
        have hkl := ks_len fr to_ n i
        have HNX : Hid (joinK bw (ksAt fr to_ n (i + 1)) = joinK bw (ksAt fr to_ n i) ++ joinK bw ((if i = to_ then [Kd.here] else []) ++ (if i < n then [kAt fr i] else []))) := by unfold Hid; rw [hst, joinK_append]
        obtain ⟨T, hT⟩ : ∃ z, joinK bw (ksAt fr to_ n i) = z := ⟨_, rfl⟩
        rw [hT] at hjz HNX ⊢
        have hTs : (T.size : Int) ≤ 20000 := by omega
        have g0 : (i : Int) ≤ (n : Int) := by omega
        have e6 : (⟨#[104, 101, 114, 101, 58, 10]⟩ : ByteArray).size = 6 := rfl
        have e4 : (⟨#[110, 111, 112, 10]⟩ : ByteArray).size = 4 := rfl
        clear hst hjz hkl hT
        by_cases ht : i = to_
        · subst ht
          by_cases hnn : i = n
          · subst hnn
            rw [if_pos rfl, if_neg (Nat.lt_irrefl _), List.append_nil, j_here] at HNX
            go_wp2
            exact ⟨⟨i + 1, by omega, by simp, by rw [HNX.out], trivial⟩, by simp [intOf] <;> omega⟩
          · have q2 : ((i : Int) == (n : Int)) = false := by simp; omega
            by_cases hff : i = fr
            · subst hff
              have hk : kAt i i = .br := if_pos rfl
              have eb : bw ++ nlB = ⟨#[108, 97]⟩ ++ ⟨#[32, 114, 51, 44, 32, 104, 101, 114, 101, 10]⟩ := by
                rw [← HBWF.out]
                show (⟨#[108, 97]⟩ ++ tl1) ++ nlB = _
                rw [ByteArray.append_assoc, show tl1 ++ nlB = ⟨#[32, 114, 51, 44, 32, 104, 101, 114, 101, 10]⟩ by decide +kernel]
              have ec : (⟨#[32, 114, 51, 44, 32, 104, 101, 114, 101, 10]⟩ : ByteArray).size = 10 := rfl
              rw [if_pos rfl, if_pos (by omega), hk, List.singleton_append, j_two, j_br, eb] at HNX
              go_wp2
              exact ⟨⟨i + 1, by omega, by simp, by rw [HNX.out]; simp only [ByteArray.append_assoc], trivial⟩, by simp [intOf] <;> omega⟩
            · have q3 : ((i : Int) == (fr : Int)) = false := by simp; omega
              have hk : kAt fr i = .nop := if_neg hff
              rw [if_pos rfl, if_pos (by omega), hk, List.singleton_append, j_two, j_nop] at HNX
              go_wp2
              exact ⟨⟨i + 1, by omega, by simp, by rw [HNX.out]; simp only [ByteArray.append_assoc], trivial⟩, by simp [intOf] <;> omega⟩
        · have q1 : ((i : Int) == (to_ : Int)) = false := by simp; omega
          by_cases hnn : i = n
          · subst hnn
            rw [if_neg ht, if_neg (Nat.lt_irrefl _), List.append_nil] at HNX
            go_wp2
            exact ⟨⟨i + 1, by omega, by simp, by rw [HNX.out]; exact congrArg Value.string (nil_ba T).symm, trivial⟩, by simp [intOf] <;> omega⟩
          · have q2 : ((i : Int) == (n : Int)) = false := by simp; omega
            by_cases hff : i = fr
            · subst hff
              have hk : kAt i i = .br := if_pos rfl
              have eb : bw ++ nlB = ⟨#[108, 97]⟩ ++ ⟨#[32, 114, 51, 44, 32, 104, 101, 114, 101, 10]⟩ := by
                rw [← HBWF.out]
                show (⟨#[108, 97]⟩ ++ tl1) ++ nlB = _
                rw [ByteArray.append_assoc, show tl1 ++ nlB = ⟨#[32, 114, 51, 44, 32, 104, 101, 114, 101, 10]⟩ by decide +kernel]
              have ec : (⟨#[32, 114, 51, 44, 32, 104, 101, 114, 101, 10]⟩ : ByteArray).size = 10 := rfl
              rw [if_neg ht, if_pos (by omega), hk, List.nil_append, j_br, eb] at HNX
              go_wp2
              exact ⟨⟨i + 1, by omega, by simp, by rw [HNX.out], trivial⟩, by simp [intOf] <;> omega⟩
            · have q3 : ((i : Int) == (fr : Int)) = false := by simp; omega
              have hk : kAt fr i = .nop := if_neg hff
              rw [if_neg ht, if_pos (by omega), hk, List.nil_append, j_nop] at HNX
              go_wp2
              exact ⟨⟨i + 1, by omega, by simp, by rw [HNX.out], trivial⟩, by simp [intOf] <;> omega⟩
    · --
      have hie : i = n + 1 := by omega
      have hjl := HJS.out (ksAt fr to_ n (n + 1))
      have hkl := ks_len fr to_ n (n + 1)
      have HA := hide (lab_any HBR.out t1 n2 f1 W0 (HT.out W0 HBW.out) (HV.out W0 HBW.out) (by rw [HBWF.out]; omega))
      rw [HBWF.out, ← hie] at HA
      obtain ⟨T, hT⟩ : ∃ z, joinK bw (ksAt fr to_ n i) = z := ⟨_, rfl⟩
      rw [hT] at HA ⊢
      have g0 : ¬ (i : Int) ≤ (n : Int) := by omega
      clear hT hjl hkl HJS HBK HBWF
      go_wp2_with fail
      refine Calls.mono HA.out ?_
      rintro e w5 ⟨u, L, k, rfl, k1, hL, hLf, hk, hok, hd, b5⟩
      obtain ⟨ua, uc, rfl⟩ := own_len k1 (n := n) hL
      obtain ⟨gu, rfl⟩ := lown_some k1 (i := fr) f1
      obtain ⟨b, o, ea, hc⟩ := (own_rcs k1).at wdC1 (by decide) hLf
      simp only [Option.some.injEq, Addr.mk.injEq, and_true] at ea
      obtain ⟨rfl, rfl⟩ := ea
      have y0 := hc 0 _ rfl
      simp only [Nat.mul_one, Nat.add_zero, Nat.zero_add] at y0
      have HB5 := hide (chain HBW.out b5)
      replace HXW := hide (HXW.out.below b5)
      clear c3
      have c3 := HXW.out.cell 3 rfl
      have HD := hide (decode_any k w5 hk (HV.out w5 HB5.out))
      simp only [hok, if_true, hd] at HD
      unfold Ins.cells at HD
      dsimp only at HD
      clear hc k1 b5 HA hLf hok hd HBW
      go_wp2_with fail
      refine Calls.mono HD.out ?_
      rintro e w6 ⟨⟨v, rfl, rfl⟩, b6⟩
      obtain ⟨W, hW, B0, D0⟩ := box1 w6 [.int .i64 op, .int .i64 3, .int .i64 rb, .int .i64 0, .int .i64 (immL op fr to_)] 27
      obtain ⟨q6, hq6⟩ : ∃ q, w6.heap.size = q := ⟨_, rfl⟩
      rw [hq6] at B0
      have HHW := hide hW
      have HHQ := hide hq6
      have HBX := hide B0
      have HBZ := hide (chain (chain HB5.out b6) D0)
      replace HXW := hide ((HXW.out.below b6).below D0)
      clear c3 y0 HD HB5 b6 hW hq6 B0 D0
      go_upto_region 24 with fail
      simp only [HHW.out, HHQ.out]
      clear HHW HHQ
      have c3 := HXW.out.cell 3 rfl
      have z0 := HBX.out.cell 0 rfl
      have z1 := HBX.out.cell 1 rfl
      have z2 := HBX.out.cell 2 rfl
      have z4 := HBX.out.cell 4 rfl
      have o1 := HBR.out.op1
      have o2 := HBR.out.op2
      have HBY := hide HBZ.out.drew
      obtain ⟨rfl, rfl⟩ := o1 rfl
      have hi4 : immL 16 fr to_ = 4 * (to_ : Int) := if_pos rfl
      rw [hi4] at z4
      have hw4 : IntKind.i64.wrap (4 * (to_ : Int)) = 4 * (to_ : Int) := by rw [IntKind.wrap_i64]; omega
      clear o1 o2
      go_wp2_with fail
      go_ret
      exact ⟨rfl, HBZ.out⟩
end Go.Proofs.YthcmeboepedelaaDoor.isaLabels
