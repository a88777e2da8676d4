/-
  Walk of the law ChunkBack.
-/
import Derived.Test.YtdbciciljeainaaDoorCkKnown
import Derived.Test.YtdbciciljeainaaDoorTurnBack
import Derived.Test.YtdbciciljeainaaDoorXrChk
namespace Go.Proofs.YtdbciciljeainaaDoor
open Go.RowKit FerryCrc
set_option linter.unusedVariables false
set_option linter.unusedSimpArgs false

theorem or1_lt {x : Nat} (h : x < 4294967296) : x ||| 1 < 4294967296 := by
  have e : (4294967296 : Nat) = 2 ^ 32 := by decide
  rw [e] at h ⊢
  exact Nat.or_lt_two_pow h (by decide)
theorem u32_or1 {x : Nat} (h : x < 4294967296) : bits .or .u32 (x : Int) 1 = ((x ||| 1 : Nat) : Int) := u32_or_nat x 1 h (by omega)
theorem len32_le {x : Nat} (h : x < 4294967296) : lenOf x ≤ 32 := by
  have e : (4294967296 : Nat) = 2 ^ 32 := by decide
  rw [e] at h
  exact lenOf_le h
theorem fit_lem {p q z mk : Nat} (h1 : lenOf mk ≤ 32) (h2 : p < q) (h3 : q = 8 * z - 31 ∧ 185 ≤ q) : p + lenOf mk ≤ 8 * z := by omega
/-- A beginning of a note's bytes is none. -/
theorem front_none {n : Nt} (h : chk n = 0) (h0 : 0 ≤ n.sum) (h1 : n.sum < 4294967296) {j : Nat} (hj : j < (sealOf (body n)).length) : ¬ getE ((sealOf (body n)).take j) = 0 := by
  intro e
  obtain ⟨g1, g2, g3, g4⟩ := getE_ok e
  obtain ⟨f1, f2⟩ := get_put h h0 h1
  obtain ⟨f3, f4, f5, f6⟩ := getE_ok f1
  rw [List.length_take] at g1 g3
  rw [cut_take _ _ _ _ (by omega), f5] at g3
  omega
theorem cut_front (L M : List Nat) (p n : Nat) (h : p + n ≤ L.length) : cut (L ++ M) p n = cut L p n := by
  unfold cut
  rw [List.drop_append_of_le_length (by omega), List.take_append_of_le_length (by rw [List.length_drop]; omega)]
/-- A note's bytes and one more are none. -/
theorem more_none {n : Nt} (h : chk n = 0) (h0 : 0 ≤ n.sum) (h1 : n.sum < 4294967296) (c : Nat) : ¬ getE (sealOf (body n) ++ [c]) = 0 := by
  intro e
  obtain ⟨g1, g2, g3, g4⟩ := getE_ok e
  obtain ⟨f1, f2⟩ := get_put h h0 h1
  obtain ⟨f3, f4, f5, f6⟩ := getE_ok f1
  rw [cut_front _ _ _ _ (by omega), f5] at g3
  rw [List.length_append] at g3
  simp at g3
/-- Bytes whose sum is wrong are none. -/
theorem wrong_none {l : List Nat} (h : ¬ Good l) : ¬ getE l = 0 := fun e => h (getE_ok e).2.1
theorem getN_bad {l : List Nat} (h : ¬ getE l = 0) : getN l = gNt := if_neg h
theorem getN_sum {l : List Nat} (hs : ∀ c ∈ l, c < 256) : 0 ≤ (getN l).sum ∧ (getN l).sum < 4294967296 := by
  unfold getN
  split
  · have : nbe (cut (l.take (l.length - 4)) 19 4) < 256 ^ 4 := cut_lt (fun c hc => hs c (List.mem_of_mem_take hc)) 19 4
    show (0 : Int) ≤ ((nbe (cut (l.take (l.length - 4)) 19 4) : Nat) : Int) ∧ ((nbe (cut (l.take (l.length - 4)) 19 4) : Nat) : Int) < 4294967296
    omega
  · exact ⟨by decide, by decide⟩
theorem getN_form {l : List Nat} (hs : ∀ c ∈ l, c < 256) (hl : l.length ≤ 140737488351232) : -9223372036854775808 ≤ (getN l).total ∧ (getN l).total ≤ 9223372036854775807 ∧ (getN l).data.size ≤ 9223372036854775807 := by
  unfold getN
  split
  · have h1 : nbe (cut (l.take (l.length - 4)) 18 1) < 256 ^ 1 := cut_lt (fun c hc => hs c (List.mem_of_mem_take hc)) 18 1
    have h2 : (rdN (l.take (l.length - 4))).data.size ≤ l.length := by
      show (str (cut (l.take (l.length - 4)) 23 ((l.take (l.length - 4)).length - 23))).size ≤ _
      rw [str_len]
      unfold cut
      rw [List.length_take, List.length_drop, List.length_take]
      omega
    have h3 : (rdN (l.take (l.length - 4))).total = ((nbe (cut (l.take (l.length - 4)) 18 1) : Nat) : Int) := rfl
    exact ⟨by omega, by omega, by omega⟩
  · exact ⟨by decide, by decide, by decide⟩
theorem nt_neq (x0 x1 x2 x3 x4 x5 x6 x7 x8 : Int) (x9 : ByteArray) (w : World) : (binOp .neq 26 (.agg #[.int .i64 x0, .int .i64 x1, .int .i64 x2, .int .i64 x3, .int .i64 x4, .int .i64 x5, .int .i64 x6, .int .i64 x7, .int .u32 x8, .string x9]) (.agg #[.int .i64 x0, .int .i64 x1, .int .i64 x2, .int .i64 x3, .int .i64 x4, .int .i64 x5, .int .i64 x6, .int .i64 x7, .int .u32 x8, .string x9])).run Tryd.prog w = .ok (.bool false) w := by
  go_simp

set_option maxRecDepth 100000 in
set_option maxHeartbeats 4000000 in
theorem law (n : Nt) (s : ByteArray) (at' : Int) (w : World) {E : Nat → Addr} (he : Er10 w E) (ok : n.Ok ∧ 0 ≤ n.sum ∧ n.sum < 4294967296) (hs : s.size ≤ 140737488351232) (h1 : -9223372036854775808 ≤ at') (h2 : at' ≤ 9223372036854775807) :
    Calls Tryd.prog 5 #[.agg n.cells.toArray, .string s, .int .i64 at'] w fun e w' => e = .returned (.bool true) ∧ Below w.heap.size w w' := by
  obtain ⟨ok, s0, s1⟩ := ok
  have HOK := hide (And.intro ok (And.intro s0 s1))
  obtain ⟨k, pt, b, r, m, st, ix, tt, sm, d⟩ := n
  clear s0 s1
  obtain ⟨W, hW, B0, D0⟩ := box1 w [.int .i64 k, .int .i64 pt, .int .i64 b, .int .i64 r, .int .i64 m, .int .i64 st, .int .i64 ix, .int .i64 tt, .int .u32 sm, .string d] 26
  obtain ⟨g, hg⟩ : ∃ g, w.heap.size = g := ⟨_, rfl⟩
  have HGE : Hid (w.heap.size ≤ g) := by unfold Hid; omega
  rw [hg] at B0
  have HB := hide B0
  have HD := hide D0
  have HE := hide (he.below D0)
  have HE0 := hide he
  have HWD := hide hW
  have HGG := hide hg
  have HH := hide (And.intro h1 h2)
  have HSZ := hide hs
  have hneq := nt_neq
  have hgt : Tryd.prog.eqGuardType Tryd.prog.depth 26 = false := by kernel_rfl
  clear B0 D0 hW he hg h1 h2 hs ok
  show Calls Tryd.prog 5 #[.agg #[.int .i64 k, .int .i64 pt, .int .i64 b, .int .i64 r, .int .i64 m, .int .i64 st, .int .i64 ix, .int .i64 tt, .int .u32 sm, .string d], .string s, .int .i64 at'] w _
  go_enter Tryd.func5, Tryd.ntmps5
  go_upto_region 1 with fail
  have hW := HWD.out
  have hg := HGG.out
  clear HWD HGG
  simp only [hW, hg]
  clear hW hg
  go_wp2_with fail
  refine Calls.mono (known_any HE.out) ?_
  rintro e w1 ⟨rfl, b1⟩
  replace HB := hide (HB.out.below b1)
  replace HD := hide (chain HD.out b1)
  replace HE := hide (HE.out.below b1)
  clear b1
  obtain ⟨XE, hXE⟩ : ∃ x, getE (bytesOf s) = x := ⟨_, rfl⟩
  obtain ⟨M, hM⟩ : ∃ x, getN (bytesOf s) = x := ⟨_, rfl⟩
  have HGT := hide (get_any s HE.out HSZ.out)
  rw [hXE, hM] at HGT
  have HSU := hide (getN_sum (bytesOf_lt s))
  have HFO := hide (getN_form (bytesOf_lt s) (by rw [bytesOf_len]; exact HSZ.out))
  rw [hM] at HSU HFO
  have HPG : Hid (XE = 0 → chk M = 0 ∧ putS M = s) := fun h => by
    obtain ⟨p1, p2⟩ := put_get (bytesOf_lt s) (hXE.trans h)
    rw [hM] at p1 p2
    refine ⟨p1, ?_⟩
    unfold putS
    rw [if_pos p1, p2, str_bytesOf]
  have HZB : Hid (¬ XE = 0 → M = gNt) := fun h => by rw [← hM]; exact getN_bad (by rw [hXE]; exact h)
  clear hXE hM
  obtain ⟨m0, m1, m2, m3, m4, m5, m6, m7, m8, m9⟩ := M
  replace HGT : Hid (Calls Tryd.prog 13 #[.string s] w1 fun e w' => e = .returned (.tuple #[.agg #[.int .i64 m0, .int .i64 m1, .int .i64 m2, .int .i64 m3, .int .i64 m4, .int .i64 m5, .int .i64 m6, .int .i64 m7, .int .u32 m8, .string m9], erv E XE]) ∧ Below w1.heap.size w1 w') := HGT
  go_wp2_with fail
  refine Calls.mono HGT.out ?_
  rintro e w2 ⟨rfl, b1⟩
  replace HB := hide (HB.out.below b1)
  replace HD := hide (chain HD.out b1)
  replace HE := hide (HE.out.below b1)
  clear b1 HGT
  obtain ⟨W3, hW3, B3, D3⟩ := box1 w2 [.int .i64 m0, .int .i64 m1, .int .i64 m2, .int .i64 m3, .int .i64 m4, .int .i64 m5, .int .i64 m6, .int .i64 m7, .int .u32 m8, .string m9] 26
  obtain ⟨h, hh⟩ : ∃ h, w2.heap.size = h := ⟨_, rfl⟩
  rw [hh] at B3
  have HNE : Hid (g < h) := by have := HB.out.lt; unfold Hid; omega
  have HB3 := hide B3
  have HW3 := hide hW3
  have HHH := hide hh
  replace HB := hide (HB.out.below D3)
  replace HD := hide (chain HD.out D3)
  replace HE := hide (HE.out.below D3)
  clear B3 D3 hW3 hh
  go_upto_region 4 with fail
  have hW3 := HW3.out
  have hh := HHH.out
  clear HW3 HHH
  simp only [hW3, hh]
  clear hW3 hh
  obtain ⟨y, hy⟩ : ∃ y : Bool, y = decide (XE = 0) := ⟨_, rfl⟩
  have HY := hide hy
  clear hy
  go_cut [8, 24] from 18 to 24 (fun v8 v wz => v8 = erv E XE ∧ v = .bool y ∧ wz = W3)
  case first =>
    by_cases hX : XE = 0
    · obtain rfl : y = true := by rw [HY.out]; exact decide_eq_true hX
      subst hX
      rw [show erv E 0 = .nilIface from rfl]
      go_wp2
      go_meet
      case rel => exact ⟨rfl, rfl, rfl⟩
    · obtain rfl : y = false := by rw [HY.out]; exact decide_eq_false hX
      rw [show erv E XE = sent (E XE) from if_neg hX]
      unfold sent
      go_wp2
      go_meet
      case rel => exact ⟨(show erv E XE = sent (E XE) from if_neg hX).symm, rfl, rfl⟩
  case rest =>
  obtain ⟨rfl, rfl, hwc⟩ := hcut
  subst hwc
  go_upto_if 24 with fail
  go_cut [9, 10] from 25 to 45 (fun v9 v10 wz => Hid (Bk wz g [.int .i64 k, .int .i64 pt, .int .i64 b, .int .i64 r, .int .i64 m, .int .i64 st, .int .i64 ix, .int .i64 tt, .int .u32 sm, .string d] 26) ∧ Hid (Bk wz h [.int .i64 m0, .int .i64 m1, .int .i64 m2, .int .i64 m3, .int .i64 m4, .int .i64 m5, .int .i64 m6, .int .i64 m7, .int .u32 m8, .string m9] 26) ∧ Hid (Below w.heap.size w wz))
  case first =>
    have c0 := HB3.out.cell 0 rfl
    have c1 := HB3.out.cell 1 rfl
    have c2 := HB3.out.cell 2 rfl
    have c3 := HB3.out.cell 3 rfl
    have c4 := HB3.out.cell 4 rfl
    have c5 := HB3.out.cell 5 rfl
    have c6 := HB3.out.cell 6 rfl
    have c7 := HB3.out.cell 7 rfl
    have c8 := HB3.out.cell 8 rfl
    have c9 := HB3.out.cell 9 rfl
    by_cases hX : XE = 0
    · obtain rfl : y = true := by rw [HY.out]; exact decide_eq_true hX
      subst hX
      obtain ⟨p1, p2⟩ := HPG.out rfl
      have HPU := hide (put_any m0 m1 m2 m3 m4 m5 m6 m7 m8 m9 HE.out.e7 HFO.out.2.2 HFO.out.1 HFO.out.2.1 HSU.out.1 HSU.out.2)
      rw [p1, p2] at HPU
      have HRC := hide (fun wx => rcheck_any m0 m1 m2 m3 m4 m5 m6 m7 m8 m9 wx HFO.out.2.2 HFO.out.1 HFO.out.2.1)
      rw [p1] at HRC
      clear p1 p2
      go_wp2_with fail
      refine Calls.mono HPU.out ?_
      rintro e w4 ⟨rfl, b1⟩
      rw [show erv E 0 = .nilIface from rfl]
      replace HB := hide (HB.out.below b1)
      replace HB3 := hide (HB3.out.below b1)
      replace HD := hide (chain HD.out b1)
      clear b1 HPU c0 c1 c2 c3 c4 c5 c6 c7 c8 c9
      have c0 := HB3.out.cell 0 rfl
      have c1 := HB3.out.cell 1 rfl
      have c2 := HB3.out.cell 2 rfl
      have c3 := HB3.out.cell 3 rfl
      have c4 := HB3.out.cell 4 rfl
      have c5 := HB3.out.cell 5 rfl
      have c6 := HB3.out.cell 6 rfl
      have c7 := HB3.out.cell 7 rfl
      have c8 := HB3.out.cell 8 rfl
      have c9 := HB3.out.cell 9 rfl
      go_wp2_with fail
      refine Calls.mono (HRC.out _) ?_
      rintro e w5 ⟨rfl, b1⟩
      replace HB := hide (HB.out.below b1)
      replace HB3 := hide (HB3.out.below b1)
      replace HD := hide (chain HD.out b1)
      clear b1 HRC c0 c1 c2 c3 c4 c5 c6 c7 c8 c9
      go_wp2
      go_meet
      case rel => exact ⟨HB.out, HB3.out, HD.out⟩
    · obtain rfl : y = false := by rw [HY.out]; exact decide_eq_false hX
      have hz := HZB.out hX
      unfold gNt at hz
      simp only [Nt.mk.injEq] at hz
      obtain ⟨rfl, rfl, rfl, rfl, rfl, rfl, rfl, rfl, rfl, rfl⟩ := hz
      go_wp2
      go_meet
      case rel => exact ⟨HB.out, HB3.out, HD.out⟩
  case rest =>
    obtain ⟨K1, K2, K3⟩ := hcut
    clear HB HB3 HD HE HPG HZB HSU HFO HY HSZ
    obtain ⟨wz, hwz⟩ : ∃ z, z = wc := ⟨_, rfl⟩
    subst hwz
    have HE := hide (HE0.out.below K3.out)
    have HPU := hide (put_any k pt b r m st ix tt sm d HE.out.e7 HOK.out.1.d1 HOK.out.1.t1 HOK.out.1.t2 HOK.out.2.1 HOK.out.2.2)
    have HRC := hide (fun wx => rcheck_any k pt b r m st ix tt sm d wx HOK.out.1.d1 HOK.out.1.t1 HOK.out.1.t2)
    obtain ⟨R0, hR0⟩ : ∃ x, chk ⟨k, pt, b, r, m, st, ix, tt, sm, d⟩ = x := ⟨_, rfl⟩
    obtain ⟨V, hV⟩ : ∃ x, putS ⟨k, pt, b, r, m, st, ix, tt, sm, d⟩ = x := ⟨_, rfl⟩
    rw [hR0] at HPU HRC
    rw [hV] at HPU
    have HRV := hide (And.intro hR0 hV)
    have HVZ : Hid (¬ R0 = 0 → V = ⟨#[]⟩) := fun h => by rw [← hV]; exact if_neg (by rw [hR0]; exact h)
    clear hR0 hV
    have c0 := K1.out.cell 0 rfl
    have c1 := K1.out.cell 1 rfl
    have c2 := K1.out.cell 2 rfl
    have c3 := K1.out.cell 3 rfl
    have c4 := K1.out.cell 4 rfl
    have c5 := K1.out.cell 5 rfl
    have c6 := K1.out.cell 6 rfl
    have c7 := K1.out.cell 7 rfl
    have c8 := K1.out.cell 8 rfl
    have c9 := K1.out.cell 9 rfl
    go_wp2_with fail
    refine Calls.mono HPU.out ?_
    rintro e w6 ⟨rfl, b1⟩
    replace K1 := hide (K1.out.below b1)
    replace K2 := hide (K2.out.below b1)
    replace K3 := hide (chain K3.out b1)
    clear b1 HPU c0 c1 c2 c3 c4 c5 c6 c7 c8 c9
    go_upto_region 11 with fail
    obtain ⟨y2, hy2⟩ : ∃ y : Bool, y = !decide (R0 = 0) := ⟨_, rfl⟩
    have HY2 := hide hy2
    clear hy2
    go_cut [52] from 50 to 52 (fun v wz => v = .bool y2 ∧ Hid (Bk wz g [.int .i64 k, .int .i64 pt, .int .i64 b, .int .i64 r, .int .i64 m, .int .i64 st, .int .i64 ix, .int .i64 tt, .int .u32 sm, .string d] 26) ∧ Hid (Bk wz h [.int .i64 m0, .int .i64 m1, .int .i64 m2, .int .i64 m3, .int .i64 m4, .int .i64 m5, .int .i64 m6, .int .i64 m7, .int .u32 m8, .string m9] 26) ∧ Hid (Below w.heap.size w wz))
    case first =>
      have c0 := K1.out.cell 0 rfl
      have c1 := K1.out.cell 1 rfl
      have c2 := K1.out.cell 2 rfl
      have c3 := K1.out.cell 3 rfl
      have c4 := K1.out.cell 4 rfl
      have c5 := K1.out.cell 5 rfl
      have c6 := K1.out.cell 6 rfl
      have c7 := K1.out.cell 7 rfl
      have c8 := K1.out.cell 8 rfl
      have c9 := K1.out.cell 9 rfl
      go_wp2_with fail
      refine Calls.mono (HRC.out _) ?_
      rintro e w7 ⟨rfl, b1⟩
      replace K1 := hide (K1.out.below b1)
      replace K2 := hide (K2.out.below b1)
      replace K3 := hide (chain K3.out b1)
      clear b1 c0 c1 c2 c3 c4 c5 c6 c7 c8 c9
      by_cases hX : R0 = 0
      · obtain rfl : y2 = false := by rw [HY2.out, decide_eq_true hX]; rfl
        subst hX
        go_wp2
        go_meet
        case rel => exact ⟨rfl, K1.out, K2.out, K3.out⟩
      · obtain rfl : y2 = true := by rw [HY2.out, decide_eq_false hX]; rfl
        have d1 : ((R0 : Int) != 0) = true := by simp; omega
        have d2 : (R0 != 0) = true := by simp; omega
        go_wp2
        go_meet
        case rel => exact ⟨rfl, K1.out, K2.out, K3.out⟩
    case rest =>
    clear K1 K2 K3 HRC
    obtain ⟨rfl, K1, K2, K3⟩ := hcut
    obtain ⟨wy, hwy⟩ : ∃ z, z = wc := ⟨_, rfl⟩
    subst hwy
    replace HE := hide (HE0.out.below K3.out)
    go_upto_if 52 with fail
    go_cut [8, 11] from 45 to 65 (fun v8 v11 wz => ∃ q : Nt, v8 = .nilIface ∧ v11 = .string (putS q) ∧ Hid (chk q = 0 ∧ 0 ≤ q.sum ∧ q.sum < 4294967296) ∧ Hid (Bk wz g q.cells 26) ∧ Hid (Bk wz h [.int .i64 m0, .int .i64 m1, .int .i64 m2, .int .i64 m3, .int .i64 m4, .int .i64 m5, .int .i64 m6, .int .i64 m7, .int .u32 m8, .string m9] 26) ∧ Hid (Below w.heap.size w wz))
    case first =>
      by_cases hX : R0 = 0
      · obtain rfl : y2 = false := by rw [HY2.out, decide_eq_true hX]; rfl
        subst hX
        rw [show erv E 0 = .nilIface from rfl]
        go_wp2
        go_meet
        case rel => exact ⟨⟨k, pt, b, r, m, st, ix, tt, sm, d⟩, rfl, by rw [HRV.out.2], ⟨HRV.out.1, HOK.out.2.1, HOK.out.2.2⟩, K1.out, K2.out, K3.out⟩
      · obtain rfl : y2 = true := by rw [HY2.out, decide_eq_false hX]; rfl
        obtain rfl := HVZ.out hX
        rw [show erv E R0 = sent (E R0) from if_neg hX]
        unfold sent
        clear hX
        go_wp2_with fail
        refine Calls.mono (first_any _) ?_
        rintro e w8 ⟨rfl, b1⟩
        replace K1 := hide (K1.out.below b1)
        replace K2 := hide (K2.out.below b1)
        replace K3 := hide (chain K3.out b1)
        replace HE := hide (HE0.out.below K3.out)
        clear b1
        have HPT : Hid (Calls Tryd.prog 8 #[.agg #[.int .i64 4, .int .i64 2, .int .i64 1, .int .i64 3, .int .i64 2, .int .i64 0, .int .i64 0, .int .i64 0, .int .u32 0, .string ⟨#[]⟩]] w8 fun e w' => e = .returned (.tuple #[.string (putS fNt), erv E (chk fNt)]) ∧ Below w8.heap.size w8 w') := put_any 4 2 1 3 2 0 0 0 0 ⟨#[]⟩ HE.out.e7 (by decide) (by decide) (by decide) (by decide) (by decide)
        rw [fNt_chk] at HPT
        obtain ⟨V2, hV2⟩ : ∃ x, putS fNt = x := ⟨_, rfl⟩
        rw [hV2] at HPT
        have HV2 := hide hV2
        clear hV2
        go_wp2_with fail
        refine Calls.mono HPT.out ?_
        rintro e w9 ⟨rfl, b1⟩
        rw [show erv E 0 = .nilIface from rfl]
        replace K1 := hide (K1.out.below b1)
        replace K2 := hide (K2.out.below b1)
        replace K3 := hide (chain K3.out b1)
        clear b1 HPT
        go_wp2_with fail
        refine Calls.mono (first_any _) ?_
        rintro e w10 ⟨rfl, b1⟩
        replace K1 := hide (K1.out.below b1)
        replace K2 := hide (K2.out.below b1)
        replace K3 := hide (chain K3.out b1)
        clear b1
        have g0 := K1.out.cell 0 rfl
        have g1 := K1.out.cell 1 rfl
        have g2 := K1.out.cell 2 rfl
        have g3 := K1.out.cell 3 rfl
        have g4 := K1.out.cell 4 rfl
        have g5 := K1.out.cell 5 rfl
        have g6 := K1.out.cell 6 rfl
        have g7 := K1.out.cell 7 rfl
        have g8 := K1.out.cell 8 rfl
        have g9 := K1.out.cell 9 rfl
        have f0 := K1.out.frozen 0
        have f1 := K1.out.frozen 1
        have f2 := K1.out.frozen 2
        have f3 := K1.out.frozen 3
        have f4 := K1.out.frozen 4
        have f5 := K1.out.frozen 5
        have f6 := K1.out.frozen 6
        have f7 := K1.out.frozen 7
        have f8 := K1.out.frozen 8
        have f9 := K1.out.frozen 9
        have Q1 := hide (K1.out.sets [.int .i64 4, .int .i64 2, .int .i64 1, .int .i64 3, .int .i64 2, .int .i64 0, .int .i64 0, .int .i64 0, .int .u32 0, .string ⟨#[]⟩] rfl)
        have Q2 := hide (Bk.others (show h ≠ g by have := HNE.out; omega) [.int .i64 4, .int .i64 2, .int .i64 1, .int .i64 3, .int .i64 2, .int .i64 0, .int .i64 0, .int .i64 0, .int .u32 0, .string ⟨#[]⟩] 0 K2.out)
        have Q3 := hide (below_sets HGE.out [.int .i64 4, .int .i64 2, .int .i64 1, .int .i64 3, .int .i64 2, .int .i64 0, .int .i64 0, .int .i64 0, .int .u32 0, .string ⟨#[]⟩] 0 K3.out)
        clear K1 K2 K3
        go_wp2
        obtain ⟨W9, hW9⟩ : ∃ W9, ((((((((((w10.setCell ⟨g, 0, none⟩ (.int .i64 4)).setCell ⟨g, 1, none⟩ (.int .i64 2)).setCell ⟨g, 2, none⟩ (.int .i64 1)).setCell ⟨g, 3, none⟩ (.int .i64 3)).setCell ⟨g, 4, none⟩ (.int .i64 2)).setCell ⟨g, 5, none⟩ (.int .i64 0)).setCell ⟨g, 6, none⟩ (.int .i64 0)).setCell ⟨g, 7, none⟩ (.int .i64 0)).setCell ⟨g, 8, none⟩ (.int .u32 0)).setCell ⟨g, 9, none⟩ (.string ⟨#[]⟩)) = W9 := ⟨_, rfl⟩
        simp only [hW9]
        rw [show World.setCells w10 g 0 [.int .i64 4, .int .i64 2, .int .i64 1, .int .i64 3, .int .i64 2, .int .i64 0, .int .i64 0, .int .i64 0, .int .u32 0, .string ⟨#[]⟩] = W9 from hW9] at Q1 Q2 Q3
        clear hW9
        go_meet
        case rel => exact ⟨fNt, rfl, by rw [HV2.out], ⟨fNt_chk, by decide, by decide⟩, Q1.out, Q2.out, Q3.out⟩
    case rest =>
    clear K1 K2 K3 HRV HVZ HY2 HOK HE
    obtain ⟨q, rfl, rfl, Q0, K1, K2, K3⟩ := hcut
    obtain ⟨wx, hwx⟩ : ∃ z, z = wc := ⟨_, rfl⟩
    subst hwx
    have HE := hide (HE0.out.below K3.out)
    obtain ⟨f1, f2⟩ := get_put Q0.out.1 Q0.out.2.1 Q0.out.2.2
    have fs := sealOf_small (body_small (chk_num Q0.out.1))
    have fb : bytesOf (putS q) = sealOf (body q) := by
      unfold putS
      rw [if_pos Q0.out.1]
      exact bytes_str fs
    have fz : (putS q).size = 27 + q.data.size := by
      rw [← bytesOf_len, fb, sealOf_length, body_len]
      omega
    have fd := (chk_num Q0.out.1).d
    obtain ⟨t, ht⟩ : ∃ t, putS q = t := ⟨_, rfl⟩
    rw [ht] at fb fz ⊢
    obtain ⟨l, hl⟩ : ∃ l, sealOf (body q) = l := ⟨_, rfl⟩
    have HNF : Hid (∀ j, j < l.length → ¬ getE (l.take j) = 0) := fun j hj => by rw [← hl] at hj ⊢; exact front_none Q0.out.1 Q0.out.2.1 Q0.out.2.2 hj
    have HNM : Hid (∀ c, ¬ getE (l ++ [c]) = 0) := fun c => by rw [← hl]; exact more_none Q0.out.1 Q0.out.2.1 Q0.out.2.2 c
    have HGO : Hid (Good l) := by rw [← hl]; exact seal_good (body_small (chk_num Q0.out.1))
    rw [hl] at f1 f2 fs fb
    obtain ⟨z, hz⟩ : ∃ z, t.size = z := ⟨_, rfl⟩
    have HZZ : Hid (27 ≤ z ∧ z ≤ 155) := by unfold Hid; omega
    have HLZ : Hid (l.length = z) := by rw [← fb, bytesOf_len]; exact hz
    have HGT := hide (get_any t HE.out (by omega))
    rw [fb, f1, f2] at HGT
    have HFS := hide fs
    have HFB := hide fb
    have HZ := hide hz
    clear f1 f2 fs fb fz fd ht hl hz Q0
    obtain ⟨r0, r1, r2, r3, r4, r5, r6, r7, r8, r9⟩ := q
    replace HGT : Hid (Calls Tryd.prog 13 #[.string t] wx fun e w' => e = .returned (.tuple #[.agg #[.int .i64 r0, .int .i64 r1, .int .i64 r2, .int .i64 r3, .int .i64 r4, .int .i64 r5, .int .i64 r6, .int .i64 r7, .int .u32 r8, .string r9], .nilIface]) ∧ Below wx.heap.size wx w') := HGT
    replace K1 : Hid (Bk wx g [.int .i64 r0, .int .i64 r1, .int .i64 r2, .int .i64 r3, .int .i64 r4, .int .i64 r5, .int .i64 r6, .int .i64 r7, .int .u32 r8, .string r9] 26) := K1
    go_wp2_with fail
    refine Calls.mono HGT.out ?_
    rintro e w11 ⟨rfl, b1⟩
    replace K1 := hide (K1.out.below b1)
    replace K2 := hide (K2.out.below b1)
    replace K3 := hide (chain K3.out b1)
    clear b1 HGT
    have g0 := K2.out.cell 0 rfl
    have g1 := K2.out.cell 1 rfl
    have g2 := K2.out.cell 2 rfl
    have g3 := K2.out.cell 3 rfl
    have g4 := K2.out.cell 4 rfl
    have g5 := K2.out.cell 5 rfl
    have g6 := K2.out.cell 6 rfl
    have g7 := K2.out.cell 7 rfl
    have g8 := K2.out.cell 8 rfl
    have g9 := K2.out.cell 9 rfl
    have f0 := K2.out.frozen 0
    have f1 := K2.out.frozen 1
    have f2 := K2.out.frozen 2
    have f3 := K2.out.frozen 3
    have f4 := K2.out.frozen 4
    have f5 := K2.out.frozen 5
    have f6 := K2.out.frozen 6
    have f7 := K2.out.frozen 7
    have f8 := K2.out.frozen 8
    have f9 := K2.out.frozen 9
    have Q1 := hide (K2.out.sets [.int .i64 r0, .int .i64 r1, .int .i64 r2, .int .i64 r3, .int .i64 r4, .int .i64 r5, .int .i64 r6, .int .i64 r7, .int .u32 r8, .string r9] rfl)
    have Q2 := hide (Bk.others (show g ≠ h by have := HNE.out; omega) [.int .i64 r0, .int .i64 r1, .int .i64 r2, .int .i64 r3, .int .i64 r4, .int .i64 r5, .int .i64 r6, .int .i64 r7, .int .u32 r8, .string r9] 0 K1.out)
    have Q3 := hide (below_sets (show w.heap.size ≤ h by have := HNE.out; have := HGE.out; omega) [.int .i64 r0, .int .i64 r1, .int .i64 r2, .int .i64 r3, .int .i64 r4, .int .i64 r5, .int .i64 r6, .int .i64 r7, .int .u32 r8, .string r9] 0 K3.out)
    clear K1 K2 K3
    go_upto_region 17 with fail
    obtain ⟨W9, hW9⟩ : ∃ W9, ((((((((((w11.setCell ⟨h, 0, none⟩ (.int .i64 r0)).setCell ⟨h, 1, none⟩ (.int .i64 r1)).setCell ⟨h, 2, none⟩ (.int .i64 r2)).setCell ⟨h, 3, none⟩ (.int .i64 r3)).setCell ⟨h, 4, none⟩ (.int .i64 r4)).setCell ⟨h, 5, none⟩ (.int .i64 r5)).setCell ⟨h, 6, none⟩ (.int .i64 r6)).setCell ⟨h, 7, none⟩ (.int .i64 r7)).setCell ⟨h, 8, none⟩ (.int .u32 r8)).setCell ⟨h, 9, none⟩ (.string r9)) = W9 := ⟨_, rfl⟩
    simp only [hW9]
    rw [show World.setCells w11 h 0 [.int .i64 r0, .int .i64 r1, .int .i64 r2, .int .i64 r3, .int .i64 r4, .int .i64 r5, .int .i64 r6, .int .i64 r7, .int .u32 r8, .string r9] = W9 from hW9] at Q1 Q2 Q3
    clear hW9 g0 g1 g2 g3 g4 g5 g6 g7 g8 g9 f0 f1 f2 f3 f4 f5 f6 f7 f8 f9
    have c0 := Q1.out.cell 0 rfl
    have c1 := Q1.out.cell 1 rfl
    have c2 := Q1.out.cell 2 rfl
    have c3 := Q1.out.cell 3 rfl
    have c4 := Q1.out.cell 4 rfl
    have c5 := Q1.out.cell 5 rfl
    have c6 := Q1.out.cell 6 rfl
    have c7 := Q1.out.cell 7 rfl
    have c8 := Q1.out.cell 8 rfl
    have c9 := Q1.out.cell 9 rfl
    have e0 := Q2.out.cell 0 rfl
    have e1 := Q2.out.cell 1 rfl
    have e2 := Q2.out.cell 2 rfl
    have e3 := Q2.out.cell 3 rfl
    have e4 := Q2.out.cell 4 rfl
    have e5 := Q2.out.cell 5 rfl
    have e6 := Q2.out.cell 6 rfl
    have e7 := Q2.out.cell 7 rfl
    have e8 := Q2.out.cell 8 rfl
    have e9 := Q2.out.cell 9 rfl
    have hz := HZ.out
    have d27 : ¬ (z : Int) < 27 := by have := HZZ.out; omega
    have e27 : ¬ z < 27 := by have := HZZ.out; omega
    go_upto_region 19 with fail
    obtain ⟨cc, w12, hrun, hx, hb1⟩ := conv_lay W9 t z HZ.out (by have := HZZ.out; omega)
    rw [HFB.out] at hx
    have HX := hide hx
    have HD := hide (chain Q3.out hb1)
    clear hx hb1 c0 c1 c2 c3 c4 c5 c6 c7 c8 c9 e0 e1 e2 e3 e4 e5 e6 e7 e8 e9 Q1 Q2 Q3
    obtain ⟨a, ha⟩ : ∃ a : Nat, IntKind.u64.wrap at' = (a : Int) := ⟨(IntKind.u64.wrap at').toNat, by rw [IntKind.wrap_u64]; omega⟩
    have ha2 : a < 18446744073709551616 := by rw [IntKind.wrap_u64] at ha; omega
    obtain ⟨q, hq⟩ : ∃ q, 8 * z - 31 = q := ⟨_, rfl⟩
    have HQ : Hid (q = 8 * z - 31 ∧ 185 ≤ q) := by have := HZZ.out; unfold Hid; omega
    have w8 : IntKind.i64.wrap (8 * (z : Int)) = 8 * (z : Int) := by have := HZZ.out; rw [IntKind.wrap_i64]; omega
    have w9 : IntKind.i64.wrap (8 * (z : Int) - 31) = (q : Int) := by have := HZZ.out; rw [IntKind.wrap_i64]; omega
    have w10 : IntKind.u64.wrap (q : Int) = (q : Int) := by have := HZZ.out; rw [IntKind.wrap_u64]; omega
    have w11 : ¬ (q : Int) = 0 := by have := HQ.out; omega
    have wq0 : ¬ q = 0 := by have := HQ.out; omega
    have HA2 := hide ha2
    clear ha2 hq
    obtain ⟨p, hp⟩ : ∃ p, a % q = p := ⟨_, rfl⟩
    have hp2 : p < q := by rw [← hp]; exact Nat.mod_lt _ (by omega)
    obtain ⟨mk, hmk⟩ : ∃ x, (a / 8 % 4294967296) ||| 1 = x := ⟨_, rfl⟩
    have hwp : wrap64 ((a : Int) % (q : Int)) = (p : Int) := by
      have e : (a : Int) % (q : Int) = (p : Int) := by rw [← hp]; simp
      rw [e]
      have := HZZ.out
      have := HQ.out
      unfold wrap64
      omega
    have hor : bits .or .u32 ((a : Int) / 8 % 4294967296) 1 = (mk : Int) := by
      have e : (a : Int) / 8 % 4294967296 = ((a / 8 % 4294967296 : Nat) : Int) := by simp
      rw [e, ← hmk]
      exact u32_or1 (Nat.mod_lt _ (by omega))
    have hm0 : mk ≠ 0 := by
      rw [← hmk]
      intro h
      have := (Nat.or_eq_zero_iff.1 h).2
      omega
    have hm1 : mk < 4294967296 := by
      rw [← hmk]
      exact or1_lt (Nat.mod_lt _ (by omega))
    have hfit : p + lenOf mk ≤ 8 * z := fit_lem (len32_le hm1) hp2 HQ.out
    obtain ⟨T, hT⟩ : ∃ T, turnTo l p mk 32 = T := ⟨_, rfl⟩
    have HTB : Hid (¬ getE T = 0) := by rw [← hT]; exact wrong_none (turn_told HLZ.out (by have := HZZ.out; omega) HFS.out hm0 hm1 hfit HGO.out)
    have HTS : Hid (∀ c ∈ T, c < 256) := by rw [← hT]; exact turnTo_small p mk 32 HFS.out
    have HTL : Hid (T.length = z) := by rw [← hT, turnTo_length]; exact HLZ.out
    have HTU := hide (turn_any _ z cc l p mk w12 HX.out hm0 hm1 hfit)
    rw [hT] at HTU
    have HWP := hide (And.intro hwp hor)
    clear hp hp2 hmk hwp hor hm0 hm1 hfit hT
    go_wp2_with fail
    rw [HWP.out.1, HWP.out.2]
    refine Calls.mono HTU.out ?_
    rintro e w13 ⟨g5, rfl, o5, b5⟩
    have hst := bts_string (o5.bts HTL.out (by have := HZZ.out; omega) HTS.out)
    replace HD := hide (chain HD.out b5)
    replace HE := hide (HE0.out.below HD.out)
    clear o5 b5 HTU hrun HX HWP w8 w9 w10 w11 wq0
    have HG1 := hide (get_any (str T) HE.out (by rw [str_len, HTL.out]; have := HZZ.out; omega))
    rw [bytes_str HTS.out] at HG1
    obtain ⟨k1, hk1⟩ : ∃ x, getE T = x := ⟨_, rfl⟩
    rw [hk1] at HG1 HTB
    rw [show erv E k1 = sent (E k1) from if_neg HTB.out] at HG1
    unfold sent at HG1
    obtain ⟨n1, hn1⟩ : ∃ x, (getN T).cells.toArray = x := ⟨_, rfl⟩
    rw [hn1] at HG1
    clear hk1 hn1
    go_wp2_with fail
    refine Calls.mono HG1.out ?_
    rintro e w14 ⟨rfl, b5⟩
    replace HD := hide (chain HD.out b5)
    replace HE := hide (HE0.out.below HD.out)
    clear b5 hst HG1
    obtain ⟨j, hj⟩ : ∃ j, a % z = j := ⟨_, rfl⟩
    have hj2 : j < z := by rw [← hj]; exact Nat.mod_lt _ (by have := HZZ.out; omega)
    have u1 : IntKind.u64.wrap (z : Int) = (z : Int) := by have := HZZ.out; rw [IntKind.wrap_u64]; omega
    have u2 : wrap64 ((a : Int) % (z : Int)) = (j : Int) := by
      have e : (a : Int) % (z : Int) = (j : Int) := by rw [← hj]; simp
      rw [e]
      have := HZZ.out
      unfold wrap64
      omega
    have u3 : ¬ (z : Int) = 0 := by have := HZZ.out; omega
    have u4 : ¬ z = 0 := by have := HZZ.out; omega
    have u5 : j ≤ z := by omega
    have u6 : (j : Int) ≤ (z : Int) := by omega
    have hex : bytesOf (t.extract 0 j) = l.take j := by
      rw [← HFB.out]
      unfold bytesOf
      rw [ByteArray.data_extract, ← List.map_take]
      congr 1
      simp
    have hex2 : (t.extract 0 j).size ≤ 140737488351232 := by
      have := HZZ.out
      have := HZ.out
      rw [ByteArray.size_extract]
      omega
    obtain ⟨T2, hT2⟩ : ∃ T2, t.extract 0 j = T2 := ⟨_, rfl⟩
    have HG2 := hide (get_any T2 HE.out (by rw [← hT2]; exact hex2))
    rw [hT2] at hex
    rw [hex] at HG2
    have HK2 := hide (HNF.out j (by rw [HLZ.out]; exact hj2))
    obtain ⟨k2, hk2⟩ : ∃ x, getE (l.take j) = x := ⟨_, rfl⟩
    rw [hk2] at HG2 HK2
    rw [show erv E k2 = sent (E k2) from if_neg HK2.out] at HG2
    unfold sent at HG2
    obtain ⟨n2, hn2⟩ : ∃ x, (getN (l.take j)).cells.toArray = x := ⟨_, rfl⟩
    rw [hn2] at HG2
    have HT2 := hide hT2
    clear hk2 hn2 hex hex2 hj hT2 hj2
    go_wp2_with fail
    rw [HT2.out]
    refine Calls.mono HG2.out ?_
    rintro e w15 ⟨rfl, b5⟩
    replace HD := hide (chain HD.out b5)
    replace HE := hide (HE0.out.below HD.out)
    clear b5 HG2 HT2 u1 u2 u3 u4 u5 u6
    obtain ⟨c, hc⟩ : ∃ c : Nat, IntKind.u8.wrap at' = (c : Int) := ⟨(IntKind.u8.wrap at').toNat, by rw [IntKind.wrap_u8]; omega⟩
    have hc2 : c < 256 := by rw [IntKind.wrap_u8] at hc; omega
    obtain ⟨W16, hW16⟩ : ∃ W, w15.alloc (.cells #[.int .u8 (c : Int)] 5) = W := ⟨_, rfl⟩
    have D16 := (Below.refl w15.heap.size w15).alloc (Nat.le_refl _) (.cells #[.int .u8 (c : Int)] 5)
    have hst := bts_string (one_byte w15 c hc2 5)
    rw [hW16] at D16
    replace HD := hide (chain HD.out D16)
    replace HE := hide (HE0.out.below HD.out)
    have hap : bytesOf (t ++ str [c]) = l ++ [c] := by
      rw [← str_bytesOf t, HFB.out, str_app]
      exact bytes_str (fun x hx => by
        rcases List.mem_append.1 hx with h | h
        · exact HFS.out x h
        · rw [List.mem_singleton.1 h]; exact hc2)
    have hap2 : (t ++ str [c]).size = z + 1 := by
      rw [← bytesOf_len, hap, List.length_append, HLZ.out]
      rfl
    obtain ⟨T3, hT3⟩ : ∃ T3, t ++ str [c] = T3 := ⟨_, rfl⟩
    rw [hT3] at hap hap2
    have HG3 := hide (get_any T3 HE.out (by rw [hap2]; have := HZZ.out; omega))
    rw [hap] at HG3
    have HK3 := hide (HNM.out c)
    have e3 := getN_bad HK3.out
    obtain ⟨k3, hk3⟩ : ∃ x, getE (l ++ [c]) = x := ⟨_, rfl⟩
    rw [hk3] at HG3 HK3
    rw [show erv E k3 = sent (E k3) from if_neg HK3.out, e3] at HG3
    unfold sent at HG3
    replace HG3 : Hid (Calls Tryd.prog 13 #[.string T3] W16 fun e w' => e = .returned (.tuple #[.agg #[.int .i64 0, .int .i64 0, .int .i64 0, .int .i64 0, .int .i64 0, .int .i64 0, .int .i64 0, .int .i64 0, .int .u32 0, .string ⟨#[]⟩], .iface 165 (.pointer (some (E k3)))]) ∧ Below W16.heap.size W16 w') := HG3
    have HT3 := hide hT3
    have HW16 := hide hW16
    have sz1 : (str [c]).size = 1 := str_len [c]
    have sz2 : z ≤ 155 := HZZ.out.2
    clear hk3 hap hap2 e3 hT3 hW16 D16 hc2
    go_wp2_with fail
    have hW16 := HW16.out
    have hT3 := HT3.out
    simp only [hW16, hT3]
    clear hW16 hT3 HW16 HT3
    refine Calls.mono HG3.out ?_
    rintro e w17 ⟨rfl, b5⟩
    replace HD := hide (chain HD.out b5)
    clear b5 HG3 hst hc sz1 sz2
    have HD2 := hide (chain HD.out ((Below.refl w17.heap.size w17).alloc (Nat.le_refl _) (.cells #[.int .i64 0, .int .i64 0, .int .i64 0, .int .i64 0, .int .i64 0, .int .i64 0, .int .i64 0, .int .i64 0, .int .u32 0, .string ⟨#[]⟩] 26)))
    go_wp2
    go_ret
    exact ⟨rfl, HD2.out⟩
end Go.Proofs.YtdbciciljeainaaDoor
