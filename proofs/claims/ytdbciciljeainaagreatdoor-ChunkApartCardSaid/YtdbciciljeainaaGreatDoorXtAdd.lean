/-
  The document's Add.
-/
import Derived.Test.YtdbciciljeainaaGreatDoorXtGood
import Derived.Test.YtdbciciljeainaaGreatDoorXrAck
import Derived.Test.YtdbciciljeainaaGreatDoorXfAdd
namespace Go.Proofs.YtdbciciljeainaaGreatDoor
open Go.RowKit FerryCrc
set_option linter.unusedVariables false
set_option linter.unusedSimpArgs false

set_option maxRecDepth 100000 in
set_option maxHeartbeats 4000000 in
theorem radd_any (pt st tt b r m : Int) (a : Option Addr) (n c : Nat) (P : List ByteArray) (k pt2 b2 r2 m2 st2 ix tt2 sm : Int) (d : ByteArray) {w : World} (hP : Txs w a n c P)
    (hd : d.size ≤ 9223372036854775807) (h1 : -9223372036854775808 ≤ tt2) (h2 : tt2 ≤ 9223372036854775807) :
    Calls Tryz.prog 6 #[.agg #[.int .i64 pt, .int .i64 st, .int .i64 tt, .int .i64 b, .int .i64 r, .int .i64 m, .slice a n c], .agg #[.int .i64 k, .int .i64 pt2, .int .i64 b2, .int .i64 r2, .int .i64 m2, .int .i64 st2, .int .i64 ix, .int .i64 tt2, .int .u32 sm, .string d]] w fun e w' => ∃ v, e = .returned (.tuple #[.agg ((addS ⟨pt, st, tt, b, r, m⟩ P ⟨k, pt2, b2, r2, m2, st2, ix, tt2, sm, d⟩).cells v).toArray, .bool (addF ⟨pt, st, tt, b, r, m⟩ P ⟨k, pt2, b2, r2, m2, st2, ix, tt2, sm, d⟩), .int .i64 (addE ⟨pt, st, tt, b, r, m⟩ P ⟨k, pt2, b2, r2, m2, st2, ix, tt2, sm, d⟩ : Int)]) ∧ TxOwn w' w.heap.size v (addP ⟨pt, st, tt, b, r, m⟩ P ⟨k, pt2, b2, r2, m2, st2, ix, tt2, sm, d⟩) ∧ Below w.heap.size w w' := by
  have hFs := hP.size
  obtain ⟨N, hN⟩ : ∃ N : Nt, N = ⟨k, pt2, b2, r2, m2, st2, ix, tt2, sm, d⟩ := ⟨_, rfl⟩
  obtain ⟨SS, hSS⟩ : ∃ X : Sg, X = ⟨pt, st, tt, b, r, m⟩ := ⟨_, rfl⟩
  have HC1 := hide (fun (w' : World) (h : Txs w' a n c P) => rgoodS_any SS a n c P h)
  have hcs : ∀ v, (SS.cells v).toArray = #[.int .i64 pt, .int .i64 st, .int .i64 tt, .int .i64 b, .int .i64 r, .int .i64 m, v] := fun v => by rw [hSS]; rfl
  simp only [hcs] at HC1
  have HC2 := hide (fun (w' : World) => rchunk_any k pt2 b2 r2 m2 st2 ix tt2 sm d w' hd h1 h2)
  rw [← hN] at HC2 ⊢
  rw [← hSS]
  have HSM : Hid (sameSg SS N = (pt2 == pt && (b2 == b && r2 == r && m2 == m) && st2 == st && tt2 == tt)) := by rw [hSS, hN]; rfl
  have HXE0 : Hid (addE SS P N = if goodB SS P = true then (if begE N = 0 then (if sameSg SS N = true then (if ((P[ix.toNat]?).getD ⟨#[]⟩).size = 0 ∨ (P[ix.toNat]?).getD ⟨#[]⟩ = d then 0 else 14) else 10) else begE N) else 9) := by unfold Hid addE wasP; rw [show N.index = ix by rw [hN], show N.data = d by rw [hN]]
  have HFN : Hid (goodB SS P = true → n ≤ 32 ∧ (n : Int) = tt) := fun h => by
    obtain ⟨-, -, q1, q2, q3, -⟩ := goodB_open h
    rw [hFs] at q3
    rw [hSS] at q2 q3
    exact ⟨by simp only at q2 q3; omega, q3⟩
  have HXS0 : Hid (addS SS P N = if addE SS P N = 0 then SS else zSg) := rfl
  have HXA0 : Hid (addP SS P N = if addE SS P N = 0 then P.set ix.toNat d else []) := by unfold Hid addP; rw [show N.index = ix by rw [hN], show N.data = d by rw [hN]]
  have HXF0 : Hid (addF SS P N = (decide (addE SS P N = 0) && decide (((P[ix.toNat]?).getD ⟨#[]⟩).size = 0))) := by unfold Hid addF wasP; rw [show N.index = ix by rw [hN]]
  have HCA : Hid (begE N = 0 → 0 ≤ ix ∧ ix < tt2) := fun h => by
    obtain ⟨q1, q2⟩ := begE_open h
    obtain ⟨-, -, -, -, q3, q4, -, -⟩ := chk_chunk q1 q2
    rw [hN] at q3 q4
    exact ⟨q3, q4⟩
  obtain ⟨XE, e1⟩ : ∃ X, addE SS P N = X := ⟨_, rfl⟩
  obtain ⟨XS, e2⟩ : ∃ X, addS SS P N = X := ⟨_, rfl⟩
  obtain ⟨XA, e3⟩ : ∃ X, addP SS P N = X := ⟨_, rfl⟩
  obtain ⟨XF, e4⟩ : ∃ X, addF SS P N = X := ⟨_, rfl⟩
  rw [e1] at HXE0 HXS0 HXA0 HXF0 ⊢
  rw [e2] at HXS0 ⊢
  rw [e3] at HXA0 ⊢
  rw [e4] at HXF0 ⊢
  obtain ⟨C, hC⟩ : ∃ C, begE N = C := ⟨_, rfl⟩
  obtain ⟨G, hG⟩ : ∃ G, goodB SS P = G := ⟨_, rfl⟩
  obtain ⟨Y, hY⟩ : ∃ Y, sameSg SS N = Y := ⟨_, rfl⟩
  rw [hC] at HXE0 HC2 HCA
  rw [hG] at HXE0 HC1 HFN
  rw [hY] at HXE0 HSM
  have HXE := HXE0
  have HXS := HXS0
  have HXA := HXA0
  have HXF := HXF0
  have HSS := hide hSS
  clear HXE0 HXS0 HXA0 HXF0 e1 e2 e3 e4 hN hSS hcs hd h1 h2 hC hG hY
  obtain ⟨W, hW, B0, B1, B2, D0⟩ := box3 w [.int .i64 pt, .int .i64 st, .int .i64 tt, .int .i64 b, .int .i64 r, .int .i64 m, .slice a n c] 26 [.int .i64 k, .int .i64 pt2, .int .i64 b2, .int .i64 r2, .int .i64 m2, .int .i64 st2, .int .i64 ix, .int .i64 tt2, .int .u32 sm, .string d] 33 [.int .i64 0, .int .i64 0, .int .i64 0, .int .i64 0, .int .i64 0, .int .i64 0, .slice none 0 0] 26
  obtain ⟨p, hp⟩ : ∃ p, w.heap.size + 1 = p := ⟨_, rfl⟩
  obtain ⟨q, hq⟩ : ∃ q, w.heap.size + 2 = q := ⟨_, rfl⟩
  have HNE : Hid (w.heap.size ≠ p ∧ w.heap.size ≠ q ∧ p ≠ q) := by unfold Hid; omega
  have HQ0 : Hid (w.heap.size < q) := by unfold Hid; omega
  have HPQ : Hid (w.heap.size + 1 = p ∧ p + 1 = q) := by unfold Hid; omega
  rw [hp] at B1
  rw [hq] at B2
  have HB0 := hide B0
  have HB1 := hide B1
  have HB2 := hide B2
  have HD := hide D0
  have HWD := hide hW
  have HF1 := hide (hP.below D0)
  clear B0 B1 B2 D0 hW hP hp hq
  go_enter Tryz.func6, Tryz.ntmps6
  go_upto_region 1 with fail
  have hW := HWD.out
  obtain ⟨hp, hq⟩ := HPQ.out
  clear HWD HPQ
  simp only [hW, hp, hq]
  clear hW hp hq
  have g0 := HB0.out.cell 0 rfl
  have g1 := HB0.out.cell 1 rfl
  have g2 := HB0.out.cell 2 rfl
  have g3 := HB0.out.cell 3 rfl
  have g4 := HB0.out.cell 4 rfl
  have g5 := HB0.out.cell 5 rfl
  have g6 := HB0.out.cell 6 rfl
  go_wp2_with fail
  refine Calls.mono (HC1.out W HF1.out) ?_
  rintro e w1 ⟨rfl, b1⟩
  replace HB0 := hide (HB0.out.below b1)
  replace HB1 := hide (HB1.out.below b1)
  replace HB2 := hide (HB2.out.below b1)
  replace HF1 := hide (HF1.out.below b1)
  replace HD := hide (chain HD.out b1)
  clear b1 HC1 g0 g1 g2 g3 g4 g5 g6
  cases G with
  | true =>
    obtain ⟨hfn, hnt⟩ := HFN.out rfl
    have g0 := HB1.out.cell 0 rfl
    have g1 := HB1.out.cell 1 rfl
    have g2 := HB1.out.cell 2 rfl
    have g3 := HB1.out.cell 3 rfl
    have g4 := HB1.out.cell 4 rfl
    have g5 := HB1.out.cell 5 rfl
    have g6 := HB1.out.cell 6 rfl
    have g7 := HB1.out.cell 7 rfl
    have g8 := HB1.out.cell 8 rfl
    have g9 := HB1.out.cell 9 rfl
    go_upto_region 3 with fail
    go_wp2_with fail
    refine Calls.mono (HC2.out w1) ?_
    rintro e w2 ⟨rfl, b1⟩
    replace HB0 := hide (HB0.out.below b1)
    replace HB1 := hide (HB1.out.below b1)
    replace HB2 := hide (HB2.out.below b1)
    replace HF1 := hide (HF1.out.below b1)
    replace HD := hide (chain HD.out b1)
    clear b1 HC2 g0 g1 g2 g3 g4 g5 g6 g7 g8 g9
    by_cases hc : C = 0
    · obtain ⟨i1, i2⟩ := HCA.out hc
      subst hc
      obtain ⟨i, rfl⟩ : ∃ i : Nat, ix = (i : Int) := ⟨ix.toNat, by omega⟩
      have HXE2 : Hid (XE = if Y = true then (if ((P[i]?).getD ⟨#[]⟩).size = 0 ∨ (P[i]?).getD ⟨#[]⟩ = d then 0 else 14) else 10) := by unfold Hid; rw [HXE.out]; simp only [Int.toNat_natCast, if_true, eq_self]
      clear HCA HFN
      go_upto_region 6 with fail
      go_cut [44] from 19 to 44 (fun v wz => v = .bool (!Y) ∧ wz = w2)
      case first =>
        have g0 := HB0.out.cell 0 rfl
        have g1 := HB0.out.cell 1 rfl
        have g2 := HB0.out.cell 2 rfl
        have g3 := HB0.out.cell 3 rfl
        have g4 := HB0.out.cell 4 rfl
        have g5 := HB0.out.cell 5 rfl
        have g6 := HB0.out.cell 6 rfl
        have n0 := HB1.out.cell 0 rfl
        have n1 := HB1.out.cell 1 rfl
        have n2 := HB1.out.cell 2 rfl
        have n3 := HB1.out.cell 3 rfl
        have n4 := HB1.out.cell 4 rfl
        have n5 := HB1.out.cell 5 rfl
        have n6 := HB1.out.cell 6 rfl
        have n7 := HB1.out.cell 7 rfl
        have n8 := HB1.out.cell 8 rfl
        have n9 := HB1.out.cell 9 rfl
        obtain ⟨YX, hYX⟩ : ∃ YX, (b2 == b && r2 == r && m2 == m) = YX := ⟨_, rfl⟩
        have HQ := xid_neqb hYX
        have HY : Hid (Y = (pt2 == pt && YX && st2 == st && tt2 == tt)) := by rw [← hYX]; exact HSM.out
        have hgt : Tryz.prog.eqGuardType Tryz.prog.depth 23 = false := by kernel_rfl
        clear hYX HXE HXE2 HXS HXA HXF HSM i1 i2 hnt
        by_cases a1 : pt2 = pt
        · have f1 : (pt2 != pt) = false := by simpa using a1
          have f1' : (pt2 == pt) = true := by simpa using a1
          cases YX with
          | true =>
            by_cases a3 : st2 = st
            · have f3 : (st2 != st) = false := by simpa using a3
              have f3' : (st2 == st) = true := by simpa using a3
              by_cases a4 : tt2 = tt
              · have f4 : (tt2 != tt) = false := by simpa using a4
                have f4' : (tt2 == tt) = true := by simpa using a4
                have hy : Y = true := by rw [HY.out, f1', f3', f4']; rfl
                subst hy
                clear a1 a3 a4 HY
                go_wp2_with fail
                go_meet
                case rel => exact ⟨rfl, rfl⟩
              · have f4 : (tt2 != tt) = true := by simpa using a4
                have f4' : (tt2 == tt) = false := by simpa using a4
                have hy : Y = false := by rw [HY.out, f4']; simp
                subst hy
                clear a1 a3 a4 HY
                go_wp2_with fail
                go_meet
                case rel => exact ⟨rfl, rfl⟩
            · have f3 : (st2 != st) = true := by simpa using a3
              have f3' : (st2 == st) = false := by simpa using a3
              have hy : Y = false := by rw [HY.out, f3']; simp
              subst hy
              clear a1 a3 HY
              go_wp2_with fail
              go_meet
              case rel => exact ⟨rfl, rfl⟩
          | false =>
            have hy : Y = false := by rw [HY.out]; simp
            subst hy
            clear a1 HY
            go_wp2_with fail
            go_meet
            case rel => exact ⟨rfl, rfl⟩
        · have f1 : (pt2 != pt) = true := by simpa using a1
          have f1' : (pt2 == pt) = false := by simpa using a1
          have hy : Y = false := by rw [HY.out, f1']; rfl
          subst hy
          clear a1 HY
          go_wp2_with fail
          go_meet
          case rel => exact ⟨rfl, rfl⟩
      case rest =>
        obtain ⟨rfl, rfl⟩ := hcut
        obtain ⟨w8, hw8⟩ : ∃ z, z = wc := ⟨_, rfl⟩
        subst hw8
        cases Y with
        | false =>
          have HF : Hid (XS = zSg ∧ XA = [] ∧ XF = false ∧ XE = 10) := by
            have h9 : XE = 10 := by rw [HXE2.out]; rfl
            have hz : ¬ XE = 0 := by rw [h9]; decide
            exact ⟨by rw [HXS.out, if_neg hz], by rw [HXA.out, if_neg hz], by rw [HXF.out, decide_eq_false hz]; rfl, h9⟩
          clear i1 i2 HXE2 HXE HXS HXA HXF
          go_upto_region 7 with fail
          have g0 := HB2.out.cell 0 rfl
          have g1 := HB2.out.cell 1 rfl
          have g2 := HB2.out.cell 2 rfl
          have g3 := HB2.out.cell 3 rfl
          have g4 := HB2.out.cell 4 rfl
          have g5 := HB2.out.cell 5 rfl
          have g6 := HB2.out.cell 6 rfl
          have f0 := HB2.out.frozen 0
          have f1 := HB2.out.frozen 1
          have f2 := HB2.out.frozen 2
          have f3 := HB2.out.frozen 3
          have f4 := HB2.out.frozen 4
          have f5 := HB2.out.frozen 5
          have f6 := HB2.out.frozen 6
          have Q1 := hide (HB2.out.sets [.int .i64 0, .int .i64 0, .int .i64 0, .int .i64 0, .int .i64 0, .int .i64 0, .slice none 0 0] rfl)
          have Q3 := hide (below_sets (Nat.le_of_lt HQ0.out) [.int .i64 0, .int .i64 0, .int .i64 0, .int .i64 0, .int .i64 0, .int .i64 0, .slice none 0 0] 0 HD.out)
          go_wp2
          obtain ⟨W9, hW9⟩ : ∃ W9, (((((((w8.setCell ⟨q, 0, none⟩ (.int .i64 0)).setCell ⟨q, 1, none⟩ (.int .i64 0)).setCell ⟨q, 2, none⟩ (.int .i64 0)).setCell ⟨q, 3, none⟩ (.int .i64 0)).setCell ⟨q, 4, none⟩ (.int .i64 0)).setCell ⟨q, 5, none⟩ (.int .i64 0)).setCell ⟨q, 6, none⟩ (.slice none 0 0)) = W9 := ⟨_, rfl⟩
          simp only [hW9]
          rw [show World.setCells w8 q 0 [.int .i64 0, .int .i64 0, .int .i64 0, .int .i64 0, .int .i64 0, .int .i64 0, .slice none 0 0] = W9 from hW9] at Q1 Q3
          clear hW9
          have e0 := Q1.out.cell 0 rfl
          have e1 := Q1.out.cell 1 rfl
          have e2 := Q1.out.cell 2 rfl
          have e3 := Q1.out.cell 3 rfl
          have e4 := Q1.out.cell 4 rfl
          have e5 := Q1.out.cell 5 rfl
          have e6 := Q1.out.cell 6 rfl
          refine bodyPost_ret (v := .tuple #[.agg #[.int .i64 0, .int .i64 0, .int .i64 0, .int .i64 0, .int .i64 0, .int .i64 0, .slice none 0 0], .bool false, .int .i64 10]) (by simp [results, Tryz.results6, go_sem, e0, e1, e2, e3, e4, e5, e6]) rfl ?_
          exact ⟨.slice none 0 0, by rw [HF.out.1, HF.out.2.2.1, HF.out.2.2.2]; rfl, by rw [HF.out.2.1]; exact World.ownsRow_nil _ _ _ _, Q3.out⟩
        | true =>
          rw [show (!true) = false from rfl]
          have htf : tt2 = tt := by
            have := HSM.out.symm
            simp only [Bool.and_eq_true, beq_iff_eq] at this
            exact this.2
          have hin : i < n := by omega
          clear htf
          obtain ⟨x, hx⟩ : ∃ x, P[i]? = some x := ⟨_, List.getElem?_eq_getElem (by omega)⟩
          have HXE3 : Hid (XE = if x.size = 0 ∨ x = d then 0 else 14) := by unfold Hid; rw [HXE2.out, if_pos rfl, hx]; rfl
          obtain ⟨b1, o1, rfl, hc1⟩ := HF1.out.at tv1 (by decide) hx
          have n0 := hc1 0 _ rfl
          simp only [Nat.mul_one, Nat.add_zero] at n0
          have g6 := HB0.out.cell 6 rfl
          have q6 := HB1.out.cell 6 rfl
          have q9 := HB1.out.cell 9 rfl
          have hi1 : ¬ (i : Int) < 0 := by omega
          have hi2 : (i : Int) < (n : Int) := by omega
          clear hc1 HSM HXE2 i1 i2
          go_upto_region 9 with fail
          go_cut [59] from 52 to 59 (fun v wz => v = .bool (decide (XE = 14)) ∧ wz = w8)
          case first =>
            by_cases h0 : x.size = 0
            · have hxe : x = ⟨#[]⟩ := empty_of h0
              have hdn : x.toList = [] := by rw [ByteArray.toList_eq, hxe]
              have hdt : x.toList.isEmpty = true := by rw [hdn]; rfl
              have h9 : XE = 0 := by rw [HXE3.out, if_pos (.inl h0)]
              subst h9
              clear h0 hxe hx HXE HXS HXA HXF HXE3
              go_wp2_with fail
              go_meet
              case rel => exact ⟨rfl, rfl⟩
            · have hdt := list_ne h0
              have hdn := toList_ne h0
              by_cases h5 : x = d
              · have h9 : XE = 0 := by rw [HXE3.out, if_pos (.inr h5)]
                subst h9
                subst h5
                clear h0 hx HXE HXS HXA HXF HXE3
                go_wp2_with fail
                go_meet
                case rel => exact ⟨rfl, rfl⟩
              · have h9 : XE = 14 := by rw [HXE3.out, if_neg (fun h => h.elim h0 h5)]
                subst h9
                have hxl := str_ne h5
                have hde : decide (x = d) = false := decide_eq_false h5
                have HXB : Hid ((x.toList == d.toList) = false) := beq_eq_false_iff_ne.2 hxl
                clear h0 hx HXE HXS HXA HXF HXE3
                go_wp2_with fail
                go_meet
                case rel => exact ⟨by first | rfl | (rw [HXB.out]; rfl), rfl⟩
          case rest =>
            obtain ⟨rfl, rfl⟩ := hcut
            obtain ⟨w8, hw8⟩ : ∃ z, z = wc := ⟨_, rfl⟩
            subst hw8
            by_cases h5 : x.size = 0 ∨ x = d
            · have h9 : XE = 0 := by rw [HXE3.out, if_pos h5]
              have HF : Hid (XS = SS ∧ XA = P.set i d ∧ XF = decide (x.size = 0) ∧ XE = 0) := by
                refine ⟨?_, ?_, ?_, h9⟩
                · rw [HXS.out, h9]; exact if_pos rfl
                · rw [HXA.out, h9]; exact if_pos rfl
                · rw [HXF.out, h9, Int.toNat_natCast, hx]; rfl
              rw [h9, show decide ((0 : Nat) = 14) = false from rfl]
              have HX := hide hx
              clear hx HXS HXA HXF HXE HXE3 h9 h5 n0 q6 q9 g6
              have HWL : Hid (w.heap.size < w8.heap.size ∧ p < w8.heap.size ∧ q < w8.heap.size) := ⟨HB0.out.lt, HB1.out.lt, HB2.out.lt⟩
              have BE := hide (xnew w8 (.cells #[] 9))
              have HI := hide infoTx
              have ONE := hide (tv_one P)
              have a6 := (HB0.out.below BE.out).cell 6 rfl
              have HOB : Hid (∀ w2, Below w8.heap.size w8 w2 → Bk w2 w.heap.size [.int .i64 pt, .int .i64 st, .int .i64 tt, .int .i64 b, .int .i64 r, .int .i64 m, .slice (some ⟨b1, o1, none⟩) n c] 26 ∧ (Bk w2 p [.int .i64 k, .int .i64 pt2, .int .i64 b2, .int .i64 r2, .int .i64 m2, .int .i64 st2, .int .i64 (i : Int), .int .i64 tt2, .int .u32 sm, .string d] 33 ∧ Bk w2 q [.int .i64 0, .int .i64 0, .int .i64 0, .int .i64 0, .int .i64 0, .int .i64 0, .slice none 0 0] 26)) := fun w2 h => ⟨HB0.out.below h, HB1.out.below h, HB2.out.below h⟩
              go_upto_region 12 with (at_builtin; refine append_list rfl (.tmp 61) (.tmp 63) 24 9 rfl Tryz.underlying24 HI.out rfl (by decide) w8.heap.size _ 0 [] rfl (World.ownsRow_lit w8 #[] 0 (Nat.le_refl _) (by decide) rfl) (some ⟨b1, o1, none⟩) n c (P.flatMap tv) rfl (HF1.out.row.below BE.out) ONE.out (by unfold maxLen; omega) (by omega) BE.out.size ?_; intro v2 w4 h2 b4; rw [List.nil_append, Nat.zero_add] at h2; have HO : Hid (TxOwn w4 w8.heap.size v2 P) := (by rw [← hFs] at h2; exact h2); have D4 := hide (BE.out.trans b4); clear h2 b4; obtain ⟨K0, K1⟩ := HOB.out _ D4.out; have HK0 := hide K0; have HK1 := hide K1; obtain ⟨gv, cv, hv, hgv⟩ := HO.out.form (by rw [hFs]; omega); rw [hFs] at hv; subst hv; have HGW := hide hgv; have c6 := K0.cell 6 rfl; have z6 := K0.frozen 6; clear K0 K1 hgv)
              have HV0 := hide (HO.out.off HWL.out.1)
              have HVQ := hide (HO.out.off HWL.out.2.2)
              have HGV : Hid (w.heap.size ≠ gv ∧ p ≠ gv ∧ q ≠ gv ∧ w.heap.size ≤ gv) := by
                have q1 := HWL.out
                have q2 := HGW.out
                exact ⟨by omega, by omega, by omega, by omega⟩
              have K0 := hide (HK0.out.set 6 (.slice (some ⟨gv, 0, none⟩) n cv))
              have K1 := hide (HK1.out.1.other ⟨w.heap.size, 6, none⟩ (.slice (some ⟨gv, 0, none⟩) n cv) (Ne.symm HNE.out.1))
              have K2 := hide (HK1.out.2.other ⟨w.heap.size, 6, none⟩ (.slice (some ⟨gv, 0, none⟩) n cv) (Ne.symm HNE.out.2.1))
              have KO := hide (HO.out.far (p := ⟨w.heap.size, 6, none⟩) HV0.out (.slice (some ⟨gv, 0, none⟩) n cv))
              have KD := hide ((chain HD.out D4.out).setCell (p := ⟨w.heap.size, 6, none⟩) (Nat.le_refl _) (.slice (some ⟨gv, 0, none⟩) n cv))
              obtain ⟨W5, hW5⟩ : ∃ W5, w4.setCell ⟨w.heap.size, 6, none⟩ (.slice (some ⟨gv, 0, none⟩) n cv) = W5 := ⟨_, rfl⟩
              rw [hW5] at K0 K1 K2 KO KD
              simp only [hW5]
              replace K0 : Hid (Bk W5 w.heap.size [.int .i64 pt, .int .i64 st, .int .i64 tt, .int .i64 b, .int .i64 r, .int .i64 m, .slice (some ⟨gv, 0, none⟩) n cv] 26) := K0
              have HWZ : Hid (w.heap.size ≤ w8.heap.size) := HD.out.size
              clear hW5 c6 z6 HK0 HK1 HO D4 HB0 HB1 HB2 HF1 HOB BE HI ONE a6 HD
              have h6 := K0.out.cell 6 rfl
              have n6 := K1.out.cell 6 rfl
              have n9 := K1.out.cell 9 rfl
              obtain ⟨z1, z2, z3, z4, z5⟩ := KO.out.put tv1 hFs hin d
              obtain ⟨⟨u0, y0⟩, x0⟩ := z1 0 (by decide)
              simp only [Nat.mul_one, Nat.add_zero] at y0 x0
              rw [Nat.mul_one] at z2 z3
              have M2 := hide (show TxOwn (W5.setCell ⟨gv, i, none⟩ (.string d)) _ (.slice (some ⟨gv, 0, none⟩) n cv) (P.set i d) from z2)
              have M0 := hide (K0.out.other ⟨gv, i, none⟩ (.string d) HGV.out.1)
              have MQ := hide (K2.out.other ⟨gv, i, none⟩ (.string d) HGV.out.2.2.1)
              have MD := hide (KD.out.setCell (p := ⟨gv, i, none⟩) HGV.out.2.2.2 (.string d))
              clear z1 z2 z3 z4 z5 KO K0 K1 K2 KD
              go_upto_region 13 with fail
              obtain ⟨W6, hW6⟩ : ∃ W6, W5.setCell ⟨gv, i, none⟩ (.string d) = W6 := ⟨_, rfl⟩
              rw [hW6] at M2 M0 MQ MD
              simp only [hW6]
              clear hW6 h6 n6 n9 y0 x0
              have hneq : (Value.slice (some ⟨gv, 0, none⟩) n cv).ownBlock ≠ some q := HVQ.out
              by_cases h0 : x.size = 0
              · have hxe : x = ⟨#[]⟩ := empty_of h0
                have hdn : x.toList = [] := by rw [ByteArray.toList_eq, hxe]
                have hdt : x.toList.isEmpty = true := by rw [hdn]; rfl
                have HZ : Hid (decide (x.size = 0) = true) := decide_eq_true h0
                clear h0 hxe
                have c0 := M0.out.cell 0 rfl
                have c1 := M0.out.cell 1 rfl
                have c2 := M0.out.cell 2 rfl
                have c3 := M0.out.cell 3 rfl
                have c4 := M0.out.cell 4 rfl
                have c5 := M0.out.cell 5 rfl
                have c6 := M0.out.cell 6 rfl
                have g0 := MQ.out.cell 0 rfl
                have g1 := MQ.out.cell 1 rfl
                have g2 := MQ.out.cell 2 rfl
                have g3 := MQ.out.cell 3 rfl
                have g4 := MQ.out.cell 4 rfl
                have g5 := MQ.out.cell 5 rfl
                have g6 := MQ.out.cell 6 rfl
                have f0 := MQ.out.frozen 0
                have f1 := MQ.out.frozen 1
                have f2 := MQ.out.frozen 2
                have f3 := MQ.out.frozen 3
                have f4 := MQ.out.frozen 4
                have f5 := MQ.out.frozen 5
                have f6 := MQ.out.frozen 6
                have Q1 := hide (MQ.out.sets [.int .i64 pt, .int .i64 st, .int .i64 tt, .int .i64 b, .int .i64 r, .int .i64 m, .slice (some ⟨gv, 0, none⟩) n cv] rfl)
                have Q3 := hide (below_sets (Nat.le_of_lt HQ0.out) [.int .i64 pt, .int .i64 st, .int .i64 tt, .int .i64 b, .int .i64 r, .int .i64 m, .slice (some ⟨gv, 0, none⟩) n cv] 0 MD.out)
                have Q2 := hide (LOwn.fars hneq [.int .i64 pt, .int .i64 st, .int .i64 tt, .int .i64 b, .int .i64 r, .int .i64 m, .slice (some ⟨gv, 0, none⟩) n cv] 0 M2.out)
                go_wp2
                obtain ⟨W9, hW9⟩ : ∃ W9, (((((((W6.setCell ⟨q, 0, none⟩ (.int .i64 pt)).setCell ⟨q, 1, none⟩ (.int .i64 st)).setCell ⟨q, 2, none⟩ (.int .i64 tt)).setCell ⟨q, 3, none⟩ (.int .i64 b)).setCell ⟨q, 4, none⟩ (.int .i64 r)).setCell ⟨q, 5, none⟩ (.int .i64 m)).setCell ⟨q, 6, none⟩ (.slice (some ⟨gv, 0, none⟩) n cv)) = W9 := ⟨_, rfl⟩
                simp only [hW9]
                rw [show World.setCells W6 q 0 [.int .i64 pt, .int .i64 st, .int .i64 tt, .int .i64 b, .int .i64 r, .int .i64 m, .slice (some ⟨gv, 0, none⟩) n cv] = W9 from hW9] at Q1 Q3 Q2
                clear hW9
                have e0 := Q1.out.cell 0 rfl
                have e1 := Q1.out.cell 1 rfl
                have e2 := Q1.out.cell 2 rfl
                have e3 := Q1.out.cell 3 rfl
                have e4 := Q1.out.cell 4 rfl
                have e5 := Q1.out.cell 5 rfl
                have e6 := Q1.out.cell 6 rfl
                refine bodyPost_ret (v := .tuple #[.agg #[.int .i64 pt, .int .i64 st, .int .i64 tt, .int .i64 b, .int .i64 r, .int .i64 m, .slice (some ⟨gv, 0, none⟩) n cv], .bool true, .int .i64 0]) (by simp [results, Tryz.results6, go_sem, e0, e1, e2, e3, e4, e5, e6]) rfl ?_
                exact ⟨.slice (some ⟨gv, 0, none⟩) n cv, by rw [HF.out.1, HF.out.2.2.1, HF.out.2.2.2, HSS.out, HZ.out]; rfl, by rw [HF.out.2.1]; exact Q2.out.weaken HWZ.out, Q3.out⟩
              · have hdt := list_ne h0
                have hdn := toList_ne h0
                have HZ : Hid (decide (x.size = 0) = false) := decide_eq_false h0
                clear h0
                have c0 := M0.out.cell 0 rfl
                have c1 := M0.out.cell 1 rfl
                have c2 := M0.out.cell 2 rfl
                have c3 := M0.out.cell 3 rfl
                have c4 := M0.out.cell 4 rfl
                have c5 := M0.out.cell 5 rfl
                have c6 := M0.out.cell 6 rfl
                have g0 := MQ.out.cell 0 rfl
                have g1 := MQ.out.cell 1 rfl
                have g2 := MQ.out.cell 2 rfl
                have g3 := MQ.out.cell 3 rfl
                have g4 := MQ.out.cell 4 rfl
                have g5 := MQ.out.cell 5 rfl
                have g6 := MQ.out.cell 6 rfl
                have f0 := MQ.out.frozen 0
                have f1 := MQ.out.frozen 1
                have f2 := MQ.out.frozen 2
                have f3 := MQ.out.frozen 3
                have f4 := MQ.out.frozen 4
                have f5 := MQ.out.frozen 5
                have f6 := MQ.out.frozen 6
                have Q1 := hide (MQ.out.sets [.int .i64 pt, .int .i64 st, .int .i64 tt, .int .i64 b, .int .i64 r, .int .i64 m, .slice (some ⟨gv, 0, none⟩) n cv] rfl)
                have Q3 := hide (below_sets (Nat.le_of_lt HQ0.out) [.int .i64 pt, .int .i64 st, .int .i64 tt, .int .i64 b, .int .i64 r, .int .i64 m, .slice (some ⟨gv, 0, none⟩) n cv] 0 MD.out)
                have Q2 := hide (LOwn.fars hneq [.int .i64 pt, .int .i64 st, .int .i64 tt, .int .i64 b, .int .i64 r, .int .i64 m, .slice (some ⟨gv, 0, none⟩) n cv] 0 M2.out)
                go_wp2
                obtain ⟨W9, hW9⟩ : ∃ W9, (((((((W6.setCell ⟨q, 0, none⟩ (.int .i64 pt)).setCell ⟨q, 1, none⟩ (.int .i64 st)).setCell ⟨q, 2, none⟩ (.int .i64 tt)).setCell ⟨q, 3, none⟩ (.int .i64 b)).setCell ⟨q, 4, none⟩ (.int .i64 r)).setCell ⟨q, 5, none⟩ (.int .i64 m)).setCell ⟨q, 6, none⟩ (.slice (some ⟨gv, 0, none⟩) n cv)) = W9 := ⟨_, rfl⟩
                simp only [hW9]
                rw [show World.setCells W6 q 0 [.int .i64 pt, .int .i64 st, .int .i64 tt, .int .i64 b, .int .i64 r, .int .i64 m, .slice (some ⟨gv, 0, none⟩) n cv] = W9 from hW9] at Q1 Q3 Q2
                clear hW9
                have e0 := Q1.out.cell 0 rfl
                have e1 := Q1.out.cell 1 rfl
                have e2 := Q1.out.cell 2 rfl
                have e3 := Q1.out.cell 3 rfl
                have e4 := Q1.out.cell 4 rfl
                have e5 := Q1.out.cell 5 rfl
                have e6 := Q1.out.cell 6 rfl
                refine bodyPost_ret (v := .tuple #[.agg #[.int .i64 pt, .int .i64 st, .int .i64 tt, .int .i64 b, .int .i64 r, .int .i64 m, .slice (some ⟨gv, 0, none⟩) n cv], .bool false, .int .i64 0]) (by simp [results, Tryz.results6, go_sem, e0, e1, e2, e3, e4, e5, e6]) rfl ?_
                exact ⟨.slice (some ⟨gv, 0, none⟩) n cv, by rw [HF.out.1, HF.out.2.2.1, HF.out.2.2.2, HSS.out, HZ.out]; rfl, by rw [HF.out.2.1]; exact Q2.out.weaken HWZ.out, Q3.out⟩
            · --
              have HF : Hid (XS = zSg ∧ XA = [] ∧ XF = false ∧ XE = 14) := by
                have h9 : XE = 14 := by rw [HXE3.out, if_neg h5]
                have hz : ¬ XE = 0 := by rw [h9]; decide
                exact ⟨by rw [HXS.out, if_neg hz], by rw [HXA.out, if_neg hz], by rw [HXF.out, decide_eq_false hz]; rfl, h9⟩
              rw [show decide (XE = 14) = true from decide_eq_true HF.out.2.2.2]
              clear h5 HXE3 HXE HXS HXA HXF hx n0 q6 q9 g6
              go_upto_region 10 with fail
              have g0 := HB2.out.cell 0 rfl
              have g1 := HB2.out.cell 1 rfl
              have g2 := HB2.out.cell 2 rfl
              have g3 := HB2.out.cell 3 rfl
              have g4 := HB2.out.cell 4 rfl
              have g5 := HB2.out.cell 5 rfl
              have g6 := HB2.out.cell 6 rfl
              have f0 := HB2.out.frozen 0
              have f1 := HB2.out.frozen 1
              have f2 := HB2.out.frozen 2
              have f3 := HB2.out.frozen 3
              have f4 := HB2.out.frozen 4
              have f5 := HB2.out.frozen 5
              have f6 := HB2.out.frozen 6
              have Q1 := hide (HB2.out.sets [.int .i64 0, .int .i64 0, .int .i64 0, .int .i64 0, .int .i64 0, .int .i64 0, .slice none 0 0] rfl)
              have Q3 := hide (below_sets (Nat.le_of_lt HQ0.out) [.int .i64 0, .int .i64 0, .int .i64 0, .int .i64 0, .int .i64 0, .int .i64 0, .slice none 0 0] 0 HD.out)
              go_wp2
              obtain ⟨W9, hW9⟩ : ∃ W9, (((((((w8.setCell ⟨q, 0, none⟩ (.int .i64 0)).setCell ⟨q, 1, none⟩ (.int .i64 0)).setCell ⟨q, 2, none⟩ (.int .i64 0)).setCell ⟨q, 3, none⟩ (.int .i64 0)).setCell ⟨q, 4, none⟩ (.int .i64 0)).setCell ⟨q, 5, none⟩ (.int .i64 0)).setCell ⟨q, 6, none⟩ (.slice none 0 0)) = W9 := ⟨_, rfl⟩
              simp only [hW9]
              rw [show World.setCells w8 q 0 [.int .i64 0, .int .i64 0, .int .i64 0, .int .i64 0, .int .i64 0, .int .i64 0, .slice none 0 0] = W9 from hW9] at Q1 Q3
              clear hW9
              have e0 := Q1.out.cell 0 rfl
              have e1 := Q1.out.cell 1 rfl
              have e2 := Q1.out.cell 2 rfl
              have e3 := Q1.out.cell 3 rfl
              have e4 := Q1.out.cell 4 rfl
              have e5 := Q1.out.cell 5 rfl
              have e6 := Q1.out.cell 6 rfl
              refine bodyPost_ret (v := .tuple #[.agg #[.int .i64 0, .int .i64 0, .int .i64 0, .int .i64 0, .int .i64 0, .int .i64 0, .slice none 0 0], .bool false, .int .i64 14]) (by simp [results, Tryz.results6, go_sem, e0, e1, e2, e3, e4, e5, e6]) rfl ?_
              exact ⟨.slice none 0 0, by rw [HF.out.1, HF.out.2.2.1, HF.out.2.2.2]; rfl, by rw [HF.out.2.1]; exact World.ownsRow_nil _ _ _ _, Q3.out⟩
    · --
      have HF : Hid (XS = zSg ∧ XA = [] ∧ XF = false ∧ XE = C) := by
        have h9 : XE = C := by rw [HXE.out]; simp only [if_true, eq_self, if_neg hc]
        have hz : ¬ XE = 0 := by rw [h9]; assumption
        exact ⟨by rw [HXS.out, if_neg hz], by rw [HXA.out, if_neg hz], by rw [HXF.out, decide_eq_false hz]; rfl, h9⟩
      have c1 : ((C : Int) == 0) = false := by simp; omega
      have c2 : ((C : Int) != 0) = true := by simp; omega
      clear HXE HXS HXA HXF
      go_upto_region 5 with fail
      have g0 := HB2.out.cell 0 rfl
      have g1 := HB2.out.cell 1 rfl
      have g2 := HB2.out.cell 2 rfl
      have g3 := HB2.out.cell 3 rfl
      have g4 := HB2.out.cell 4 rfl
      have g5 := HB2.out.cell 5 rfl
      have g6 := HB2.out.cell 6 rfl
      have f0 := HB2.out.frozen 0
      have f1 := HB2.out.frozen 1
      have f2 := HB2.out.frozen 2
      have f3 := HB2.out.frozen 3
      have f4 := HB2.out.frozen 4
      have f5 := HB2.out.frozen 5
      have f6 := HB2.out.frozen 6
      have Q1 := hide (HB2.out.sets [.int .i64 0, .int .i64 0, .int .i64 0, .int .i64 0, .int .i64 0, .int .i64 0, .slice none 0 0] rfl)
      have Q3 := hide (below_sets (Nat.le_of_lt HQ0.out) [.int .i64 0, .int .i64 0, .int .i64 0, .int .i64 0, .int .i64 0, .int .i64 0, .slice none 0 0] 0 HD.out)
      go_wp2
      obtain ⟨W9, hW9⟩ : ∃ W9, (((((((w2.setCell ⟨q, 0, none⟩ (.int .i64 0)).setCell ⟨q, 1, none⟩ (.int .i64 0)).setCell ⟨q, 2, none⟩ (.int .i64 0)).setCell ⟨q, 3, none⟩ (.int .i64 0)).setCell ⟨q, 4, none⟩ (.int .i64 0)).setCell ⟨q, 5, none⟩ (.int .i64 0)).setCell ⟨q, 6, none⟩ (.slice none 0 0)) = W9 := ⟨_, rfl⟩
      simp only [hW9]
      rw [show World.setCells w2 q 0 [.int .i64 0, .int .i64 0, .int .i64 0, .int .i64 0, .int .i64 0, .int .i64 0, .slice none 0 0] = W9 from hW9] at Q1 Q3
      clear hW9
      have e0 := Q1.out.cell 0 rfl
      have e1 := Q1.out.cell 1 rfl
      have e2 := Q1.out.cell 2 rfl
      have e3 := Q1.out.cell 3 rfl
      have e4 := Q1.out.cell 4 rfl
      have e5 := Q1.out.cell 5 rfl
      have e6 := Q1.out.cell 6 rfl
      refine bodyPost_ret (v := .tuple #[.agg #[.int .i64 0, .int .i64 0, .int .i64 0, .int .i64 0, .int .i64 0, .int .i64 0, .slice none 0 0], .bool false, .int .i64 (C : Int)]) (by simp [results, Tryz.results6, go_sem, e0, e1, e2, e3, e4, e5, e6]) rfl ?_
      exact ⟨.slice none 0 0, by rw [HF.out.1, HF.out.2.2.1, HF.out.2.2.2]; rfl, by rw [HF.out.2.1]; exact World.ownsRow_nil _ _ _ _, Q3.out⟩
  | false =>
    have HF : Hid (XS = zSg ∧ XA = [] ∧ XF = false ∧ XE = 9) := by
      have h9 : XE = 9 := by rw [HXE.out]; rfl
      have hz : ¬ XE = 0 := by rw [h9]; decide
      exact ⟨by rw [HXS.out, if_neg hz], by rw [HXA.out, if_neg hz], by rw [HXF.out, decide_eq_false hz]; rfl, h9⟩
    clear HXE HXS HXA HXF HC2
    go_upto_region 2 with fail
    have g0 := HB2.out.cell 0 rfl
    have g1 := HB2.out.cell 1 rfl
    have g2 := HB2.out.cell 2 rfl
    have g3 := HB2.out.cell 3 rfl
    have g4 := HB2.out.cell 4 rfl
    have g5 := HB2.out.cell 5 rfl
    have g6 := HB2.out.cell 6 rfl
    have f0 := HB2.out.frozen 0
    have f1 := HB2.out.frozen 1
    have f2 := HB2.out.frozen 2
    have f3 := HB2.out.frozen 3
    have f4 := HB2.out.frozen 4
    have f5 := HB2.out.frozen 5
    have f6 := HB2.out.frozen 6
    have Q1 := hide (HB2.out.sets [.int .i64 0, .int .i64 0, .int .i64 0, .int .i64 0, .int .i64 0, .int .i64 0, .slice none 0 0] rfl)
    have Q3 := hide (below_sets (Nat.le_of_lt HQ0.out) [.int .i64 0, .int .i64 0, .int .i64 0, .int .i64 0, .int .i64 0, .int .i64 0, .slice none 0 0] 0 HD.out)
    go_wp2
    obtain ⟨W9, hW9⟩ : ∃ W9, (((((((w1.setCell ⟨q, 0, none⟩ (.int .i64 0)).setCell ⟨q, 1, none⟩ (.int .i64 0)).setCell ⟨q, 2, none⟩ (.int .i64 0)).setCell ⟨q, 3, none⟩ (.int .i64 0)).setCell ⟨q, 4, none⟩ (.int .i64 0)).setCell ⟨q, 5, none⟩ (.int .i64 0)).setCell ⟨q, 6, none⟩ (.slice none 0 0)) = W9 := ⟨_, rfl⟩
    simp only [hW9]
    rw [show World.setCells w1 q 0 [.int .i64 0, .int .i64 0, .int .i64 0, .int .i64 0, .int .i64 0, .int .i64 0, .slice none 0 0] = W9 from hW9] at Q1 Q3
    clear hW9
    have e0 := Q1.out.cell 0 rfl
    have e1 := Q1.out.cell 1 rfl
    have e2 := Q1.out.cell 2 rfl
    have e3 := Q1.out.cell 3 rfl
    have e4 := Q1.out.cell 4 rfl
    have e5 := Q1.out.cell 5 rfl
    have e6 := Q1.out.cell 6 rfl
    refine bodyPost_ret (v := .tuple #[.agg #[.int .i64 0, .int .i64 0, .int .i64 0, .int .i64 0, .int .i64 0, .int .i64 0, .slice none 0 0], .bool false, .int .i64 9]) (by simp [results, Tryz.results6, go_sem, e0, e1, e2, e3, e4, e5, e6]) rfl ?_
    exact ⟨.slice none 0 0, by rw [HF.out.1, HF.out.2.2.1, HF.out.2.2.2]; rfl, by rw [HF.out.2.1]; exact World.ownsRow_nil _ _ _ _, Q3.out⟩
end Go.Proofs.YtdbciciljeainaaGreatDoor
