/-
  The document's Ack.
-/
import Derived.Test.YtnopclacchoijaaDoorXrSend
import Derived.Test.YtnopclacchoijaaDoorXfAck
namespace Go.Proofs.YtnopclacchoijaaDoor
open Go.RowKit FerryCrc
set_option linter.unusedVariables false
set_option linter.unusedSimpArgs false

theorem xid_neqb {b r m b2 r2 m2 : Int} {y : Bool} (hy : (b2 == b && r2 == r && m2 == m) = y) (w : World) : (binOp .neq 23 (.agg #[.int .i64 b2, .int .i64 r2, .int .i64 m2]) (.agg #[.int .i64 b, .int .i64 r, .int .i64 m])).run Tryd.prog w = .ok (.bool (!y)) w := by
  cases y with
  | true =>
    simp only [Bool.and_eq_true, beq_iff_eq] at hy
    obtain ⟨⟨rfl, rfl⟩, rfl⟩ := hy
    go_simp
  | false =>
    have h : ¬ (b2 = b ∧ r2 = r ∧ m2 = m) := by
      rintro ⟨rfl, rfl, rfl⟩
      simp at hy
    exact xid_neq h w
set_option maxRecDepth 100000 in
set_option maxHeartbeats 4000000 in
theorem rack_any (pt b r m st : Int) (im : ByteArray) (rd : Int) (fa : Option Addr) (fn fc : Nat) (F : List Bool) (k pt2 b2 r2 m2 st2 ix tt2 sm : Int) (d : ByteArray) {w : World} (him : im.size ≤ 140737488351232) (hF : Fls w fa fn fc F)
    (hd : d.size ≤ 9223372036854775807) (h1 : -9223372036854775808 ≤ tt2) (h2 : tt2 ≤ 9223372036854775807) :
    Calls Tryd.prog 12 #[.agg #[.int .i64 pt, .int .i64 b, .int .i64 r, .int .i64 m, .int .i64 st, .string im, .slice fa fn fc, .int .i64 rd], .agg #[.int .i64 k, .int .i64 pt2, .int .i64 b2, .int .i64 r2, .int .i64 m2, .int .i64 st2, .int .i64 ix, .int .i64 tt2, .int .u32 sm, .string d]] w fun e w' => ∃ v, e = .returned (.tuple #[.agg ((ackS ⟨pt, b, r, m, st, im, rd⟩ fn ⟨k, pt2, b2, r2, m2, st2, ix, tt2, sm, d⟩).cells v).toArray, .bool (ackF ⟨pt, b, r, m, st, im, rd⟩ F ⟨k, pt2, b2, r2, m2, st2, ix, tt2, sm, d⟩), .int .i64 (ackE ⟨pt, b, r, m, st, im, rd⟩ fn ⟨k, pt2, b2, r2, m2, st2, ix, tt2, sm, d⟩ : Int)]) ∧ FlOwn w' w.heap.size v (ackA ⟨pt, b, r, m, st, im, rd⟩ F ⟨k, pt2, b2, r2, m2, st2, ix, tt2, sm, d⟩) ∧ Below w.heap.size w w' := by
  have hFs := hF.size
  obtain ⟨N, hN⟩ : ∃ N : Nt, N = ⟨k, pt2, b2, r2, m2, st2, ix, tt2, sm, d⟩ := ⟨_, rfl⟩
  obtain ⟨SS, hSS⟩ : ∃ X : Sd, X = ⟨pt, b, r, m, st, im, rd⟩ := ⟨_, rfl⟩
  have HC1 := hide (fun (w' : World) => rgood_any (w := w') SS fa fn fc (by rw [hSS]; exact him))
  have HC5 := hide (fun (w' : World) (h : Fls w' fa fn fc F) (h2 : fn ≤ 140737488351232) => rcopied_any SS fa fn fc F h h2)
  have hcs : ∀ v, (SS.cells v).toArray = #[.int .i64 pt, .int .i64 b, .int .i64 r, .int .i64 m, .int .i64 st, .string im, v, .int .i64 rd] := fun v => by rw [hSS]; rfl
  rw [hcs] at HC1
  simp only [hcs] at HC5
  have HC2 := hide (fun (w' : World) => rcheck_any k pt2 b2 r2 m2 st2 ix tt2 sm d w' hd h1 h2)
  rw [← hN] at HC2 ⊢
  rw [← hSS]
  have HXE0 : Hid (ackE SS fn N = if pieE SS fn = 0 then (if chk N = 0 then (if k = 7 then (if sameSd SS fn N = true then 0 else 10) else 7) else chk N) else 9) := by unfold Hid ackE; rw [show N.kind = k by rw [hN]]
  have HSM : Hid (sameSd SS fn N = (pt2 == pt && (b2 == b && r2 == r && m2 == m) && st2 == st && tt2 == (fn : Int))) := by rw [hSS, hN]; rfl
  have HFN : Hid (pieE SS fn = 0 → fn ≤ 32) := fun h => pieE_fn h
  have HXS0 : Hid (ackS SS fn N = if ackE SS fn N = 0 then SS else zSd) := rfl
  have HXA0 : Hid (ackA SS F N = if ackE SS fn N = 0 then F.set ix.toNat true else []) := by unfold Hid ackA; rw [hFs, show N.index = ix by rw [hN]]
  have HXF0 : Hid (ackF SS F N = (decide (ackE SS fn N = 0) && !((F[ix.toNat]?).getD false))) := by unfold Hid ackF; rw [hFs, show N.index = ix by rw [hN]]
  have HCA : Hid (chk N = 0 → k = 7 → 1 ≤ tt2 ∧ tt2 ≤ 32 ∧ 0 ≤ ix ∧ ix < tt2) := fun h h7 => by
    have := chk_ack h (by rw [hN]; exact h7)
    rw [hN] at this
    exact this
  obtain ⟨XE, e1⟩ : ∃ X, ackE SS fn N = X := ⟨_, rfl⟩
  obtain ⟨XS, e2⟩ : ∃ X, ackS SS fn N = X := ⟨_, rfl⟩
  obtain ⟨XA, e3⟩ : ∃ X, ackA SS F N = X := ⟨_, rfl⟩
  obtain ⟨XF, e4⟩ : ∃ X, ackF SS F N = X := ⟨_, rfl⟩
  rw [e1] at HXE0 HXS0 HXA0 HXF0 ⊢
  rw [e2] at HXS0 ⊢
  rw [e3] at HXA0 ⊢
  rw [e4] at HXF0 ⊢
  obtain ⟨C, hC⟩ : ∃ C, chk N = C := ⟨_, rfl⟩
  obtain ⟨P, hP⟩ : ∃ P, pieE SS fn = P := ⟨_, rfl⟩
  obtain ⟨Y, hY⟩ : ∃ Y, sameSd SS fn N = Y := ⟨_, rfl⟩
  rw [hC] at HXE0 HC2 HCA
  rw [hP] at HXE0 HC1 HFN
  rw [hY] at HXE0 HSM
  have HXE := HXE0
  have HXS := HXS0
  have HXA := HXA0
  have HXF := HXF0
  have HSS := hide hSS
  clear HXE0 HXS0 HXA0 HXF0 e1 e2 e3 e4 hN hSS hcs him hd h1 h2 hC hP hY
  obtain ⟨W, hW, B0, B1, B2, D0⟩ := box3 w [.int .i64 pt, .int .i64 b, .int .i64 r, .int .i64 m, .int .i64 st, .string im, .slice fa fn fc, .int .i64 rd] 26 [.int .i64 k, .int .i64 pt2, .int .i64 b2, .int .i64 r2, .int .i64 m2, .int .i64 st2, .int .i64 ix, .int .i64 tt2, .int .u32 sm, .string d] 34 [.int .i64 0, .int .i64 0, .int .i64 0, .int .i64 0, .int .i64 0, .string ⟨#[]⟩, .slice none 0 0, .int .i64 0] 26
  obtain ⟨p, hp⟩ : ∃ p, w.heap.size + 1 = p := ⟨_, rfl⟩
  obtain ⟨q, hq⟩ : ∃ q, w.heap.size + 2 = q := ⟨_, rfl⟩
  have HNE : Hid (w.heap.size ≠ p ∧ w.heap.size ≠ q ∧ p ≠ q) := by unfold Hid; omega
  have HQ0 : Hid (w.heap.size < q) := by unfold Hid; omega
  have HPQ : Hid (w.heap.size + 1 = p ∧ p + 1 = q) := by unfold Hid; omega
  rw [hp] at B1
  rw [hq] at B2
  have HB0 := hide B0
  have HB1 := hide B1
  have HB2 := hide B2
  have HD := hide D0
  have HWD := hide hW
  have HF1 := hide (hF.below D0)
  clear B0 B1 B2 D0 hW hF hp hq
  go_enter Tryd.func12, Tryd.ntmps12
  go_upto_region 1 with fail
  have hW := HWD.out
  obtain ⟨hp, hq⟩ := HPQ.out
  clear HWD HPQ
  simp only [hW, hp, hq]
  clear hW hp hq
  have g0 := HB0.out.cell 0 rfl
  have g1 := HB0.out.cell 1 rfl
  have g2 := HB0.out.cell 2 rfl
  have g3 := HB0.out.cell 3 rfl
  have g4 := HB0.out.cell 4 rfl
  have g5 := HB0.out.cell 5 rfl
  have g6 := HB0.out.cell 6 rfl
  have g7 := HB0.out.cell 7 rfl
  go_wp2_with fail
  refine Calls.mono (HC1.out W) ?_
  rintro e w1 ⟨rfl, b1⟩
  replace HB0 := hide (HB0.out.below b1)
  replace HB1 := hide (HB1.out.below b1)
  replace HB2 := hide (HB2.out.below b1)
  replace HF1 := hide (HF1.out.below b1)
  replace HD := hide (chain HD.out b1)
  clear b1 HC1 g0 g1 g2 g3 g4 g5 g6 g7
  by_cases hg : P = 0
  · rw [decide_eq_true hg]
    have hfn := HFN.out hg
    have g0 := HB1.out.cell 0 rfl
    have g1 := HB1.out.cell 1 rfl
    have g2 := HB1.out.cell 2 rfl
    have g3 := HB1.out.cell 3 rfl
    have g4 := HB1.out.cell 4 rfl
    have g5 := HB1.out.cell 5 rfl
    have g6 := HB1.out.cell 6 rfl
    have g7 := HB1.out.cell 7 rfl
    have g8 := HB1.out.cell 8 rfl
    have g9 := HB1.out.cell 9 rfl
    go_upto_region 3 with fail
    go_wp2_with fail
    refine Calls.mono (HC2.out w1) ?_
    rintro e w2 ⟨rfl, b1⟩
    replace HB0 := hide (HB0.out.below b1)
    replace HB1 := hide (HB1.out.below b1)
    replace HB2 := hide (HB2.out.below b1)
    replace HF1 := hide (HF1.out.below b1)
    replace HD := hide (chain HD.out b1)
    clear b1 HC2 g0 g1 g2 g3 g4 g5 g6 g7 g8 g9
    by_cases hc : C = 0
    · have g0 := HB1.out.cell 0 rfl
      by_cases hk : k = 7
      · obtain ⟨t1, t2, i1, i2⟩ := HCA.out hc hk
        subst hk
        subst hc
        obtain ⟨i, rfl⟩ : ∃ i : Nat, ix = (i : Int) := ⟨ix.toNat, by omega⟩
        have HXE2 : Hid (XE = if Y = true then 0 else 10) := by unfold Hid; rw [HXE.out, if_pos hg, if_pos rfl, if_pos rfl]
        clear hg HCA HFN
        go_upto_region 8 with fail
        clear g0
        go_cut [49] from 23 to 49 (fun v wz => v = .bool (!Y) ∧ wz = w2)
        case first =>
          have g0 := HB0.out.cell 0 rfl
          have g1 := HB0.out.cell 1 rfl
          have g2 := HB0.out.cell 2 rfl
          have g3 := HB0.out.cell 3 rfl
          have g4 := HB0.out.cell 4 rfl
          have g5 := HB0.out.cell 5 rfl
          have g6 := HB0.out.cell 6 rfl
          have g7 := HB0.out.cell 7 rfl
          have n0 := HB1.out.cell 0 rfl
          have n1 := HB1.out.cell 1 rfl
          have n2 := HB1.out.cell 2 rfl
          have n3 := HB1.out.cell 3 rfl
          have n4 := HB1.out.cell 4 rfl
          have n5 := HB1.out.cell 5 rfl
          have n6 := HB1.out.cell 6 rfl
          have n7 := HB1.out.cell 7 rfl
          have n8 := HB1.out.cell 8 rfl
          have n9 := HB1.out.cell 9 rfl
          obtain ⟨YX, hYX⟩ : ∃ YX, (b2 == b && r2 == r && m2 == m) = YX := ⟨_, rfl⟩
          have HQ := xid_neqb hYX
          have HY : Hid (Y = (pt2 == pt && YX && st2 == st && tt2 == (fn : Int))) := by rw [← hYX]; exact HSM.out
          have hgt : Tryd.prog.eqGuardType Tryd.prog.depth 23 = false := by kernel_rfl
          clear hYX HXE HXE2 HXS HXA HXF HSM t1 t2 i1 i2 HC5
          by_cases a1 : pt2 = pt
          · have f1 : (pt2 != pt) = false := by simpa using a1
            have f1' : (pt2 == pt) = true := by simpa using a1
            cases YX with
            | true =>
              by_cases a3 : st2 = st
              · have f3 : (st2 != st) = false := by simpa using a3
                have f3' : (st2 == st) = true := by simpa using a3
                by_cases a4 : tt2 = (fn : Int)
                · have f4 : (tt2 != (fn : Int)) = false := by simpa using a4
                  have f4' : (tt2 == (fn : Int)) = true := by simpa using a4
                  have hy : Y = true := by rw [HY.out, f1', f3', f4']; rfl
                  subst hy
                  clear a1 a3 a4 HY
                  go_wp2_with fail
                  go_meet
                  case rel => exact ⟨rfl, rfl⟩
                · have f4 : (tt2 != (fn : Int)) = true := by simpa using a4
                  have f4' : (tt2 == (fn : Int)) = false := by simpa using a4
                  have hy : Y = false := by rw [HY.out, f4']; simp
                  subst hy
                  clear a1 a3 a4 HY
                  go_wp2_with fail
                  go_meet
                  case rel => exact ⟨rfl, rfl⟩
              · have f3 : (st2 != st) = true := by simpa using a3
                have f3' : (st2 == st) = false := by simpa using a3
                have hy : Y = false := by rw [HY.out, f3']; simp
                subst hy
                clear a1 a3 HY
                go_wp2_with fail
                go_meet
                case rel => exact ⟨rfl, rfl⟩
            | false =>
              have hy : Y = false := by rw [HY.out]; simp
              subst hy
              clear a1 HY
              go_wp2_with fail
              go_meet
              case rel => exact ⟨rfl, rfl⟩
          · have f1 : (pt2 != pt) = true := by simpa using a1
            have f1' : (pt2 == pt) = false := by simpa using a1
            have hy : Y = false := by rw [HY.out, f1']; rfl
            subst hy
            clear a1 HY
            go_wp2_with fail
            go_meet
            case rel => exact ⟨rfl, rfl⟩
        case rest =>
          obtain ⟨rfl, rfl⟩ := hcut
          obtain ⟨w8, hw8⟩ : ∃ z, z = wc := ⟨_, rfl⟩
          subst hw8
          cases Y with
          | false =>
            have HF : Hid (XS = zSd ∧ XA = [] ∧ XF = false ∧ XE = 10) := by
              have h9 : XE = 10 := by rw [HXE2.out]; rfl
              have hz : ¬ XE = 0 := by rw [h9]; decide
              exact ⟨by rw [HXS.out, if_neg hz], by rw [HXA.out, if_neg hz], by rw [HXF.out, decide_eq_false hz]; rfl, h9⟩
            clear t1 t2 i1 i2 HXE2 HXE HXS HXA HXF HC5
            go_upto_region 9 with fail
            have g0 := HB2.out.cell 0 rfl
            have g1 := HB2.out.cell 1 rfl
            have g2 := HB2.out.cell 2 rfl
            have g3 := HB2.out.cell 3 rfl
            have g4 := HB2.out.cell 4 rfl
            have g5 := HB2.out.cell 5 rfl
            have g6 := HB2.out.cell 6 rfl
            have g7 := HB2.out.cell 7 rfl
            have f0 := HB2.out.frozen 0
            have f1 := HB2.out.frozen 1
            have f2 := HB2.out.frozen 2
            have f3 := HB2.out.frozen 3
            have f4 := HB2.out.frozen 4
            have f5 := HB2.out.frozen 5
            have f6 := HB2.out.frozen 6
            have f7 := HB2.out.frozen 7
            have Q1 := hide (HB2.out.sets [.int .i64 0, .int .i64 0, .int .i64 0, .int .i64 0, .int .i64 0, .string ⟨#[]⟩, .slice none 0 0, .int .i64 0] rfl)
            have Q3 := hide (below_sets (Nat.le_of_lt HQ0.out) [.int .i64 0, .int .i64 0, .int .i64 0, .int .i64 0, .int .i64 0, .string ⟨#[]⟩, .slice none 0 0, .int .i64 0] 0 HD.out)
            go_wp2
            obtain ⟨W9, hW9⟩ : ∃ W9, ((((((((w8.setCell ⟨q, 0, none⟩ (.int .i64 0)).setCell ⟨q, 1, none⟩ (.int .i64 0)).setCell ⟨q, 2, none⟩ (.int .i64 0)).setCell ⟨q, 3, none⟩ (.int .i64 0)).setCell ⟨q, 4, none⟩ (.int .i64 0)).setCell ⟨q, 5, none⟩ (.string ⟨#[]⟩)).setCell ⟨q, 6, none⟩ (.slice none 0 0)).setCell ⟨q, 7, none⟩ (.int .i64 0)) = W9 := ⟨_, rfl⟩
            simp only [hW9]
            rw [show World.setCells w8 q 0 [.int .i64 0, .int .i64 0, .int .i64 0, .int .i64 0, .int .i64 0, .string ⟨#[]⟩, .slice none 0 0, .int .i64 0] = W9 from hW9] at Q1 Q3
            clear hW9
            have e0 := Q1.out.cell 0 rfl
            have e1 := Q1.out.cell 1 rfl
            have e2 := Q1.out.cell 2 rfl
            have e3 := Q1.out.cell 3 rfl
            have e4 := Q1.out.cell 4 rfl
            have e5 := Q1.out.cell 5 rfl
            have e6 := Q1.out.cell 6 rfl
            have e7 := Q1.out.cell 7 rfl
            refine bodyPost_ret (v := .tuple #[.agg #[.int .i64 0, .int .i64 0, .int .i64 0, .int .i64 0, .int .i64 0, .string ⟨#[]⟩, .slice none 0 0, .int .i64 0], .bool false, .int .i64 10]) (by simp [results, Tryd.results12, go_sem, e0, e1, e2, e3, e4, e5, e6, e7]) rfl ?_
            exact ⟨.slice none 0 0, by rw [HF.out.1, HF.out.2.2.1, HF.out.2.2.2]; rfl, by rw [HF.out.2.1]; exact World.ownsRow_nil _ _ _ _, Q3.out⟩
          | true =>
            have htf : tt2 = (fn : Int) := by
              have := HSM.out.symm
              simp only [Bool.and_eq_true, beq_iff_eq] at this
              exact this.2
            have hin : i < fn := by omega
            obtain ⟨x, hx⟩ : ∃ x, F[i]? = some x := ⟨_, List.getElem?_eq_getElem (by omega)⟩
            have HF : Hid (XS = SS ∧ XA = F.set i true ∧ XF = (!x) ∧ XE = 0) := by
              have h9 : XE = 0 := by rw [HXE2.out]; rfl
              refine ⟨?_, ?_, ?_, h9⟩
              · rw [HXS.out, h9]; exact if_pos rfl
              · rw [HXA.out, h9]; exact if_pos rfl
              · rw [HXF.out, h9, Int.toNat_natCast, hx]; rfl
            have HX := hide hx
            clear hx HXS HXA HXF HXE HXE2 HSM htf t1 t2 i1 i2
            have g0 := HB0.out.cell 0 rfl
            have g1 := HB0.out.cell 1 rfl
            have g2 := HB0.out.cell 2 rfl
            have g3 := HB0.out.cell 3 rfl
            have g4 := HB0.out.cell 4 rfl
            have g5 := HB0.out.cell 5 rfl
            have g6 := HB0.out.cell 6 rfl
            have g7 := HB0.out.cell 7 rfl
            go_upto_region 10 with fail
            go_wp2_with fail
            refine Calls.mono (HC5.out _ HF1.out (by omega)) ?_
            rintro e w4 ⟨va, cv, rfl, o4, b4⟩
            obtain ⟨gv, cv', hfm, hgv⟩ := o4.form (by rw [hFs]; omega)
            rw [hFs] at hfm
            obtain ⟨rfl, rfl⟩ : va = some ⟨gv, 0, none⟩ ∧ cv' = cv := by
              injection hfm with a1 a2 a3
              exact ⟨a1, a3.symm⟩
            clear hfm
            have hlt0 := HB0.out.lt
            have hlt1 := HB1.out.lt
            have hlt2 := HB2.out.lt
            have HGV : Hid (w.heap.size ≠ gv ∧ p ≠ gv ∧ q ≠ gv ∧ w.heap.size ≤ gv) := ⟨by omega, by omega, by omega, by omega⟩
            replace HB0 := hide (HB0.out.below b4)
            replace HB1 := hide (HB1.out.below b4)
            replace HB2 := hide (HB2.out.below b4)
            have HWZ := hide HD.out.size
            replace HD := hide (chain HD.out b4)
            have HO := hide o4
            clear o4 b4 hgv hlt0 hlt1 hlt2 HC5 HF1 g0 g1 g2 g3 g4 g5 g6 g7
            have hne0 : (Value.slice (some ⟨gv, 0, none⟩) fn cv').ownBlock ≠ some w.heap.size := by
              intro h2
              exact HGV.out.1 (by simpa [Value.ownBlock] using h2.symm)
            have c0 := HB0.out.cell 0 rfl
            have c1 := HB0.out.cell 1 rfl
            have c2 := HB0.out.cell 2 rfl
            have c3 := HB0.out.cell 3 rfl
            have c4 := HB0.out.cell 4 rfl
            have c5 := HB0.out.cell 5 rfl
            have c6 := HB0.out.cell 6 rfl
            have c7 := HB0.out.cell 7 rfl
            have z0 := HB0.out.frozen 0
            have z1 := HB0.out.frozen 1
            have z2 := HB0.out.frozen 2
            have z3 := HB0.out.frozen 3
            have z4 := HB0.out.frozen 4
            have z5 := HB0.out.frozen 5
            have z6 := HB0.out.frozen 6
            have z7 := HB0.out.frozen 7
            have KO := hide (LOwn.fars hne0 [.int .i64 pt, .int .i64 b, .int .i64 r, .int .i64 m, .int .i64 st, .string im, .slice (some ⟨gv, 0, none⟩) fn cv', .int .i64 rd] 0 HO.out)
            have K0 := hide (HB0.out.sets [.int .i64 pt, .int .i64 b, .int .i64 r, .int .i64 m, .int .i64 st, .string im, .slice (some ⟨gv, 0, none⟩) fn cv', .int .i64 rd] rfl)
            have K1 := hide (Bk.others (Ne.symm HNE.out.1) [.int .i64 pt, .int .i64 b, .int .i64 r, .int .i64 m, .int .i64 st, .string im, .slice (some ⟨gv, 0, none⟩) fn cv', .int .i64 rd] 0 HB1.out)
            have K2 := hide (Bk.others (Ne.symm HNE.out.2.1) [.int .i64 pt, .int .i64 b, .int .i64 r, .int .i64 m, .int .i64 st, .string im, .slice (some ⟨gv, 0, none⟩) fn cv', .int .i64 rd] 0 HB2.out)
            have KD := hide (below_sets (Nat.le_refl _) [.int .i64 pt, .int .i64 b, .int .i64 r, .int .i64 m, .int .i64 st, .string im, .slice (some ⟨gv, 0, none⟩) fn cv', .int .i64 rd] 0 HD.out)
            clear hne0
            go_upto_region 11 with fail
            obtain ⟨W5, hW5⟩ : ∃ W5, ((((((((w4.setCell ⟨w.heap.size, 0, none⟩ (.int .i64 pt)).setCell ⟨w.heap.size, 1, none⟩ (.int .i64 b)).setCell ⟨w.heap.size, 2, none⟩ (.int .i64 r)).setCell ⟨w.heap.size, 3, none⟩ (.int .i64 m)).setCell ⟨w.heap.size, 4, none⟩ (.int .i64 st)).setCell ⟨w.heap.size, 5, none⟩ (.string im)).setCell ⟨w.heap.size, 6, none⟩ (.slice (some ⟨gv, 0, none⟩) fn cv')).setCell ⟨w.heap.size, 7, none⟩ (.int .i64 rd)) = W5 := ⟨_, rfl⟩
            simp only [hW5]
            rw [show World.setCells w4 w.heap.size 0 [.int .i64 pt, .int .i64 b, .int .i64 r, .int .i64 m, .int .i64 st, .string im, .slice (some ⟨gv, 0, none⟩) fn cv', .int .i64 rd] = W5 from hW5] at KO K0 K1 K2 KD
            clear hW5 c0 c1 c2 c3 c4 c5 c6 c7 z0 z1 z2 z3 z4 z5 z6 z7 HB0 HB1 HB2 HD HO
            have h6 := K0.out.cell 6 rfl
            have n6 := K1.out.cell 6 rfl
            have hi1 : ¬ (i : Int) < 0 := by omega
            have hi2 : (i : Int) < (fn : Int) := by omega
            obtain ⟨z1, z2, z3, z4, z5⟩ := KO.out.put bvl1 hFs hin true
            obtain ⟨⟨u0, y0⟩, x0⟩ := z1 0 (by decide)
            simp only [Nat.mul_one, Nat.add_zero] at y0 x0
            rw [Nat.mul_one] at z2 z3
            obtain ⟨ra, rc, hre, hrr⟩ := KO.out.rcs
            obtain ⟨rb, ro, hrb, hrc⟩ := hrr.at bvl1 (by decide) HX.out
            have hrx : ra = some ⟨gv, 0, none⟩ := by injection hre with a1 a2 a3; exact a1.symm
            rw [hrx] at hrb
            injection hrb with hrb
            injection hrb with hb1 hb2
            subst hb1
            subst hb2
            have y1 := hrc 0 _ rfl
            simp only [Nat.mul_one, Nat.add_zero, Nat.zero_add] at y1
            rw [y1] at y0
            obtain rfl : u0 = .bool x := by injection y0 with y0; exact y0.symm
            clear y0 hre hrr hrc hrx
            have M2 := hide (show FlOwn (W5.setCell ⟨gv, i, none⟩ (.bool true)) _ (.slice (some ⟨gv, 0, none⟩) fn cv') (F.set i true) from z2)
            have M0 := hide (K0.out.other ⟨gv, i, none⟩ (.bool true) HGV.out.1)
            have MQ := hide (K2.out.other ⟨gv, i, none⟩ (.bool true) HGV.out.2.2.1)
            have MD := hide (KD.out.setCell (p := ⟨gv, i, none⟩) HGV.out.2.2.2 (.bool true))
            clear z1 z2 z3 z4 z5 KO K0 K1 K2 KD
            go_upto_region 13 with fail
            obtain ⟨W6, hW6⟩ : ∃ W6, W5.setCell ⟨gv, i, none⟩ (.bool true) = W6 := ⟨_, rfl⟩
            rw [hW6] at M2 M0 MQ MD
            simp only [hW6]
            clear hW6 h6 n6 y1 x0
            have hneq : (Value.slice (some ⟨gv, 0, none⟩) fn cv').ownBlock ≠ some q := by
              intro h2
              exact HGV.out.2.2.1 (by simpa [Value.ownBlock] using h2.symm)
            have c0 := M0.out.cell 0 rfl
            have c1 := M0.out.cell 1 rfl
            have c2 := M0.out.cell 2 rfl
            have c3 := M0.out.cell 3 rfl
            have c4 := M0.out.cell 4 rfl
            have c5 := M0.out.cell 5 rfl
            have c6 := M0.out.cell 6 rfl
            have c7 := M0.out.cell 7 rfl
            have g0 := MQ.out.cell 0 rfl
            have g1 := MQ.out.cell 1 rfl
            have g2 := MQ.out.cell 2 rfl
            have g3 := MQ.out.cell 3 rfl
            have g4 := MQ.out.cell 4 rfl
            have g5 := MQ.out.cell 5 rfl
            have g6 := MQ.out.cell 6 rfl
            have g7 := MQ.out.cell 7 rfl
            have f0 := MQ.out.frozen 0
            have f1 := MQ.out.frozen 1
            have f2 := MQ.out.frozen 2
            have f3 := MQ.out.frozen 3
            have f4 := MQ.out.frozen 4
            have f5 := MQ.out.frozen 5
            have f6 := MQ.out.frozen 6
            have f7 := MQ.out.frozen 7
            have Q1 := hide (MQ.out.sets [.int .i64 pt, .int .i64 b, .int .i64 r, .int .i64 m, .int .i64 st, .string im, .slice (some ⟨gv, 0, none⟩) fn cv', .int .i64 rd] rfl)
            have Q3 := hide (below_sets (Nat.le_of_lt HQ0.out) [.int .i64 pt, .int .i64 b, .int .i64 r, .int .i64 m, .int .i64 st, .string im, .slice (some ⟨gv, 0, none⟩) fn cv', .int .i64 rd] 0 MD.out)
            have Q2 := hide (LOwn.fars hneq [.int .i64 pt, .int .i64 b, .int .i64 r, .int .i64 m, .int .i64 st, .string im, .slice (some ⟨gv, 0, none⟩) fn cv', .int .i64 rd] 0 M2.out)
            go_wp2
            obtain ⟨W9, hW9⟩ : ∃ W9, ((((((((W6.setCell ⟨q, 0, none⟩ (.int .i64 pt)).setCell ⟨q, 1, none⟩ (.int .i64 b)).setCell ⟨q, 2, none⟩ (.int .i64 r)).setCell ⟨q, 3, none⟩ (.int .i64 m)).setCell ⟨q, 4, none⟩ (.int .i64 st)).setCell ⟨q, 5, none⟩ (.string im)).setCell ⟨q, 6, none⟩ (.slice (some ⟨gv, 0, none⟩) fn cv')).setCell ⟨q, 7, none⟩ (.int .i64 rd)) = W9 := ⟨_, rfl⟩
            simp only [hW9]
            rw [show World.setCells W6 q 0 [.int .i64 pt, .int .i64 b, .int .i64 r, .int .i64 m, .int .i64 st, .string im, .slice (some ⟨gv, 0, none⟩) fn cv', .int .i64 rd] = W9 from hW9] at Q1 Q3 Q2
            clear hW9
            have e0 := Q1.out.cell 0 rfl
            have e1 := Q1.out.cell 1 rfl
            have e2 := Q1.out.cell 2 rfl
            have e3 := Q1.out.cell 3 rfl
            have e4 := Q1.out.cell 4 rfl
            have e5 := Q1.out.cell 5 rfl
            have e6 := Q1.out.cell 6 rfl
            have e7 := Q1.out.cell 7 rfl
            refine bodyPost_ret (v := .tuple #[.agg #[.int .i64 pt, .int .i64 b, .int .i64 r, .int .i64 m, .int .i64 st, .string im, .slice (some ⟨gv, 0, none⟩) fn cv', .int .i64 rd], .bool (!x), .int .i64 0]) (by simp [results, Tryd.results12, go_sem, e0, e1, e2, e3, e4, e5, e6, e7]) rfl ?_
            exact ⟨.slice (some ⟨gv, 0, none⟩) fn cv', by rw [HF.out.1, HF.out.2.2.1, HF.out.2.2.2, HSS.out]; rfl, by rw [HF.out.2.1]; exact Q2.out.weaken HWZ.out, Q3.out⟩
      · --
        have HF : Hid (XS = zSd ∧ XA = [] ∧ XF = false ∧ XE = 7) := by
          have h9 : XE = 7 := by rw [HXE.out, if_pos hg, if_pos hc, if_neg hk]
          have hz : ¬ XE = 0 := by rw [h9]; decide
          exact ⟨by rw [HXS.out, if_neg hz], by rw [HXA.out, if_neg hz], by rw [HXF.out, decide_eq_false hz]; rfl, h9⟩
        have d1 : (k == 7) = false := by simpa using hk
        have d2 : (k != 7) = true := by simpa using hk
        subst hc
        clear hk HXE HXS HXA HXF HC5
        go_upto_region 7 with fail
        clear g0
        have g0 := HB2.out.cell 0 rfl
        have g1 := HB2.out.cell 1 rfl
        have g2 := HB2.out.cell 2 rfl
        have g3 := HB2.out.cell 3 rfl
        have g4 := HB2.out.cell 4 rfl
        have g5 := HB2.out.cell 5 rfl
        have g6 := HB2.out.cell 6 rfl
        have g7 := HB2.out.cell 7 rfl
        have f0 := HB2.out.frozen 0
        have f1 := HB2.out.frozen 1
        have f2 := HB2.out.frozen 2
        have f3 := HB2.out.frozen 3
        have f4 := HB2.out.frozen 4
        have f5 := HB2.out.frozen 5
        have f6 := HB2.out.frozen 6
        have f7 := HB2.out.frozen 7
        have Q1 := hide (HB2.out.sets [.int .i64 0, .int .i64 0, .int .i64 0, .int .i64 0, .int .i64 0, .string ⟨#[]⟩, .slice none 0 0, .int .i64 0] rfl)
        have Q3 := hide (below_sets (Nat.le_of_lt HQ0.out) [.int .i64 0, .int .i64 0, .int .i64 0, .int .i64 0, .int .i64 0, .string ⟨#[]⟩, .slice none 0 0, .int .i64 0] 0 HD.out)
        go_wp2
        obtain ⟨W9, hW9⟩ : ∃ W9, ((((((((w2.setCell ⟨q, 0, none⟩ (.int .i64 0)).setCell ⟨q, 1, none⟩ (.int .i64 0)).setCell ⟨q, 2, none⟩ (.int .i64 0)).setCell ⟨q, 3, none⟩ (.int .i64 0)).setCell ⟨q, 4, none⟩ (.int .i64 0)).setCell ⟨q, 5, none⟩ (.string ⟨#[]⟩)).setCell ⟨q, 6, none⟩ (.slice none 0 0)).setCell ⟨q, 7, none⟩ (.int .i64 0)) = W9 := ⟨_, rfl⟩
        simp only [hW9]
        rw [show World.setCells w2 q 0 [.int .i64 0, .int .i64 0, .int .i64 0, .int .i64 0, .int .i64 0, .string ⟨#[]⟩, .slice none 0 0, .int .i64 0] = W9 from hW9] at Q1 Q3
        clear hW9
        have e0 := Q1.out.cell 0 rfl
        have e1 := Q1.out.cell 1 rfl
        have e2 := Q1.out.cell 2 rfl
        have e3 := Q1.out.cell 3 rfl
        have e4 := Q1.out.cell 4 rfl
        have e5 := Q1.out.cell 5 rfl
        have e6 := Q1.out.cell 6 rfl
        have e7 := Q1.out.cell 7 rfl
        refine bodyPost_ret (v := .tuple #[.agg #[.int .i64 0, .int .i64 0, .int .i64 0, .int .i64 0, .int .i64 0, .string ⟨#[]⟩, .slice none 0 0, .int .i64 0], .bool false, .int .i64 7]) (by simp [results, Tryd.results12, go_sem, e0, e1, e2, e3, e4, e5, e6, e7]) rfl ?_
        exact ⟨.slice none 0 0, by rw [HF.out.1, HF.out.2.2.1, HF.out.2.2.2]; rfl, by rw [HF.out.2.1]; exact World.ownsRow_nil _ _ _ _, Q3.out⟩
    · --
      have HF : Hid (XS = zSd ∧ XA = [] ∧ XF = false ∧ XE = C) := by
        have h9 : XE = C := by rw [HXE.out, if_pos hg, if_neg hc]
        have hz : ¬ XE = 0 := by rw [h9]; assumption
        exact ⟨by rw [HXS.out, if_neg hz], by rw [HXA.out, if_neg hz], by rw [HXF.out, decide_eq_false hz]; rfl, h9⟩
      have c1 : ((C : Int) == 0) = false := by simp; omega
      have c2 : ((C : Int) != 0) = true := by simp; omega
      clear HXE HXS HXA HXF HC5
      go_upto_region 5 with fail
      have g0 := HB2.out.cell 0 rfl
      have g1 := HB2.out.cell 1 rfl
      have g2 := HB2.out.cell 2 rfl
      have g3 := HB2.out.cell 3 rfl
      have g4 := HB2.out.cell 4 rfl
      have g5 := HB2.out.cell 5 rfl
      have g6 := HB2.out.cell 6 rfl
      have g7 := HB2.out.cell 7 rfl
      have f0 := HB2.out.frozen 0
      have f1 := HB2.out.frozen 1
      have f2 := HB2.out.frozen 2
      have f3 := HB2.out.frozen 3
      have f4 := HB2.out.frozen 4
      have f5 := HB2.out.frozen 5
      have f6 := HB2.out.frozen 6
      have f7 := HB2.out.frozen 7
      have Q1 := hide (HB2.out.sets [.int .i64 0, .int .i64 0, .int .i64 0, .int .i64 0, .int .i64 0, .string ⟨#[]⟩, .slice none 0 0, .int .i64 0] rfl)
      have Q3 := hide (below_sets (Nat.le_of_lt HQ0.out) [.int .i64 0, .int .i64 0, .int .i64 0, .int .i64 0, .int .i64 0, .string ⟨#[]⟩, .slice none 0 0, .int .i64 0] 0 HD.out)
      go_wp2
      obtain ⟨W9, hW9⟩ : ∃ W9, ((((((((w2.setCell ⟨q, 0, none⟩ (.int .i64 0)).setCell ⟨q, 1, none⟩ (.int .i64 0)).setCell ⟨q, 2, none⟩ (.int .i64 0)).setCell ⟨q, 3, none⟩ (.int .i64 0)).setCell ⟨q, 4, none⟩ (.int .i64 0)).setCell ⟨q, 5, none⟩ (.string ⟨#[]⟩)).setCell ⟨q, 6, none⟩ (.slice none 0 0)).setCell ⟨q, 7, none⟩ (.int .i64 0)) = W9 := ⟨_, rfl⟩
      simp only [hW9]
      rw [show World.setCells w2 q 0 [.int .i64 0, .int .i64 0, .int .i64 0, .int .i64 0, .int .i64 0, .string ⟨#[]⟩, .slice none 0 0, .int .i64 0] = W9 from hW9] at Q1 Q3
      clear hW9
      have e0 := Q1.out.cell 0 rfl
      have e1 := Q1.out.cell 1 rfl
      have e2 := Q1.out.cell 2 rfl
      have e3 := Q1.out.cell 3 rfl
      have e4 := Q1.out.cell 4 rfl
      have e5 := Q1.out.cell 5 rfl
      have e6 := Q1.out.cell 6 rfl
      have e7 := Q1.out.cell 7 rfl
      refine bodyPost_ret (v := .tuple #[.agg #[.int .i64 0, .int .i64 0, .int .i64 0, .int .i64 0, .int .i64 0, .string ⟨#[]⟩, .slice none 0 0, .int .i64 0], .bool false, .int .i64 (C : Int)]) (by simp [results, Tryd.results12, go_sem, e0, e1, e2, e3, e4, e5, e6, e7]) rfl ?_
      exact ⟨.slice none 0 0, by rw [HF.out.1, HF.out.2.2.1, HF.out.2.2.2]; rfl, by rw [HF.out.2.1]; exact World.ownsRow_nil _ _ _ _, Q3.out⟩
  · --
    have HF : Hid (XS = zSd ∧ XA = [] ∧ XF = false ∧ XE = 9) := by
      have h9 : XE = 9 := by rw [HXE.out, if_neg hg]
      have hz : ¬ XE = 0 := by rw [h9]; decide
      exact ⟨by rw [HXS.out, if_neg hz], by rw [HXA.out, if_neg hz], by rw [HXF.out, decide_eq_false hz]; rfl, h9⟩
    rw [decide_eq_false hg]
    clear hg HXE HXS HXA HXF HC5 HC2
    go_upto_region 2 with fail
    have g0 := HB2.out.cell 0 rfl
    have g1 := HB2.out.cell 1 rfl
    have g2 := HB2.out.cell 2 rfl
    have g3 := HB2.out.cell 3 rfl
    have g4 := HB2.out.cell 4 rfl
    have g5 := HB2.out.cell 5 rfl
    have g6 := HB2.out.cell 6 rfl
    have g7 := HB2.out.cell 7 rfl
    have f0 := HB2.out.frozen 0
    have f1 := HB2.out.frozen 1
    have f2 := HB2.out.frozen 2
    have f3 := HB2.out.frozen 3
    have f4 := HB2.out.frozen 4
    have f5 := HB2.out.frozen 5
    have f6 := HB2.out.frozen 6
    have f7 := HB2.out.frozen 7
    have Q1 := hide (HB2.out.sets [.int .i64 0, .int .i64 0, .int .i64 0, .int .i64 0, .int .i64 0, .string ⟨#[]⟩, .slice none 0 0, .int .i64 0] rfl)
    have Q3 := hide (below_sets (Nat.le_of_lt HQ0.out) [.int .i64 0, .int .i64 0, .int .i64 0, .int .i64 0, .int .i64 0, .string ⟨#[]⟩, .slice none 0 0, .int .i64 0] 0 HD.out)
    go_wp2
    obtain ⟨W9, hW9⟩ : ∃ W9, ((((((((w1.setCell ⟨q, 0, none⟩ (.int .i64 0)).setCell ⟨q, 1, none⟩ (.int .i64 0)).setCell ⟨q, 2, none⟩ (.int .i64 0)).setCell ⟨q, 3, none⟩ (.int .i64 0)).setCell ⟨q, 4, none⟩ (.int .i64 0)).setCell ⟨q, 5, none⟩ (.string ⟨#[]⟩)).setCell ⟨q, 6, none⟩ (.slice none 0 0)).setCell ⟨q, 7, none⟩ (.int .i64 0)) = W9 := ⟨_, rfl⟩
    simp only [hW9]
    rw [show World.setCells w1 q 0 [.int .i64 0, .int .i64 0, .int .i64 0, .int .i64 0, .int .i64 0, .string ⟨#[]⟩, .slice none 0 0, .int .i64 0] = W9 from hW9] at Q1 Q3
    clear hW9
    have e0 := Q1.out.cell 0 rfl
    have e1 := Q1.out.cell 1 rfl
    have e2 := Q1.out.cell 2 rfl
    have e3 := Q1.out.cell 3 rfl
    have e4 := Q1.out.cell 4 rfl
    have e5 := Q1.out.cell 5 rfl
    have e6 := Q1.out.cell 6 rfl
    have e7 := Q1.out.cell 7 rfl
    refine bodyPost_ret (v := .tuple #[.agg #[.int .i64 0, .int .i64 0, .int .i64 0, .int .i64 0, .int .i64 0, .string ⟨#[]⟩, .slice none 0 0, .int .i64 0], .bool false, .int .i64 9]) (by simp [results, Tryd.results12, go_sem, e0, e1, e2, e3, e4, e5, e6, e7]) rfl ?_
    exact ⟨.slice none 0 0, by rw [HF.out.1, HF.out.2.2.1, HF.out.2.2.2]; rfl, by rw [HF.out.2.1]; exact World.ownsRow_nil _ _ _ _, Q3.out⟩
end Go.Proofs.YtnopclacchoijaaDoor
