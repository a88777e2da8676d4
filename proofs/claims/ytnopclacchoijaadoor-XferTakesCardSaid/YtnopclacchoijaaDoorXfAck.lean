/-
  The program's ofSend and Ack.
-/
import Derived.Test.YtnopclacchoijaaDoorXfRound
import Derived.Test.YtnopclacchoijaaDoorXfAdd
import Derived.Test.YtnopclacchoijaaDoorXfOf
import Derived.Deep.RegionHeld3
namespace Go.Proofs.YtnopclacchoijaaDoor
open Go.RowKit FerryCrc
set_option linter.unusedVariables false
set_option linter.unusedSimpArgs false

def sameSd (s : Sd) (fn : Nat) (n : Nt) : Bool := n.part == s.part && (n.boot == s.boot && n.peer == s.peer && n.num == s.num) && n.stage == s.stage && n.total == (fn : Int)
def ackE (s : Sd) (fn : Nat) (n : Nt) : Nat := if pieE s fn = 0 then (if chk n = 0 then (if n.kind = 7 then (if sameSd s fn n = true then 0 else 10) else 7) else chk n) else 9
def ackS (s : Sd) (fn : Nat) (n : Nt) : Sd := if ackE s fn n = 0 then s else zSd
def ackA (s : Sd) (F : List Bool) (n : Nt) : List Bool := if ackE s F.length n = 0 then F.set n.index.toNat true else []
def ackF (s : Sd) (F : List Bool) (n : Nt) : Bool := decide (ackE s F.length n = 0) && !((F[n.index.toNat]?).getD false)
theorem chk_ack {n : Nt} (h : chk n = 0) (hk : n.kind = 7) : 1 ≤ n.total ∧ n.total ≤ 32 ∧ 0 ≤ n.index ∧ n.index < n.total := by
  unfold chk at h
  split at h
  · cases h
  · split at h
    · rename_i h1 h2
      simp only [Bool.and_eq_true] at h2
      obtain ⟨⟨⟨a1, a2⟩, a3⟩, a4⟩ := h2
      unfold countedN at a3
      rw [if_pos (.inr hk)] at a3
      simp only [Bool.and_eq_true, decide_eq_true_eq, okTot_iff] at a3
      exact ⟨a3.1.1.1, a3.1.1.2, a3.1.2, a3.2⟩
    · cases h
set_option maxRecDepth 100000 in
set_option maxHeartbeats 1000000 in
theorem ofSend_any (pt b r m st : Int) (im : ByteArray) (fa : Option Addr) (fn fc : Nat) (rd : Int) (w : World) : Calls Tryd.prog 46 #[.agg #[.int .i64 pt, .int .i64 b, .int .i64 r, .int .i64 m, .int .i64 st, .string im, .slice fa fn fc, .int .i64 rd]] w fun e w' => e = .returned (.agg #[.int .i64 pt, .int .i64 b, .int .i64 r, .int .i64 m, .int .i64 st, .int .i64 (fn : Int)]) ∧ Below w.heap.size w w' := by
  obtain ⟨W, hW, B0, B2, D0⟩ := box2 w [.int .i64 pt, .int .i64 b, .int .i64 r, .int .i64 m, .int .i64 st, .string im, .slice fa fn fc, .int .i64 rd] 48 [.int .i64 0, .int .i64 0, .int .i64 0, .int .i64 0, .int .i64 0, .int .i64 0] 102
  obtain ⟨q, hq⟩ : ∃ q, w.heap.size + 1 = q := ⟨_, rfl⟩
  have hge : w.heap.size ≤ q := by omega
  rw [hq] at B2
  have HB0 := hide B0
  have HB2 := hide B2
  have HWD := hide hW
  have HQQ := hide hq
  have Q1 := hide (B2.sets [.int .i64 pt, .int .i64 b, .int .i64 r, .int .i64 m, .int .i64 st, .int .i64 (fn : Int)] rfl)
  have Q3 := hide (below_sets hge [.int .i64 pt, .int .i64 b, .int .i64 r, .int .i64 m, .int .i64 st, .int .i64 (fn : Int)] 0 D0)
  clear B0 B2 D0 hW hq hge
  go_enter Tryd.func46, Tryd.ntmps46
  go_upto_region 1 with fail
  have hW := HWD.out
  have hq := HQQ.out
  clear HWD HQQ
  simp only [hW, hq]
  clear hW hq
  have g0 := HB0.out.cell 0 rfl
  have g1 := HB0.out.cell 1 rfl
  have g2 := HB0.out.cell 2 rfl
  have g3 := HB0.out.cell 3 rfl
  have g4 := HB0.out.cell 4 rfl
  have g5 := HB0.out.cell 5 rfl
  have g6 := HB0.out.cell 6 rfl
  have g7 := HB0.out.cell 7 rfl
  have c0 := HB2.out.cell 0 rfl
  have c1 := HB2.out.cell 1 rfl
  have c2 := HB2.out.cell 2 rfl
  have c3 := HB2.out.cell 3 rfl
  have c4 := HB2.out.cell 4 rfl
  have c5 := HB2.out.cell 5 rfl
  have f0 := HB2.out.frozen 0
  have f1 := HB2.out.frozen 1
  have f2 := HB2.out.frozen 2
  have f3 := HB2.out.frozen 3
  have f4 := HB2.out.frozen 4
  have f5 := HB2.out.frozen 5
  go_wp2
  obtain ⟨W9, hW9⟩ : ∃ W9, ((((((W.setCell ⟨q, 0, none⟩ (.int .i64 pt)).setCell ⟨q, 1, none⟩ (.int .i64 b)).setCell ⟨q, 2, none⟩ (.int .i64 r)).setCell ⟨q, 3, none⟩ (.int .i64 m)).setCell ⟨q, 4, none⟩ (.int .i64 st)).setCell ⟨q, 5, none⟩ (.int .i64 (fn : Int))) = W9 := ⟨_, rfl⟩
  simp only [hW9]
  rw [show W.setCells q 0 [.int .i64 pt, .int .i64 b, .int .i64 r, .int .i64 m, .int .i64 st, .int .i64 (fn : Int)] = W9 from hW9] at Q1 Q3
  clear hW9
  have e0 := Q1.out.cell 0 rfl
  have e1 := Q1.out.cell 1 rfl
  have e2 := Q1.out.cell 2 rfl
  have e3 := Q1.out.cell 3 rfl
  have e4 := Q1.out.cell 4 rfl
  have e5 := Q1.out.cell 5 rfl
  refine bodyPost_ret (v := .agg #[.int .i64 pt, .int .i64 b, .int .i64 r, .int .i64 m, .int .i64 st, .int .i64 (fn : Int)]) (by simp [results, Tryd.results46, go_sem, e0, e1, e2, e3, e4, e5]) rfl ?_
  exact ⟨rfl, Q3.out⟩

theorem heldA {w0 : World} {B p : Nat} {pt b r m st rd : Int} {im : ByteArray} {fa : Option Addr} {fn fc : Nat} {k pt2 b2 r2 m2 st2 ix tt2 sm : Int} {d : ByteArray} {t t' : TypeId} (h0 : Bk w0 B [.int .i64 pt, .int .i64 b, .int .i64 r, .int .i64 m, .int .i64 st, .string im, .slice fa fn fc, .int .i64 rd] t) (h1 : Bk w0 p [.int .i64 k, .int .i64 pt2, .int .i64 b2, .int .i64 r2, .int .i64 m2, .int .i64 st2, .int .i64 ix, .int .i64 tt2, .int .u32 sm, .string d] t') :
    w0.cell? ⟨B, 0, none⟩ = some (.int .i64 pt) ∧ w0.cell? ⟨B, 1, none⟩ = some (.int .i64 b) ∧ w0.cell? ⟨B, 2, none⟩ = some (.int .i64 r) ∧ w0.cell? ⟨B, 3, none⟩ = some (.int .i64 m) ∧ w0.cell? ⟨B, 4, none⟩ = some (.int .i64 st) ∧ w0.cell? ⟨B, 5, none⟩ = some (.string im) ∧ w0.cell? ⟨B, 6, none⟩ = some (.slice fa fn fc) ∧ w0.cell? ⟨B, 7, none⟩ = some (.int .i64 rd) ∧ w0.cell? ⟨p, 0, none⟩ = some (.int .i64 k) ∧ w0.cell? ⟨p, 1, none⟩ = some (.int .i64 pt2) ∧ w0.cell? ⟨p, 2, none⟩ = some (.int .i64 b2) ∧ w0.cell? ⟨p, 3, none⟩ = some (.int .i64 r2) ∧ w0.cell? ⟨p, 4, none⟩ = some (.int .i64 m2) ∧ w0.cell? ⟨p, 5, none⟩ = some (.int .i64 st2) ∧ w0.cell? ⟨p, 6, none⟩ = some (.int .i64 ix) ∧ w0.cell? ⟨p, 7, none⟩ = some (.int .i64 tt2) ∧ w0.cell? ⟨p, 8, none⟩ = some (.int .u32 sm) ∧ w0.cell? ⟨p, 9, none⟩ = some (.string d) :=
  ⟨h0.cell 0 rfl, h0.cell 1 rfl, h0.cell 2 rfl, h0.cell 3 rfl, h0.cell 4 rfl, h0.cell 5 rfl, h0.cell 6 rfl, h0.cell 7 rfl, h1.cell 0 rfl, h1.cell 1 rfl, h1.cell 2 rfl, h1.cell 3 rfl, h1.cell 4 rfl, h1.cell 5 rfl, h1.cell 6 rfl, h1.cell 7 rfl, h1.cell 8 rfl, h1.cell 9 rfl⟩
theorem tr_neq {p b r m s t p2 b2 r2 m2 s2 t2 : Int} {y : Bool} (hy : (p2 == p && (b2 == b && r2 == r && m2 == m) && s2 == s && t2 == t) = y) (w : World) : (binOp .neq 102 (.agg #[.int .i64 p2, .int .i64 b2, .int .i64 r2, .int .i64 m2, .int .i64 s2, .int .i64 t2]) (.agg #[.int .i64 p, .int .i64 b, .int .i64 r, .int .i64 m, .int .i64 s, .int .i64 t])).run Tryd.prog w = .ok (.bool (!y)) w := by
  cases y with
  | true =>
    simp only [Bool.and_eq_true, beq_iff_eq] at hy
    obtain ⟨⟨⟨rfl, ⟨rfl, rfl⟩, rfl⟩, rfl⟩, rfl⟩ := hy
    go_simp
  | false =>
    have h : ¬ (p2 = p ∧ b2 = b ∧ r2 = r ∧ m2 = m ∧ s2 = s ∧ t2 = t) := by
      rintro ⟨rfl, rfl, rfl, rfl, rfl, rfl⟩
      simp at hy
    clear hy
    go_simp
    intro h1 h2 h3 h4 h5 h6
    exact h ⟨h1, h2, h3, h4, h5, h6⟩
set_option maxRecDepth 100000 in
set_option maxHeartbeats 2000000 in
theorem ack_any (pt b r m st : Int) (im : ByteArray) (rd : Int) (fa : Option Addr) (fn fc : Nat) (F : List Bool) (k pt2 b2 r2 m2 st2 ix tt2 sm : Int) (d : ByteArray) {w : World} {E : Nat → Addr} (he : Er7 w E) (him : im.size ≤ 140737488351232) (hF : Fls w fa fn fc F)
    (hd : d.size ≤ 9223372036854775807) (h1 : -9223372036854775808 ≤ tt2) (h2 : tt2 ≤ 9223372036854775807) :
    Calls Tryd.prog 23 #[.agg #[.int .i64 pt, .int .i64 b, .int .i64 r, .int .i64 m, .int .i64 st, .string im, .slice fa fn fc, .int .i64 rd], .agg #[.int .i64 k, .int .i64 pt2, .int .i64 b2, .int .i64 r2, .int .i64 m2, .int .i64 st2, .int .i64 ix, .int .i64 tt2, .int .u32 sm, .string d]] w fun e w' => ∃ v, e = .returned (.tuple #[.agg ((ackS ⟨pt, b, r, m, st, im, rd⟩ fn ⟨k, pt2, b2, r2, m2, st2, ix, tt2, sm, d⟩).cells v).toArray, .bool (ackF ⟨pt, b, r, m, st, im, rd⟩ F ⟨k, pt2, b2, r2, m2, st2, ix, tt2, sm, d⟩), erv E (ackE ⟨pt, b, r, m, st, im, rd⟩ fn ⟨k, pt2, b2, r2, m2, st2, ix, tt2, sm, d⟩)]) ∧ FlOwn w' w.heap.size v (ackA ⟨pt, b, r, m, st, im, rd⟩ F ⟨k, pt2, b2, r2, m2, st2, ix, tt2, sm, d⟩) ∧ Below w.heap.size w w' := by
  have hFs := hF.size
  obtain ⟨N, hN⟩ : ∃ N : Nt, N = ⟨k, pt2, b2, r2, m2, st2, ix, tt2, sm, d⟩ := ⟨_, rfl⟩
  obtain ⟨SS, hSS⟩ : ∃ X : Sd, X = ⟨pt, b, r, m, st, im, rd⟩ := ⟨_, rfl⟩
  have HC1 := hide (fun (w' : World) (h : Er7 w' E) => xgood_any SS fa fn fc h (by rw [hSS]; exact him))
  have hcs : (SS.cells (.slice fa fn fc)).toArray = #[.int .i64 pt, .int .i64 b, .int .i64 r, .int .i64 m, .int .i64 st, .string im, .slice fa fn fc, .int .i64 rd] := by rw [hSS]; rfl
  rw [hcs] at HC1
  have HC2 := hide (fun (w' : World) (h : Er7 w' E) => check_any k pt2 b2 r2 m2 st2 ix tt2 sm d h hd h1 h2)
  rw [← hN] at HC2 ⊢
  rw [← hSS]
  have HC3 := hide (fun (w' : World) => ofNote_any k pt2 b2 r2 m2 st2 ix tt2 sm d w')
  have HC4 := hide (fun (w' : World) => ofSend_any pt b r m st im fa fn fc rd w')
  have HXE0 : Hid (ackE SS fn N = if pieE SS fn = 0 then (if chk N = 0 then (if k = 7 then (if sameSd SS fn N = true then 0 else 10) else 7) else chk N) else 9) := by unfold Hid ackE; rw [show N.kind = k by rw [hN]]
  have HSM : Hid (sameSd SS fn N = (pt2 == pt && (b2 == b && r2 == r && m2 == m) && st2 == st && tt2 == (fn : Int))) := by rw [hSS, hN]; rfl
  have HFN : Hid (pieE SS fn = 0 → fn ≤ 32) := fun h => pieE_fn h
  have HXS0 : Hid (ackS SS fn N = if ackE SS fn N = 0 then SS else zSd) := rfl
  have HXA0 : Hid (ackA SS F N = if ackE SS fn N = 0 then F.set ix.toNat true else []) := by unfold Hid ackA; rw [hFs, show N.index = ix by rw [hN]]
  have HXF0 : Hid (ackF SS F N = (decide (ackE SS fn N = 0) && !((F[ix.toNat]?).getD false))) := by unfold Hid ackF; rw [hFs, show N.index = ix by rw [hN]]
  have HCA : Hid (chk N = 0 → k = 7 → 1 ≤ tt2 ∧ tt2 ≤ 32 ∧ 0 ≤ ix ∧ ix < tt2) := fun h h7 => by
    have := chk_ack h (by rw [hN]; exact h7)
    rw [hN] at this
    exact this
  obtain ⟨XE, e1⟩ : ∃ X, ackE SS fn N = X := ⟨_, rfl⟩
  obtain ⟨XS, e2⟩ : ∃ X, ackS SS fn N = X := ⟨_, rfl⟩
  obtain ⟨XA, e3⟩ : ∃ X, ackA SS F N = X := ⟨_, rfl⟩
  obtain ⟨XF, e4⟩ : ∃ X, ackF SS F N = X := ⟨_, rfl⟩
  rw [e1] at HXE0 HXS0 HXA0 HXF0 ⊢
  rw [e2] at HXS0 ⊢
  rw [e3] at HXA0 ⊢
  rw [e4] at HXF0 ⊢
  have HXE := HXE0
  have HXS := HXS0
  have HXA := HXA0
  have HXF := HXF0
  have HSS := hide hSS
  clear HXE0 HXS0 HXA0 HXF0 e1 e2 e3 e4 hN hSS hcs him hd h1 h2
  obtain ⟨W, hW, B0, B1, B2, D0⟩ := box3 w [.int .i64 pt, .int .i64 b, .int .i64 r, .int .i64 m, .int .i64 st, .string im, .slice fa fn fc, .int .i64 rd] 48 [.int .i64 k, .int .i64 pt2, .int .i64 b2, .int .i64 r2, .int .i64 m2, .int .i64 st2, .int .i64 ix, .int .i64 tt2, .int .u32 sm, .string d] 34 [.int .i64 0, .int .i64 0, .int .i64 0, .int .i64 0, .int .i64 0, .string ⟨#[]⟩, .slice none 0 0, .int .i64 0] 48
  obtain ⟨p, hp⟩ : ∃ p, w.heap.size + 1 = p := ⟨_, rfl⟩
  obtain ⟨q, hq⟩ : ∃ q, w.heap.size + 2 = q := ⟨_, rfl⟩
  have HNE : Hid (w.heap.size ≠ p ∧ w.heap.size ≠ q ∧ p ≠ q) := by unfold Hid; omega
  have HQ0 : Hid (w.heap.size < q) := by unfold Hid; omega
  have HPQ : Hid (w.heap.size + 1 = p ∧ p + 1 = q) := by unfold Hid; omega
  rw [hp] at B1
  rw [hq] at B2
  have HB0 := hide B0
  have HB1 := hide B1
  have HB2 := hide B2
  have HD := hide D0
  have HWD := hide hW
  have HE := hide (he.below D0)
  have HE0 := hide he
  have HF1 := hide (hF.below D0)
  clear B0 B1 B2 D0 hW he hF hp hq
  go_enter Tryd.func23, Tryd.ntmps23
  go_upto_region 1 with fail
  have hW := HWD.out
  obtain ⟨hp, hq⟩ := HPQ.out
  clear HWD HPQ
  simp only [hW, hp, hq]
  clear hW hp hq
  have g0 := HB0.out.cell 0 rfl
  have g1 := HB0.out.cell 1 rfl
  have g2 := HB0.out.cell 2 rfl
  have g3 := HB0.out.cell 3 rfl
  have g4 := HB0.out.cell 4 rfl
  have g5 := HB0.out.cell 5 rfl
  have g6 := HB0.out.cell 6 rfl
  have g7 := HB0.out.cell 7 rfl
  go_wp2_with fail
  refine Calls.mono (HC1.out W HE.out) ?_
  rintro e w1 ⟨rfl, b1⟩
  replace HB0 := hide (HB0.out.below b1)
  replace HB1 := hide (HB1.out.below b1)
  replace HB2 := hide (HB2.out.below b1)
  replace HD := hide (chain HD.out b1)
  replace HE := hide (HE.out.below b1)
  replace HF1 := hide (HF1.out.below b1)
  clear b1 HC1 g0 g1 g2 g3 g4 g5 g6 g7
  by_cases hg : pieE SS fn = 0
  · rw [decide_eq_true hg]
    have hfn := HFN.out hg
    have g0 := HB1.out.cell 0 rfl
    have g1 := HB1.out.cell 1 rfl
    have g2 := HB1.out.cell 2 rfl
    have g3 := HB1.out.cell 3 rfl
    have g4 := HB1.out.cell 4 rfl
    have g5 := HB1.out.cell 5 rfl
    have g6 := HB1.out.cell 6 rfl
    have g7 := HB1.out.cell 7 rfl
    have g8 := HB1.out.cell 8 rfl
    have g9 := HB1.out.cell 9 rfl
    go_upto_region 3 with fail
    go_wp2_with fail
    refine Calls.mono (HC2.out w1 HE.out) ?_
    rintro e w2 ⟨rfl, b1⟩
    replace HB0 := hide (HB0.out.below b1)
    replace HB1 := hide (HB1.out.below b1)
    replace HB2 := hide (HB2.out.below b1)
    replace HD := hide (chain HD.out b1)
    replace HE := hide (HE.out.below b1)
    replace HF1 := hide (HF1.out.below b1)
    clear b1 HC2 g0 g1 g2 g3 g4 g5 g6 g7 g8 g9
    by_cases hc : chk N = 0
    · --
      rw [hc, show erv E 0 = .nilIface from rfl]
      have g0 := HB1.out.cell 0 rfl
      by_cases hk : k = 7
      · subst hk
        obtain ⟨t1, t2, i1, i2⟩ := HCA.out hc rfl
        obtain ⟨i, rfl⟩ : ∃ i : Nat, ix = (i : Int) := ⟨ix.toNat, by omega⟩
        obtain ⟨y, hy⟩ : ∃ y, sameSd SS fn N = y := ⟨_, rfl⟩
        have HY : Hid ((pt2 == pt && (b2 == b && r2 == r && m2 == m) && st2 == st && tt2 == (fn : Int)) = y) := by unfold Hid; rw [← HSM.out]; exact hy
        have HXE2 : Hid (XE = if y = true then 0 else 10) := by unfold Hid; rw [HXE.out, if_pos hg, if_pos hc, if_pos rfl, hy]
        clear hy HSM hc hg HCA HFN
        go_upto_region 8 with fail
        clear g0
        go_cut [29] from 25 to 29 (fun v wz => v = .bool (!y) ∧ Hid (Below w2.heap.size w2 wz))
        case first =>
          have HQ := tr_neq HY.out
          have F0 := hide (HB0.out.below (Below.refl _ w2).drew)
          have F1 := hide (HB1.out.below (Below.refl _ w2).drew)
          have hgt : Tryd.prog.eqGuardType Tryd.prog.depth 102 = false := by kernel_rfl
          go_region_held3 (fun wz => wz.cell? ⟨w.heap.size, 0, none⟩ = some (.int .i64 pt) ∧ wz.cell? ⟨w.heap.size, 1, none⟩ = some (.int .i64 b) ∧ wz.cell? ⟨w.heap.size, 2, none⟩ = some (.int .i64 r) ∧ wz.cell? ⟨w.heap.size, 3, none⟩ = some (.int .i64 m) ∧ wz.cell? ⟨w.heap.size, 4, none⟩ = some (.int .i64 st) ∧ wz.cell? ⟨w.heap.size, 5, none⟩ = some (.string im) ∧ wz.cell? ⟨w.heap.size, 6, none⟩ = some (.slice fa fn fc) ∧ wz.cell? ⟨w.heap.size, 7, none⟩ = some (.int .i64 rd) ∧ wz.cell? ⟨p, 0, none⟩ = some (.int .i64 7) ∧ wz.cell? ⟨p, 1, none⟩ = some (.int .i64 pt2) ∧ wz.cell? ⟨p, 2, none⟩ = some (.int .i64 b2) ∧ wz.cell? ⟨p, 3, none⟩ = some (.int .i64 r2) ∧ wz.cell? ⟨p, 4, none⟩ = some (.int .i64 m2) ∧ wz.cell? ⟨p, 5, none⟩ = some (.int .i64 st2) ∧ wz.cell? ⟨p, 6, none⟩ = some (.int .i64 (i : Int)) ∧ wz.cell? ⟨p, 7, none⟩ = some (.int .i64 tt2) ∧ wz.cell? ⟨p, 8, none⟩ = some (.int .u32 sm) ∧ wz.cell? ⟨p, 9, none⟩ = some (.string d)) (first | exact heldA F0.out F1.out | exact heldA K0.out K1.out | exact heldA M0.out M1.out) (first | (go_at_call 45; refine Calls.mono (HC3.out _) ?_; rintro e w5 ⟨rfl, b5⟩; have BV := hide b5; have K0 := hide (F0.out.below b5); have K1 := hide (F1.out.below b5); clear b5) | (go_at_call 46; refine Calls.mono (HC4.out _) ?_; rintro e w6 ⟨rfl, b6⟩; have BW := hide b6; have M0 := hide (K0.out.below b6); have M1 := hide (K1.out.below b6); clear b6) | fail)
          go_wp2
          go_meet
          case rel => exact ⟨rfl, chain (chain (Below.refl w2.heap.size w2).drew BV.out) BW.out⟩
        case rest =>
          obtain ⟨rfl, HBB⟩ := hcut
          obtain ⟨w8, hw8⟩ : ∃ z, z = wc := ⟨_, rfl⟩
          subst hw8
          replace HB0 := hide (HB0.out.below HBB.out)
          replace HB1 := hide (HB1.out.below HBB.out)
          replace HB2 := hide (HB2.out.below HBB.out)
          replace HD := hide (chain HD.out HBB.out)
          replace HE := hide (HE.out.below HBB.out)
          replace HF1 := hide (HF1.out.below HBB.out)
          cases y with
          | false =>
            have HF : Hid (XS = zSd ∧ XA = [] ∧ XF = false ∧ XE = 10) := by
              have h9 : XE = 10 := by rw [HXE2.out]; rfl
              refine ⟨?_, ?_, ?_, h9⟩
              · rw [HXS.out, h9]; exact if_neg (by decide)
              · rw [HXA.out, h9]; exact if_neg (by decide)
              · rw [HXF.out, h9, decide_eq_false (by decide)]; rfl
            clear t1 t2 i1 i2 HY HXE2 HXE HXS HXA HXF HBB HC3 HC4
            go_upto_region 9 with fail
            have B2 := hide (HB2.out.sets [.int .i64 0, .int .i64 0, .int .i64 0, .int .i64 0, .int .i64 0, .string ⟨#[]⟩, .slice none 0 0, .int .i64 0] rfl)
            have D2 := hide (below_sets (Nat.le_of_lt HQ0.out) [.int .i64 0, .int .i64 0, .int .i64 0, .int .i64 0, .int .i64 0, .string ⟨#[]⟩, .slice none 0 0, .int .i64 0] 0 HD.out)
            have f0 := HB2.out.frozen 0
            have f1 := HB2.out.frozen 1
            have f2 := HB2.out.frozen 2
            have f3 := HB2.out.frozen 3
            have f4 := HB2.out.frozen 4
            have f5 := HB2.out.frozen 5
            have f6 := HB2.out.frozen 6
            have f7 := HB2.out.frozen 7
            have g0 := HB2.out.cell 0 rfl
            have g1 := HB2.out.cell 1 rfl
            have g2 := HB2.out.cell 2 rfl
            have g3 := HB2.out.cell 3 rfl
            have g4 := HB2.out.cell 4 rfl
            have g5 := HB2.out.cell 5 rfl
            have g6 := HB2.out.cell 6 rfl
            have g7 := HB2.out.cell 7 rfl
            have ve := HE.out.v10
            have ves := (HE0.out.below D2.out).v10
            have ved := (HE0.out.below D2.out.drew).v10
            unfold sent at ve ves ved
            have hp1 : 2 ≠ q := by
              have h1 := block_lt_of_cell HE0.out.v10
              have h2 := HQ0.out
              simp only at h1
              omega
            have hp2 : q ≠ 2 := Ne.symm hp1
            go_region
            go_wp2
            obtain ⟨W9, hW9⟩ : ∃ W9, ((((((((w8.setCell ⟨q, 0, none⟩ (.int .i64 0)).setCell ⟨q, 1, none⟩ (.int .i64 0)).setCell ⟨q, 2, none⟩ (.int .i64 0)).setCell ⟨q, 3, none⟩ (.int .i64 0)).setCell ⟨q, 4, none⟩ (.int .i64 0)).setCell ⟨q, 5, none⟩ (.string ⟨#[]⟩)).setCell ⟨q, 6, none⟩ (.slice none 0 0)).setCell ⟨q, 7, none⟩ (.int .i64 0)) = W9 := ⟨_, rfl⟩
            simp only [hW9]
            rw [show (w8).setCells q 0 [.int .i64 0, .int .i64 0, .int .i64 0, .int .i64 0, .int .i64 0, .string ⟨#[]⟩, .slice none 0 0, .int .i64 0] = W9 from hW9] at B2 D2
            clear hW9
            replace B2 := hide (B2.out.below (Below.refl _ _).drew)
            replace D2 := hide D2.out.drew
            have e0 := B2.out.cell 0 rfl
            have e1 := B2.out.cell 1 rfl
            have e2 := B2.out.cell 2 rfl
            have e3 := B2.out.cell 3 rfl
            have e4 := B2.out.cell 4 rfl
            have e5 := B2.out.cell 5 rfl
            have e6 := B2.out.cell 6 rfl
            have e7 := B2.out.cell 7 rfl
            refine bodyPost_ret (v := .tuple #[.agg #[.int .i64 0, .int .i64 0, .int .i64 0, .int .i64 0, .int .i64 0, .string ⟨#[]⟩, .slice none 0 0, .int .i64 0], .bool false, sent (E 10)]) (by simp [results, Tryd.results23, go_sem, e0, e1, e2, e3, e4, e5, e6, e7, sent]) rfl ?_
            exact ⟨.slice none 0 0, by rw [HF.out.1, HF.out.2.2.1, HF.out.2.2.2]; rfl, by rw [HF.out.2.1]; exact World.ownsRow_nil _ _ _ _, D2.out⟩
          | true =>
            have htf : tt2 = (fn : Int) := by
              have := HY.out
              simp only [Bool.and_eq_true, beq_iff_eq] at this
              exact this.2
            have hin : i < fn := by omega
            obtain ⟨x, hx⟩ : ∃ x, F[i]? = some x := ⟨_, List.getElem?_eq_getElem (by omega)⟩
            have HF : Hid (XS = SS ∧ XA = F.set i true ∧ XF = (!x) ∧ XE = 0) := by
              have h9 : XE = 0 := by rw [HXE2.out]; rfl
              refine ⟨?_, ?_, ?_, h9⟩
              · rw [HXS.out, h9]; exact if_pos rfl
              · rw [HXA.out, h9]; exact if_pos rfl
              · rw [HXF.out, h9, Int.toNat_natCast, hx]; rfl
            obtain ⟨b1, o1, rfl, hc1⟩ := HF1.out.at bvl1 (by decide) hx
            have n0 := hc1 0 _ rfl
            simp only [Nat.mul_one, Nat.add_zero] at n0
            clear hc1 hx HXS HXA HXF HXE HXE2 HY htf t1 t2 i1 i2
            have q6 := HB1.out.cell 6 rfl
            have g6 := HB0.out.cell 6 rfl
            have hi1 : ¬ (i : Int) < 0 := by omega
            have hi2 : (i : Int) < (fn : Int) := by omega
            have HCL := hide (fun (w' : World) (h : Fls w' (some ⟨b1, o1, none⟩) fn fc F) => clone_fl (some ⟨b1, o1, none⟩) fn fc F h (by omega))
            go_upto_region 11 with fail
            go_wp2_with fail
            refine Calls.mono (HCL.out _ HF1.out) ?_
            rintro e w4 ⟨v, rfl, o4, b4⟩
            obtain ⟨gv, cv, rfl, hgv⟩ := o4.form (by rw [hFs]; omega)
            rw [hFs] at o4 ⊢
            have hlt0 := HB0.out.lt
            have hlt1 := HB1.out.lt
            have hlt2 := HB2.out.lt
            have HGV : Hid (w.heap.size ≠ gv ∧ p ≠ gv ∧ q ≠ gv ∧ w.heap.size ≤ gv) := ⟨by omega, by omega, by omega, by omega⟩
            replace HB0 := hide (HB0.out.below b4)
            replace HB1 := hide (HB1.out.below b4)
            replace HB2 := hide (HB2.out.below b4)
            have HWZ := hide HD.out.size
            replace HD := hide (chain HD.out b4)
            have HO := hide o4
            clear o4 b4 g6 q6 n0 hgv hlt0 hlt1 hlt2 HCL HF1
            have c6 := HB0.out.cell 6 rfl
            have z6 := HB0.out.frozen 6
            have hne0 : (Value.slice (some ⟨gv, 0, none⟩) fn cv).ownBlock ≠ some w.heap.size := by
              intro h2
              exact HGV.out.1 (by simpa [Value.ownBlock] using h2.symm)
            have KO := hide (HO.out.far (p := ⟨w.heap.size, 6, none⟩) hne0 (.slice (some ⟨gv, 0, none⟩) fn cv))
            have K0 := hide (HB0.out.set 6 (.slice (some ⟨gv, 0, none⟩) fn cv))
            have K1 := hide (HB1.out.other ⟨w.heap.size, 6, none⟩ (.slice (some ⟨gv, 0, none⟩) fn cv) (Ne.symm HNE.out.1))
            have K2 := hide (HB2.out.other ⟨w.heap.size, 6, none⟩ (.slice (some ⟨gv, 0, none⟩) fn cv) (Ne.symm HNE.out.2.1))
            have KD := hide (HD.out.setCell (p := ⟨w.heap.size, 6, none⟩) (Nat.le_refl _) (.slice (some ⟨gv, 0, none⟩) fn cv))
            clear hne0
            go_upto_region 12 with fail
            obtain ⟨W5, hW5⟩ : ∃ W5, w4.setCell ⟨w.heap.size, 6, none⟩ (.slice (some ⟨gv, 0, none⟩) fn cv) = W5 := ⟨_, rfl⟩
            rw [hW5] at KO K0 K1 K2 KD
            simp only [hW5]
            replace K0 : Hid (Bk W5 w.heap.size [.int .i64 pt, .int .i64 b, .int .i64 r, .int .i64 m, .int .i64 st, .string im, .slice (some ⟨gv, 0, none⟩) fn cv, .int .i64 rd] 48) := K0
            clear hW5 c6 z6 HB0 HB1 HB2 HD HO
            have h6 := K0.out.cell 6 rfl
            have n6 := K1.out.cell 6 rfl
            obtain ⟨z1, z2, z3, z4, z5⟩ := KO.out.put bvl1 hFs hin true
            obtain ⟨⟨u0, y0⟩, x0⟩ := z1 0 (by decide)
            simp only [Nat.mul_one, Nat.add_zero] at y0 x0
            rw [Nat.mul_one] at z2 z3
            have M2 := hide (show FlOwn (W5.setCell ⟨gv, i, none⟩ (.bool true)) _ (.slice (some ⟨gv, 0, none⟩) fn cv) (F.set i true) from z2)
            have M0 := hide (K0.out.other ⟨gv, i, none⟩ (.bool true) HGV.out.1)
            have MQ := hide (K2.out.other ⟨gv, i, none⟩ (.bool true) HGV.out.2.2.1)
            have MD := hide (KD.out.setCell (p := ⟨gv, i, none⟩) HGV.out.2.2.2 (.bool true))
            clear z1 z2 z3 z4 z5 KO K0 K1 K2 KD
            go_upto_region 13 with fail
            obtain ⟨W6, hW6⟩ : ∃ W6, W5.setCell ⟨gv, i, none⟩ (.bool true) = W6 := ⟨_, rfl⟩
            rw [hW6] at M2 M0 MQ MD
            simp only [hW6]
            clear hW6 h6 n6 y0 x0
            have c0 := M0.out.cell 0 rfl
            have c1 := M0.out.cell 1 rfl
            have c2 := M0.out.cell 2 rfl
            have c3 := M0.out.cell 3 rfl
            have c4 := M0.out.cell 4 rfl
            have c5 := M0.out.cell 5 rfl
            have c6 := M0.out.cell 6 rfl
            have c7 := M0.out.cell 7 rfl
            have g0 := MQ.out.cell 0 rfl
            have g1 := MQ.out.cell 1 rfl
            have g2 := MQ.out.cell 2 rfl
            have g3 := MQ.out.cell 3 rfl
            have g4 := MQ.out.cell 4 rfl
            have g5 := MQ.out.cell 5 rfl
            have g6 := MQ.out.cell 6 rfl
            have g7 := MQ.out.cell 7 rfl
            have f0 := MQ.out.frozen 0
            have f1 := MQ.out.frozen 1
            have f2 := MQ.out.frozen 2
            have f3 := MQ.out.frozen 3
            have f4 := MQ.out.frozen 4
            have f5 := MQ.out.frozen 5
            have f6 := MQ.out.frozen 6
            have f7 := MQ.out.frozen 7
            have hneq : (Value.slice (some ⟨gv, 0, none⟩) fn cv).ownBlock ≠ some q := by
              intro h2
              exact HGV.out.2.2.1 (by simpa [Value.ownBlock] using h2.symm)
            have Q1 := hide (MQ.out.sets [.int .i64 pt, .int .i64 b, .int .i64 r, .int .i64 m, .int .i64 st, .string im, .slice (some ⟨gv, 0, none⟩) fn cv, .int .i64 rd] rfl)
            have Q2 := hide (LOwn.fars hneq [.int .i64 pt, .int .i64 b, .int .i64 r, .int .i64 m, .int .i64 st, .string im, .slice (some ⟨gv, 0, none⟩) fn cv, .int .i64 rd] 0 M2.out)
            have Q3 := hide (below_sets (Nat.le_of_lt HQ0.out) [.int .i64 pt, .int .i64 b, .int .i64 r, .int .i64 m, .int .i64 st, .string im, .slice (some ⟨gv, 0, none⟩) fn cv, .int .i64 rd] 0 MD.out)
            clear hneq
            go_wp2
            obtain ⟨W9, hW9⟩ : ∃ W9, ((((((((W6.setCell ⟨q, 0, none⟩ (.int .i64 pt)).setCell ⟨q, 1, none⟩ (.int .i64 b)).setCell ⟨q, 2, none⟩ (.int .i64 r)).setCell ⟨q, 3, none⟩ (.int .i64 m)).setCell ⟨q, 4, none⟩ (.int .i64 st)).setCell ⟨q, 5, none⟩ (.string im)).setCell ⟨q, 6, none⟩ (.slice (some ⟨gv, 0, none⟩) fn cv)).setCell ⟨q, 7, none⟩ (.int .i64 rd)) = W9 := ⟨_, rfl⟩
            simp only [hW9]
            rw [show W6.setCells q 0 [.int .i64 pt, .int .i64 b, .int .i64 r, .int .i64 m, .int .i64 st, .string im, .slice (some ⟨gv, 0, none⟩) fn cv, .int .i64 rd] = W9 from hW9] at Q1 Q2 Q3
            clear hW9
            have e0 := Q1.out.cell 0 rfl
            have e1 := Q1.out.cell 1 rfl
            have e2 := Q1.out.cell 2 rfl
            have e3 := Q1.out.cell 3 rfl
            have e4 := Q1.out.cell 4 rfl
            have e5 := Q1.out.cell 5 rfl
            have e6 := Q1.out.cell 6 rfl
            have e7 := Q1.out.cell 7 rfl
            refine bodyPost_ret (v := .tuple #[.agg #[.int .i64 pt, .int .i64 b, .int .i64 r, .int .i64 m, .int .i64 st, .string im, .slice (some ⟨gv, 0, none⟩) fn cv, .int .i64 rd], .bool (!x), .nilIface]) (by simp [results, Tryd.results23, go_sem, e0, e1, e2, e3, e4, e5, e6, e7]) rfl ?_
            exact ⟨.slice (some ⟨gv, 0, none⟩) fn cv, by rw [HF.out.1, HF.out.2.2.1, HF.out.2.2.2, HSS.out]; rfl, by rw [HF.out.2.1]; exact Q2.out.weaken HWZ.out, Q3.out⟩
      · --
        have HF : Hid (XS = zSd ∧ XA = [] ∧ XF = false ∧ XE = 7) := by
          have h9 : XE = 7 := by rw [HXE.out]; rw [if_pos hg, if_pos hc, if_neg hk]
          refine ⟨?_, ?_, ?_, h9⟩
          · rw [HXS.out, h9]; exact if_neg (by decide)
          · rw [HXA.out, h9]; exact if_neg (by decide)
          · rw [HXF.out, h9, decide_eq_false (by decide)]; rfl
        have hkb : (k != 7) = true := by simpa using hk
        have hkb2 : (k == 7) = false := by simpa using hk
        clear hk
        go_upto_region 7 with fail
        clear g0
        have B2 := hide (HB2.out.sets [.int .i64 0, .int .i64 0, .int .i64 0, .int .i64 0, .int .i64 0, .string ⟨#[]⟩, .slice none 0 0, .int .i64 0] rfl)
        have D2 := hide (below_sets (Nat.le_of_lt HQ0.out) [.int .i64 0, .int .i64 0, .int .i64 0, .int .i64 0, .int .i64 0, .string ⟨#[]⟩, .slice none 0 0, .int .i64 0] 0 HD.out)
        have f0 := HB2.out.frozen 0
        have f1 := HB2.out.frozen 1
        have f2 := HB2.out.frozen 2
        have f3 := HB2.out.frozen 3
        have f4 := HB2.out.frozen 4
        have f5 := HB2.out.frozen 5
        have f6 := HB2.out.frozen 6
        have f7 := HB2.out.frozen 7
        have g0 := HB2.out.cell 0 rfl
        have g1 := HB2.out.cell 1 rfl
        have g2 := HB2.out.cell 2 rfl
        have g3 := HB2.out.cell 3 rfl
        have g4 := HB2.out.cell 4 rfl
        have g5 := HB2.out.cell 5 rfl
        have g6 := HB2.out.cell 6 rfl
        have g7 := HB2.out.cell 7 rfl
        have ve := HE.out.v7
        have ves := (HE0.out.below D2.out).v7
        have ved := (HE0.out.below D2.out.drew).v7
        unfold sent at ve ves ved
        have hp1 : 1 ≠ q := by
          have h1 := block_lt_of_cell HE0.out.v7
          have h2 := HQ0.out
          simp only at h1
          omega
        have hp2 : q ≠ 1 := Ne.symm hp1
        go_region
        go_wp2
        obtain ⟨W9, hW9⟩ : ∃ W9, ((((((((w2.setCell ⟨q, 0, none⟩ (.int .i64 0)).setCell ⟨q, 1, none⟩ (.int .i64 0)).setCell ⟨q, 2, none⟩ (.int .i64 0)).setCell ⟨q, 3, none⟩ (.int .i64 0)).setCell ⟨q, 4, none⟩ (.int .i64 0)).setCell ⟨q, 5, none⟩ (.string ⟨#[]⟩)).setCell ⟨q, 6, none⟩ (.slice none 0 0)).setCell ⟨q, 7, none⟩ (.int .i64 0)) = W9 := ⟨_, rfl⟩
        simp only [hW9]
        rw [show (w2).setCells q 0 [.int .i64 0, .int .i64 0, .int .i64 0, .int .i64 0, .int .i64 0, .string ⟨#[]⟩, .slice none 0 0, .int .i64 0] = W9 from hW9] at B2 D2
        clear hW9
        replace B2 := hide (B2.out.below (Below.refl _ _).drew)
        replace D2 := hide D2.out.drew
        have e0 := B2.out.cell 0 rfl
        have e1 := B2.out.cell 1 rfl
        have e2 := B2.out.cell 2 rfl
        have e3 := B2.out.cell 3 rfl
        have e4 := B2.out.cell 4 rfl
        have e5 := B2.out.cell 5 rfl
        have e6 := B2.out.cell 6 rfl
        have e7 := B2.out.cell 7 rfl
        refine bodyPost_ret (v := .tuple #[.agg #[.int .i64 0, .int .i64 0, .int .i64 0, .int .i64 0, .int .i64 0, .string ⟨#[]⟩, .slice none 0 0, .int .i64 0], .bool false, sent (E 7)]) (by simp [results, Tryd.results23, go_sem, e0, e1, e2, e3, e4, e5, e6, e7, sent]) rfl ?_
        exact ⟨.slice none 0 0, by rw [HF.out.1, HF.out.2.2.1, HF.out.2.2.2]; rfl, by rw [HF.out.2.1]; exact World.ownsRow_nil _ _ _ _, D2.out⟩
    · --
      have HF : Hid (XS = zSd ∧ XA = [] ∧ XF = false ∧ XE = chk N) := by
        have h9 : XE = chk N := by rw [HXE.out]; rw [if_pos hg, if_neg hc]
        refine ⟨?_, ?_, ?_, h9⟩
        · rw [HXS.out, h9]; exact if_neg hc
        · rw [HXA.out, h9]; exact if_neg hc
        · rw [HXF.out, h9, decide_eq_false hc]; rfl
      rw [show erv E (chk N) = sent (E (chk N)) from if_neg hc]
      unfold sent
      have B2 := hide (HB2.out.sets [.int .i64 0, .int .i64 0, .int .i64 0, .int .i64 0, .int .i64 0, .string ⟨#[]⟩, .slice none 0 0, .int .i64 0] rfl)
      have D2 := hide (below_sets (Nat.le_of_lt HQ0.out) [.int .i64 0, .int .i64 0, .int .i64 0, .int .i64 0, .int .i64 0, .string ⟨#[]⟩, .slice none 0 0, .int .i64 0] 0 HD.out)
      have f0 := HB2.out.frozen 0
      have f1 := HB2.out.frozen 1
      have f2 := HB2.out.frozen 2
      have f3 := HB2.out.frozen 3
      have f4 := HB2.out.frozen 4
      have f5 := HB2.out.frozen 5
      have f6 := HB2.out.frozen 6
      have f7 := HB2.out.frozen 7
      have g0 := HB2.out.cell 0 rfl
      have g1 := HB2.out.cell 1 rfl
      have g2 := HB2.out.cell 2 rfl
      have g3 := HB2.out.cell 3 rfl
      have g4 := HB2.out.cell 4 rfl
      have g5 := HB2.out.cell 5 rfl
      have g6 := HB2.out.cell 6 rfl
      have g7 := HB2.out.cell 7 rfl
      go_wp2
      obtain ⟨W9, hW9⟩ : ∃ W9, ((((((((w2.setCell ⟨q, 0, none⟩ (.int .i64 0)).setCell ⟨q, 1, none⟩ (.int .i64 0)).setCell ⟨q, 2, none⟩ (.int .i64 0)).setCell ⟨q, 3, none⟩ (.int .i64 0)).setCell ⟨q, 4, none⟩ (.int .i64 0)).setCell ⟨q, 5, none⟩ (.string ⟨#[]⟩)).setCell ⟨q, 6, none⟩ (.slice none 0 0)).setCell ⟨q, 7, none⟩ (.int .i64 0)) = W9 := ⟨_, rfl⟩
      simp only [hW9]
      rw [show (w2).setCells q 0 [.int .i64 0, .int .i64 0, .int .i64 0, .int .i64 0, .int .i64 0, .string ⟨#[]⟩, .slice none 0 0, .int .i64 0] = W9 from hW9] at B2 D2
      clear hW9
      have e0 := B2.out.cell 0 rfl
      have e1 := B2.out.cell 1 rfl
      have e2 := B2.out.cell 2 rfl
      have e3 := B2.out.cell 3 rfl
      have e4 := B2.out.cell 4 rfl
      have e5 := B2.out.cell 5 rfl
      have e6 := B2.out.cell 6 rfl
      have e7 := B2.out.cell 7 rfl
      refine bodyPost_ret (v := .tuple #[.agg #[.int .i64 0, .int .i64 0, .int .i64 0, .int .i64 0, .int .i64 0, .string ⟨#[]⟩, .slice none 0 0, .int .i64 0], .bool false, sent (E (chk N))]) (by simp [results, Tryd.results23, go_sem, e0, e1, e2, e3, e4, e5, e6, e7, sent]) rfl ?_
      exact ⟨.slice none 0 0, by rw [HF.out.1, HF.out.2.2.1, HF.out.2.2.2]; unfold erv; rw [if_neg hc]; rfl, by rw [HF.out.2.1]; exact World.ownsRow_nil _ _ _ _, D2.out⟩
  · rw [decide_eq_false hg]
    have HF : Hid (XS = zSd ∧ XA = [] ∧ XF = false ∧ XE = 9) := by
      have h9 : XE = 9 := by rw [HXE.out]; rw [if_neg hg]
      refine ⟨?_, ?_, ?_, h9⟩
      · rw [HXS.out, h9]; exact if_neg (by decide)
      · rw [HXA.out, h9]; exact if_neg (by decide)
      · rw [HXF.out, h9, decide_eq_false (by decide)]; rfl
    have B2 := hide (HB2.out.sets [.int .i64 0, .int .i64 0, .int .i64 0, .int .i64 0, .int .i64 0, .string ⟨#[]⟩, .slice none 0 0, .int .i64 0] rfl)
    have D2 := hide (below_sets (Nat.le_of_lt HQ0.out) [.int .i64 0, .int .i64 0, .int .i64 0, .int .i64 0, .int .i64 0, .string ⟨#[]⟩, .slice none 0 0, .int .i64 0] 0 HD.out)
    have f0 := HB2.out.frozen 0
    have f1 := HB2.out.frozen 1
    have f2 := HB2.out.frozen 2
    have f3 := HB2.out.frozen 3
    have f4 := HB2.out.frozen 4
    have f5 := HB2.out.frozen 5
    have f6 := HB2.out.frozen 6
    have f7 := HB2.out.frozen 7
    have g0 := HB2.out.cell 0 rfl
    have g1 := HB2.out.cell 1 rfl
    have g2 := HB2.out.cell 2 rfl
    have g3 := HB2.out.cell 3 rfl
    have g4 := HB2.out.cell 4 rfl
    have g5 := HB2.out.cell 5 rfl
    have g6 := HB2.out.cell 6 rfl
    have g7 := HB2.out.cell 7 rfl
    have ve := HE.out.v9
    have ves := (HE0.out.below D2.out).v9
    have ved := (HE0.out.below D2.out.drew).v9
    unfold sent at ve ves ved
    have hp1 : 0 ≠ q := by
      have h1 := block_lt_of_cell HE0.out.v9
      have h2 := HQ0.out
      simp only at h1
      omega
    have hp2 : q ≠ 0 := Ne.symm hp1
    go_upto_region 2 with fail
    go_region
    go_wp2
    obtain ⟨W9, hW9⟩ : ∃ W9, ((((((((w1.setCell ⟨q, 0, none⟩ (.int .i64 0)).setCell ⟨q, 1, none⟩ (.int .i64 0)).setCell ⟨q, 2, none⟩ (.int .i64 0)).setCell ⟨q, 3, none⟩ (.int .i64 0)).setCell ⟨q, 4, none⟩ (.int .i64 0)).setCell ⟨q, 5, none⟩ (.string ⟨#[]⟩)).setCell ⟨q, 6, none⟩ (.slice none 0 0)).setCell ⟨q, 7, none⟩ (.int .i64 0)) = W9 := ⟨_, rfl⟩
    simp only [hW9]
    rw [show (w1).setCells q 0 [.int .i64 0, .int .i64 0, .int .i64 0, .int .i64 0, .int .i64 0, .string ⟨#[]⟩, .slice none 0 0, .int .i64 0] = W9 from hW9] at B2 D2
    clear hW9
    replace B2 := hide (B2.out.below (Below.refl _ _).drew)
    replace D2 := hide D2.out.drew
    have e0 := B2.out.cell 0 rfl
    have e1 := B2.out.cell 1 rfl
    have e2 := B2.out.cell 2 rfl
    have e3 := B2.out.cell 3 rfl
    have e4 := B2.out.cell 4 rfl
    have e5 := B2.out.cell 5 rfl
    have e6 := B2.out.cell 6 rfl
    have e7 := B2.out.cell 7 rfl
    refine bodyPost_ret (v := .tuple #[.agg #[.int .i64 0, .int .i64 0, .int .i64 0, .int .i64 0, .int .i64 0, .string ⟨#[]⟩, .slice none 0 0, .int .i64 0], .bool false, sent (E 9)]) (by simp [results, Tryd.results23, go_sem, e0, e1, e2, e3, e4, e5, e6, e7, sent]) rfl ?_
    exact ⟨.slice none 0 0, by rw [HF.out.1, HF.out.2.2.1, HF.out.2.2.2]; rfl, by rw [HF.out.2.1]; exact World.ownsRow_nil _ _ _ _, D2.out⟩
end Go.Proofs.YtnopclacchoijaaDoor
