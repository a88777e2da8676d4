/-
  The program's Take.
-/
import Derived.Test.YtnopclacchoijaaDoorXfAnswer
import Derived.Test.YtnopclacchoijaaDoorXfOf
import Derived.Deep.RegionHeld3
namespace Go.Proofs.YtnopclacchoijaaDoor
open Go.RowKit FerryCrc
set_option linter.unusedVariables false
set_option linter.unusedSimpArgs false

def isSame (on : Bool) (s : Sg) (n : Nt) : Bool := on && sameSg s n
def takE (on : Bool) (s : Sg) (P : List ByteArray) (n : Nt) : Nat := if rgood on s P = true then (if isSame on s n = true then addE s P n else begE n) else 9
def takS (on : Bool) (s : Sg) (P : List ByteArray) (n : Nt) : Sg := if takE on s P n = 0 then (if isSame on s n = true then addS s P n else begS n) else zSg
def takP (on : Bool) (s : Sg) (P : List ByteArray) (n : Nt) : List ByteArray := if takE on s P n = 0 then (if isSame on s n = true then addP s P n else begP n) else []
def takN (on : Bool) (s : Sg) (P : List ByteArray) (n : Nt) : Nt := if takE on s P n = 0 then ansN n else zNt
theorem addE_beg {s : Sg} {P : List ByteArray} {n : Nt} (h : addE s P n = 0) : begE n = 0 := by
  unfold addE at h
  split at h
  · split at h
    · assumption
    · exact h
  · cases h
theorem takE_beg {on : Bool} {s : Sg} {P : List ByteArray} {n : Nt} (h : takE on s P n = 0) : begE n = 0 := by
  unfold takE at h
  split at h
  · split at h
    · exact addE_beg h
    · exact h
  · cases h
theorem held18 {w : World} {B p : Nat} {on : Bool} {pt st tt b r m : Int} {a : Option Addr} {n c : Nat} {k pt2 b2 r2 m2 st2 ix tt2 sm : Int} {d : ByteArray} {t t' : TypeId} (h0 : Bk w B [.bool on, .int .i64 pt, .int .i64 st, .int .i64 tt, .int .i64 b, .int .i64 r, .int .i64 m, .slice a n c] t) (h1 : Bk w p [.int .i64 k, .int .i64 pt2, .int .i64 b2, .int .i64 r2, .int .i64 m2, .int .i64 st2, .int .i64 ix, .int .i64 tt2, .int .u32 sm, .string d] t') :
    w.cell? ⟨B, 0, none⟩ = some (.bool on) ∧ w.cell? ⟨B, 1, none⟩ = some (.int .i64 pt) ∧ w.cell? ⟨B, 2, none⟩ = some (.int .i64 st) ∧ w.cell? ⟨B, 3, none⟩ = some (.int .i64 tt) ∧ w.cell? ⟨B, 4, none⟩ = some (.int .i64 b) ∧ w.cell? ⟨B, 5, none⟩ = some (.int .i64 r) ∧ w.cell? ⟨B, 6, none⟩ = some (.int .i64 m) ∧ w.cell? ⟨B, 7, none⟩ = some (.slice a n c) ∧ w.cell? ⟨p, 0, none⟩ = some (.int .i64 k) ∧ w.cell? ⟨p, 1, none⟩ = some (.int .i64 pt2) ∧ w.cell? ⟨p, 2, none⟩ = some (.int .i64 b2) ∧ w.cell? ⟨p, 3, none⟩ = some (.int .i64 r2) ∧ w.cell? ⟨p, 4, none⟩ = some (.int .i64 m2) ∧ w.cell? ⟨p, 5, none⟩ = some (.int .i64 st2) ∧ w.cell? ⟨p, 6, none⟩ = some (.int .i64 ix) ∧ w.cell? ⟨p, 7, none⟩ = some (.int .i64 tt2) ∧ w.cell? ⟨p, 8, none⟩ = some (.int .u32 sm) ∧ w.cell? ⟨p, 9, none⟩ = some (.string d) :=
  ⟨h0.cell 0 rfl, h0.cell 1 rfl, h0.cell 2 rfl, h0.cell 3 rfl, h0.cell 4 rfl, h0.cell 5 rfl, h0.cell 6 rfl, h0.cell 7 rfl, h1.cell 0 rfl, h1.cell 1 rfl, h1.cell 2 rfl, h1.cell 3 rfl, h1.cell 4 rfl, h1.cell 5 rfl, h1.cell 6 rfl, h1.cell 7 rfl, h1.cell 8 rfl, h1.cell 9 rfl⟩

set_option maxRecDepth 100000 in
set_option maxHeartbeats 4000000 in
theorem take_any (on : Bool) (pt st tt b r m : Int) (a : Option Addr) (n c : Nat) (P : List ByteArray) (k pt2 b2 r2 m2 st2 ix tt2 sm : Int) (d : ByteArray) {w : World} {E : Nat → Addr} (he : Er7 w E) (hP : Txs w a n c P) (hz : ∀ x ∈ P, x.size ≤ 9223372036854775807)
    (hd : d.size ≤ 9223372036854775807) (h1 : -9223372036854775808 ≤ tt2) (h2 : tt2 ≤ 9223372036854775807) :
    Calls Tryd.prog 29 #[.agg #[.bool on, .int .i64 pt, .int .i64 st, .int .i64 tt, .int .i64 b, .int .i64 r, .int .i64 m, .slice a n c], .agg #[.int .i64 k, .int .i64 pt2, .int .i64 b2, .int .i64 r2, .int .i64 m2, .int .i64 st2, .int .i64 ix, .int .i64 tt2, .int .u32 sm, .string d]] w fun e w' => ∃ v, e = .returned (.tuple #[.agg (.bool (decide (takE on ⟨pt, st, tt, b, r, m⟩ P ⟨k, pt2, b2, r2, m2, st2, ix, tt2, sm, d⟩ = 0)) :: (takS on ⟨pt, st, tt, b, r, m⟩ P ⟨k, pt2, b2, r2, m2, st2, ix, tt2, sm, d⟩).cells v).toArray, .agg (takN on ⟨pt, st, tt, b, r, m⟩ P ⟨k, pt2, b2, r2, m2, st2, ix, tt2, sm, d⟩).cells.toArray, erv E (takE on ⟨pt, st, tt, b, r, m⟩ P ⟨k, pt2, b2, r2, m2, st2, ix, tt2, sm, d⟩)]) ∧ TxOwn w' w.heap.size v (takP on ⟨pt, st, tt, b, r, m⟩ P ⟨k, pt2, b2, r2, m2, st2, ix, tt2, sm, d⟩) ∧ Below w.heap.size w w' := by
  obtain ⟨N, hN⟩ : ∃ N : Nt, N = ⟨k, pt2, b2, r2, m2, st2, ix, tt2, sm, d⟩ := ⟨_, rfl⟩
  obtain ⟨S, hS⟩ : ∃ S : Sg, S = ⟨pt, st, tt, b, r, m⟩ := ⟨_, rfl⟩
  have HC1 := hide (fun (w' : World) (h : Txs w' a n c P) => isGood_any on pt st tt b r m a n c P h hz)
  have HC2 := hide (fun (w' : World) (h : Er7 w' E) => begin_any k pt2 b2 r2 m2 st2 ix tt2 sm d h hd h1 h2)
  have HC3 := hide (fun (w' : World) => ofRecv_any on pt st tt b r m a n c w')
  have HC4 := hide (fun (w' : World) => ofNote_any k pt2 b2 r2 m2 st2 ix tt2 sm d w')
  have HC5 := hide (fun (w' : World) (h : Er7 w' E) (hp : Txs w' a n c P) => add_any pt st tt b r m a n c P k pt2 b2 r2 m2 st2 ix tt2 sm d h hp hz hd h1 h2)
  have HC6 := hide (fun (w' : World) (h : Er7 w' E) => answer_any k pt2 b2 r2 m2 st2 ix tt2 sm d h hd h1 h2)
  rw [← hN] at HC2 HC5 HC6 ⊢
  rw [← hS] at HC1 HC5 ⊢
  obtain ⟨W, hW, B0, B1, B2, B3, D0⟩ := box4 w [.bool on, .int .i64 pt, .int .i64 st, .int .i64 tt, .int .i64 b, .int .i64 r, .int .i64 m, .slice a n c] 78 [.int .i64 k, .int .i64 pt2, .int .i64 b2, .int .i64 r2, .int .i64 m2, .int .i64 st2, .int .i64 ix, .int .i64 tt2, .int .u32 sm, .string d] 34 [.bool false, .int .i64 0, .int .i64 0, .int .i64 0, .int .i64 0, .int .i64 0, .int .i64 0, .slice none 0 0] 78 [.int .i64 0, .int .i64 0, .int .i64 0, .int .i64 0, .int .i64 0, .int .i64 0, .int .i64 0, .int .i64 0, .int .u32 0, .string ⟨#[]⟩] 34
  obtain ⟨p, hp⟩ : ∃ p, w.heap.size + 1 = p := ⟨_, rfl⟩
  obtain ⟨q, hq⟩ : ∃ q, w.heap.size + 2 = q := ⟨_, rfl⟩
  obtain ⟨z, hzz⟩ : ∃ z, w.heap.size + 3 = z := ⟨_, rfl⟩
  have HQ0 : Hid (w.heap.size < q ∧ w.heap.size < z ∧ q ≠ z ∧ z ≠ q) := by unfold Hid; omega
  rw [hp] at B1
  rw [hq] at B2
  rw [hzz] at B3
  have HB0 := hide B0
  have HB1 := hide B1
  have HB2 := hide B2
  have HB3 := hide B3
  have HD := hide D0
  have HWD := hide hW
  have HE := hide (he.below D0)
  have HE0 := hide he
  have HN := hide hN
  have HS := hide hS
  have HP := hide (hP.below D0)
  have hPn := hP.size
  have HPQ : Hid (w.heap.size + 1 = p ∧ p + 1 = q ∧ q + 1 = z) := by unfold Hid; omega
  clear B0 B1 B2 B3 D0 hW hN hS he h1 h2 hd hP hz hp hq hzz
  go_enter Tryd.func29, Tryd.ntmps29
  go_upto_region 1 with fail
  have hW := HWD.out
  obtain ⟨hp, hq, hzz⟩ := HPQ.out
  clear HWD HPQ
  simp only [hW, hp, hq, hzz]
  clear hW hp hq hzz
  have g0 := HB0.out.cell 0 rfl
  have g1 := HB0.out.cell 1 rfl
  have g2 := HB0.out.cell 2 rfl
  have g3 := HB0.out.cell 3 rfl
  have g4 := HB0.out.cell 4 rfl
  have g5 := HB0.out.cell 5 rfl
  have g6 := HB0.out.cell 6 rfl
  have g7 := HB0.out.cell 7 rfl
  go_wp2_with fail
  refine Calls.mono (HC1.out W HP.out) ?_
  rintro e w1 ⟨rfl, b1⟩
  replace HB0 := hide (HB0.out.below b1)
  replace HB1 := hide (HB1.out.below b1)
  replace HB2 := hide (HB2.out.below b1)
  replace HB3 := hide (HB3.out.below b1)
  replace HE := hide (HE.out.below b1)
  replace HP := hide (HP.out.below b1)
  replace HD := hide (chain HD.out b1)
  clear b1 HC1 g0 g1 g2 g3 g4 g5 g6 g7
  cases hg : rgood on S P with
  | false =>
    have HF : Hid (takS on S P N = zSg ∧ takP on S P N = [] ∧ takN on S P N = zNt ∧ takE on S P N = 9) := by
      have h9 : takE on S P N = 9 := by
        unfold takE
        rw [if_neg (by rw [hg]; decide)]
      refine ⟨?_, ?_, ?_, h9⟩
      · unfold takS; rw [h9]; exact if_neg (by decide)
      · unfold takP; rw [h9]; exact if_neg (by decide)
      · unfold takN; rw [h9]; exact if_neg (by decide)
    have B2 := hide (Bk.others (Ne.symm HQ0.out.2.2.2) [.int .i64 0, .int .i64 0, .int .i64 0, .int .i64 0, .int .i64 0, .int .i64 0, .int .i64 0, .int .i64 0, .int .u32 0, .string ⟨#[]⟩] 0 (HB2.out.sets [.bool false, .int .i64 0, .int .i64 0, .int .i64 0, .int .i64 0, .int .i64 0, .int .i64 0, .slice none 0 0] rfl))
    have B3 := hide ((Bk.others HQ0.out.2.2.2 [.bool false, .int .i64 0, .int .i64 0, .int .i64 0, .int .i64 0, .int .i64 0, .int .i64 0, .slice none 0 0] 0 HB3.out).sets [.int .i64 0, .int .i64 0, .int .i64 0, .int .i64 0, .int .i64 0, .int .i64 0, .int .i64 0, .int .i64 0, .int .u32 0, .string ⟨#[]⟩] rfl)
    have D2 := hide (below_sets (Nat.le_of_lt HQ0.out.2.1) [.int .i64 0, .int .i64 0, .int .i64 0, .int .i64 0, .int .i64 0, .int .i64 0, .int .i64 0, .int .i64 0, .int .u32 0, .string ⟨#[]⟩] 0 (below_sets (Nat.le_of_lt HQ0.out.1) [.bool false, .int .i64 0, .int .i64 0, .int .i64 0, .int .i64 0, .int .i64 0, .int .i64 0, .slice none 0 0] 0 HD.out))
    have D1 := hide (below_sets (Nat.le_of_lt HQ0.out.1) [.bool false, .int .i64 0, .int .i64 0, .int .i64 0, .int .i64 0, .int .i64 0, .int .i64 0, .slice none 0 0] 0 HD.out)
    have ve := HE.out.v9
    have ves := (HE0.out.below D2.out).v9
    have vet := (HE0.out.below D1.out).v9
    have ved := (HE0.out.below D2.out.drew).v9
    unfold sent at ve ves ved vet
    have hp1 : 0 ≠ q ∧ 0 ≠ z := by
      have h1 := block_lt_of_cell HE0.out.v9
      have h2 := HQ0.out
      simp only at h1
      omega
    obtain ⟨hp1, hp3⟩ := hp1
    have hp2 : q ≠ 0 := Ne.symm hp1
    have hp4 : z ≠ 0 := Ne.symm hp3
    have f0 := HB2.out.frozen 0
    have f1 := HB2.out.frozen 1
    have f2 := HB2.out.frozen 2
    have f3 := HB2.out.frozen 3
    have f4 := HB2.out.frozen 4
    have f5 := HB2.out.frozen 5
    have f6 := HB2.out.frozen 6
    have f7 := HB2.out.frozen 7
    have g0 := HB2.out.cell 0 rfl
    have g1 := HB2.out.cell 1 rfl
    have g2 := HB2.out.cell 2 rfl
    have g3 := HB2.out.cell 3 rfl
    have g4 := HB2.out.cell 4 rfl
    have g5 := HB2.out.cell 5 rfl
    have g6 := HB2.out.cell 6 rfl
    have g7 := HB2.out.cell 7 rfl
    have fz0 := HB3.out.frozen 0
    have fz1 := HB3.out.frozen 1
    have fz2 := HB3.out.frozen 2
    have fz3 := HB3.out.frozen 3
    have fz4 := HB3.out.frozen 4
    have fz5 := HB3.out.frozen 5
    have fz6 := HB3.out.frozen 6
    have fz7 := HB3.out.frozen 7
    have fz8 := HB3.out.frozen 8
    have fz9 := HB3.out.frozen 9
    have gz0 := HB3.out.cell 0 rfl
    have gz1 := HB3.out.cell 1 rfl
    have gz2 := HB3.out.cell 2 rfl
    have gz3 := HB3.out.cell 3 rfl
    have gz4 := HB3.out.cell 4 rfl
    have gz5 := HB3.out.cell 5 rfl
    have gz6 := HB3.out.cell 6 rfl
    have gz7 := HB3.out.cell 7 rfl
    have gz8 := HB3.out.cell 8 rfl
    have gz9 := HB3.out.cell 9 rfl
    have hqz := HQ0.out.2.2.1
    have hzq := HQ0.out.2.2.2
    go_upto_region 2 with fail
    go_region
    go_wp2
    obtain ⟨W9, hW9⟩ : ∃ W9, ((((((((((((((((((w1.setCell ⟨q, 0, none⟩ (.bool false)).setCell ⟨q, 1, none⟩ (.int .i64 0)).setCell ⟨q, 2, none⟩ (.int .i64 0)).setCell ⟨q, 3, none⟩ (.int .i64 0)).setCell ⟨q, 4, none⟩ (.int .i64 0)).setCell ⟨q, 5, none⟩ (.int .i64 0)).setCell ⟨q, 6, none⟩ (.int .i64 0)).setCell ⟨q, 7, none⟩ (.slice none 0 0)).setCell ⟨z, 0, none⟩ (.int .i64 0)).setCell ⟨z, 1, none⟩ (.int .i64 0)).setCell ⟨z, 2, none⟩ (.int .i64 0)).setCell ⟨z, 3, none⟩ (.int .i64 0)).setCell ⟨z, 4, none⟩ (.int .i64 0)).setCell ⟨z, 5, none⟩ (.int .i64 0)).setCell ⟨z, 6, none⟩ (.int .i64 0)).setCell ⟨z, 7, none⟩ (.int .i64 0)).setCell ⟨z, 8, none⟩ (.int .u32 0)).setCell ⟨z, 9, none⟩ (.string ⟨#[]⟩)) = W9 := ⟨_, rfl⟩
    simp only [hW9]
    rw [show ((w1).setCells q 0 [.bool false, .int .i64 0, .int .i64 0, .int .i64 0, .int .i64 0, .int .i64 0, .int .i64 0, .slice none 0 0]).setCells z 0 [.int .i64 0, .int .i64 0, .int .i64 0, .int .i64 0, .int .i64 0, .int .i64 0, .int .i64 0, .int .i64 0, .int .u32 0, .string ⟨#[]⟩] = W9 from hW9] at B2 B3 D2
    clear hW9
    replace B2 := hide (B2.out.below (Below.refl _ _).drew)
    replace B3 := hide (B3.out.below (Below.refl _ _).drew)
    replace D2 := hide D2.out.drew
    have e0 := B2.out.cell 0 rfl
    have e1 := B2.out.cell 1 rfl
    have e2 := B2.out.cell 2 rfl
    have e3 := B2.out.cell 3 rfl
    have e4 := B2.out.cell 4 rfl
    have e5 := B2.out.cell 5 rfl
    have e6 := B2.out.cell 6 rfl
    have e7 := B2.out.cell 7 rfl
    have i0 := B3.out.cell 0 rfl
    have i1 := B3.out.cell 1 rfl
    have i2 := B3.out.cell 2 rfl
    have i3 := B3.out.cell 3 rfl
    have i4 := B3.out.cell 4 rfl
    have i5 := B3.out.cell 5 rfl
    have i6 := B3.out.cell 6 rfl
    have i7 := B3.out.cell 7 rfl
    have i8 := B3.out.cell 8 rfl
    have i9 := B3.out.cell 9 rfl
    refine bodyPost_ret (v := .tuple #[.agg #[.bool false, .int .i64 0, .int .i64 0, .int .i64 0, .int .i64 0, .int .i64 0, .int .i64 0, .slice none 0 0], .agg #[.int .i64 0, .int .i64 0, .int .i64 0, .int .i64 0, .int .i64 0, .int .i64 0, .int .i64 0, .int .i64 0, .int .u32 0, .string ⟨#[]⟩], sent (E 9)]) (by simp [results, Tryd.results29, go_sem, e0, e1, e2, e3, e4, e5, e6, e7, i0, i1, i2, i3, i4, i5, i6, i7, i8, i9, sent]) rfl ?_
    exact ⟨.slice none 0 0, by rw [HF.out.1, HF.out.2.2.1, HF.out.2.2.2]; rfl, by rw [HF.out.2.1]; exact World.ownsRow_nil _ _ _ _, D2.out⟩
  | true =>
    have g0 := HB1.out.cell 0 rfl
    have g1 := HB1.out.cell 1 rfl
    have g2 := HB1.out.cell 2 rfl
    have g3 := HB1.out.cell 3 rfl
    have g4 := HB1.out.cell 4 rfl
    have g5 := HB1.out.cell 5 rfl
    have g6 := HB1.out.cell 6 rfl
    have g7 := HB1.out.cell 7 rfl
    have g8 := HB1.out.cell 8 rfl
    have g9 := HB1.out.cell 9 rfl
    go_upto_region 3 with fail
    go_wp2_with fail
    refine Calls.mono (HC2.out w1 HE.out) ?_
    rintro e w2 ⟨v, rfl, o2, b1⟩
    have HWS := hide HD.out.size
    have HL2 := hide HB2.out.lt
    have HL3 := hide HB3.out.lt
    replace HB0 := hide (HB0.out.below b1)
    replace HB1 := hide (HB1.out.below b1)
    replace HB2 := hide (HB2.out.below b1)
    replace HB3 := hide (HB3.out.below b1)
    replace HE := hide (HE.out.below b1)
    replace HP := hide (HP.out.below b1)
    replace HD := hide (chain HD.out b1)
    obtain ⟨ya, yc, rfl, -⟩ := o2.rcs
    obtain ⟨yn, hyn⟩ : ∃ yn, (begP N).length = yn := ⟨_, rfl⟩
    rw [hyn] at o2 ⊢
    obtain ⟨X, hX⟩ : ∃ X, begS N = X := ⟨_, rfl⟩
    rw [hX]
    obtain ⟨x1, x2, x3, x4, x5, x6⟩ := X
    have HX := hide hX
    have HO := hide o2
    obtain ⟨bs, hbs⟩ : ∃ bs, w1.heap.size = bs := ⟨_, rfl⟩
    rw [hbs] at HO
    have HBS : Hid (q < bs ∧ z < bs ∧ w.heap.size ≤ bs) := ⟨by rw [← hbs]; exact HL2.out, by rw [← hbs]; exact HL3.out, by rw [← hbs]; exact HWS.out⟩
    clear hbs HWS HL2 HL3
    unfold Sg.cells
    simp only
    clear hyn o2 b1 HC2 g0 g1 g2 g3 g4 g5 g6 g7 g8 g9 hX
    obtain ⟨KB, hKB⟩ : ∃ KB, erv E (begE N) = KB := ⟨_, rfl⟩
    rw [hKB]
    have HKB := hide hKB
    clear hKB
    obtain ⟨W3, hW3, B3, D3⟩ := box1 w2 [.int .i64 x1, .int .i64 x2, .int .i64 x3, .int .i64 x4, .int .i64 x5, .int .i64 x6, .slice ya yn yc] 76
    obtain ⟨g, hgq⟩ : ∃ g, w2.heap.size = g := ⟨_, rfl⟩
    rw [hgq] at B3
    have HG := hide B3
    have HW3 := hide hW3
    have HGQ := hide hgq
    have hl0 := HB0.out.lt
    have hl1 := HB1.out.lt
    have hl2 := HB2.out.lt
    have hl3 := HB3.out.lt
    have HNG : Hid (w.heap.size ≠ g ∧ p ≠ g ∧ q ≠ g ∧ z ≠ g ∧ w.heap.size ≤ g) := ⟨by omega, by omega, by omega, by omega, by omega⟩
    replace HB0 := hide (HB0.out.below D3)
    replace HB1 := hide (HB1.out.below D3)
    replace HB2 := hide (HB2.out.below D3)
    replace HB3 := hide (HB3.out.below D3)
    replace HE := hide (HE.out.below D3)
    replace HP := hide (HP.out.below D3)
    replace HO := hide (HO.out.below D3)
    replace HD := hide (chain HD.out D3)
    clear B3 D3 hW3 hgq hl0 hl1 hl2 hl3
    go_upto_region 4 with fail
    have hW3 := HW3.out
    have hgq := HGQ.out
    simp only [hW3, hgq]
    clear HW3 HGQ hW3 hgq
    have HY : Hid (isSame on S N = (on && (pt2 == pt && (b2 == b && r2 == r && m2 == m) && st2 == st && tt2 == tt))) := by rw [HS.out, HN.out]; rfl
    go_cut [29] from 21 to 29 (fun v wz => ∃ y, v = .bool y ∧ Hid (y = isSame on S N) ∧ Hid (Below W3.heap.size W3 wz))
    case first =>
      cases on with
      | false =>
        have g0 := HB0.out.cell 0 rfl
        go_quiet (fail)
        go_wp2
        go_meet
        case rel => exact ⟨false, rfl, by rw [HY.out]; rfl, ⟨rfl, rfl, rfl, Nat.le_refl _, fun _ _ => rfl⟩⟩
      | true =>
        have HQ := fun (w' : World) => tr_eql (p := pt2) (b := b2) (r := r2) (m := m2) (s := st2) (t := tt2) (p2 := pt) (b2 := b) (r2 := r) (m2 := m) (s2 := st) (t2 := tt) w'
        have HYY : Hid ((pt == pt2 && (b == b2 && r == r2 && m == m2) && st == st2 && tt == tt2) = isSame true S N) := by
          unfold Hid
          rw [HY.out, Bool.true_and, Bool.beq_comm (a := pt2), Bool.beq_comm (a := b2), Bool.beq_comm (a := r2), Bool.beq_comm (a := m2), Bool.beq_comm (a := st2), Bool.beq_comm (a := tt2)]
        obtain ⟨y, hy⟩ : ∃ y, (pt == pt2 && (b == b2 && r == r2 && m == m2) && st == st2 && tt == tt2) = y := ⟨_, rfl⟩
        rw [hy] at HYY
        simp only [hy] at HQ
        clear hy
        have F0 := hide (HB0.out.below (Below.refl _ W3).drew)
        have F1 := hide (HB1.out.below (Below.refl _ W3).drew)
        have hgt : Tryd.prog.eqGuardType Tryd.prog.depth 102 = false := by kernel_rfl
        go_region_held3 (fun wz => wz.cell? ⟨w.heap.size, 0, none⟩ = some (.bool true) ∧ wz.cell? ⟨w.heap.size, 1, none⟩ = some (.int .i64 pt) ∧ wz.cell? ⟨w.heap.size, 2, none⟩ = some (.int .i64 st) ∧ wz.cell? ⟨w.heap.size, 3, none⟩ = some (.int .i64 tt) ∧ wz.cell? ⟨w.heap.size, 4, none⟩ = some (.int .i64 b) ∧ wz.cell? ⟨w.heap.size, 5, none⟩ = some (.int .i64 r) ∧ wz.cell? ⟨w.heap.size, 6, none⟩ = some (.int .i64 m) ∧ wz.cell? ⟨w.heap.size, 7, none⟩ = some (.slice a n c) ∧ wz.cell? ⟨p, 0, none⟩ = some (.int .i64 k) ∧ wz.cell? ⟨p, 1, none⟩ = some (.int .i64 pt2) ∧ wz.cell? ⟨p, 2, none⟩ = some (.int .i64 b2) ∧ wz.cell? ⟨p, 3, none⟩ = some (.int .i64 r2) ∧ wz.cell? ⟨p, 4, none⟩ = some (.int .i64 m2) ∧ wz.cell? ⟨p, 5, none⟩ = some (.int .i64 st2) ∧ wz.cell? ⟨p, 6, none⟩ = some (.int .i64 ix) ∧ wz.cell? ⟨p, 7, none⟩ = some (.int .i64 tt2) ∧ wz.cell? ⟨p, 8, none⟩ = some (.int .u32 sm) ∧ wz.cell? ⟨p, 9, none⟩ = some (.string d)) (first | exact held18 F0.out F1.out | exact held18 K0.out K1.out | exact held18 M0.out M1.out) (first | (go_at_call 57; refine Calls.mono (HC3.out _) ?_; rintro e w5 ⟨rfl, b5⟩; have BV := hide b5; have K0 := hide (F0.out.below b5); have K1 := hide (F1.out.below b5); clear b5) | (go_at_call 45; refine Calls.mono (HC4.out _) ?_; rintro e w6 ⟨rfl, b6⟩; have BW := hide b6; have M0 := hide (K0.out.below b6); have M1 := hide (K1.out.below b6); clear b6) | fail)
        go_wp2
        go_meet
        case rel => exact ⟨y, rfl, HYY.out, chain (chain (Below.refl W3.heap.size W3).drew BV.out) BW.out⟩
    case rest =>
      obtain ⟨y, rfl, HYE, HWC⟩ := hcut
      have HG0 : Hid (g < wc.heap.size) := Nat.lt_of_lt_of_le HG.out.lt HWC.out.size
      replace HB0 := hide (HB0.out.below HWC.out)
      replace HB1 := hide (HB1.out.below HWC.out)
      replace HB2 := hide (HB2.out.below HWC.out)
      replace HB3 := hide (HB3.out.below HWC.out)
      replace HE := hide (HE.out.below HWC.out)
      replace HP := hide (HP.out.below HWC.out)
      replace HO := hide (HO.out.below HWC.out)
      replace HG := hide (HG.out.below HWC.out)
      replace HD := hide (chain HD.out HWC.out)
      cases y with
      | false =>
        have HT : Hid (takE on S P N = begE N ∧ (begE N = 0 → takS on S P N = ⟨x1, x2, x3, x4, x5, x6⟩ ∧ takP on S P N = begP N)) := by
          have h9 : takE on S P N = begE N := by unfold takE; rw [if_pos hg, if_neg (by rw [← HYE.out]; decide)]
          refine ⟨h9, fun h0 => ⟨?_, ?_⟩⟩
          · unfold takS; rw [h9, if_pos h0, if_neg (by rw [← HYE.out]; decide)]; exact HX.out
          · unfold takP; rw [h9, if_pos h0, if_neg (by rw [← HYE.out]; decide)]
        by_cases hK : begE N = 0
        · --
          obtain rfl : KB = .nilIface := by rw [← HKB.out, hK]; rfl
          have HT0 := hide (HT.out.2 hK)
          have HTE : Hid (takE on S P N = 0) := by rw [HT.out.1]; exact hK
          have HBE := hide (takE_beg HTE.out)
          obtain ⟨hck, hk1⟩ := begE_open HBE.out
          have HAE : Hid (ansE N = 0) := by unfold Hid ansE; rw [if_pos hck, if_pos hk1]
          have HAN : Hid (ansN N = ⟨7, pt2, b2, r2, m2, st2, ix, tt2, 0, ⟨#[]⟩⟩) := by unfold Hid ansN; rw [if_pos HAE.out, HN.out]
          have HTN : Hid (takN on S P N = ⟨7, pt2, b2, r2, m2, st2, ix, tt2, 0, ⟨#[]⟩⟩) := by unfold Hid takN; rw [if_pos HTE.out]; exact HAN.out
          have HC7 := hide (HC6.out wc HE.out hck (by rw [HN.out] at hk1; exact hk1))
          rw [HAE.out, HAN.out] at HC7
          clear hck hk1 HC6 HT hK HKB HBE
          have g0 := HB1.out.cell 0 rfl
          have g1 := HB1.out.cell 1 rfl
          have g2 := HB1.out.cell 2 rfl
          have g3 := HB1.out.cell 3 rfl
          have g4 := HB1.out.cell 4 rfl
          have g5 := HB1.out.cell 5 rfl
          have g6 := HB1.out.cell 6 rfl
          have g7 := HB1.out.cell 7 rfl
          have g8 := HB1.out.cell 8 rfl
          have g9 := HB1.out.cell 9 rfl
          go_upto_region 8 with fail
          go_wp2_with fail
          refine Calls.mono HC7.out ?_
          rintro e w6 ⟨rfl, b6⟩
          rw [show erv E 0 = .nilIface from rfl]
          unfold Nt.cells
          simp only
          obtain ⟨W7, hW7, B7, D7⟩ := box1 w6 [.int .i64 7, .int .i64 pt2, .int .i64 b2, .int .i64 r2, .int .i64 m2, .int .i64 st2, .int .i64 ix, .int .i64 tt2, .int .u32 0, .string ⟨#[]⟩] 34
          obtain ⟨h, hgh⟩ : ∃ h, w6.heap.size = h := ⟨_, rfl⟩
          rw [hgh] at B7
          have HH := hide B7
          have HW7 := hide hW7
          have HGH := hide hgh
          replace HB2 := hide (HB2.out.below b6)
          replace HB3 := hide (HB3.out.below b6)
          replace HG := hide (HG.out.below b6)
          replace HO := hide (HO.out.below b6)
          replace HD := hide (chain HD.out b6)
          have hl2 := HB2.out.lt
          have hl3 := HB3.out.lt
          have hhq : h ≠ q ∧ h ≠ z := by omega
          obtain ⟨hhq, hhz⟩ := hhq
          have hqh := Ne.symm hhq
          have hzh := Ne.symm hhz
          replace HB2 := hide (HB2.out.below D7)
          replace HB3 := hide (HB3.out.below D7)
          replace HG := hide (HG.out.below D7)
          replace HO := hide (HO.out.below D7)
          replace HD := hide (chain HD.out D7)
          clear B7 D7 hW7 hgh b6 hl2 hl3 g0 g1 g2 g3 g4 g5 g6 g7 g8 g9 HC7
          go_upto_region 11 with fail
          have hW7 := HW7.out
          have hgh := HGH.out
          simp only [hW7, hgh]
          clear HW7 HGH hW7 hgh
          have Q2 := hide (Bk.others (Ne.symm HQ0.out.2.2.2) [.int .i64 7, .int .i64 pt2, .int .i64 b2, .int .i64 r2, .int .i64 m2, .int .i64 st2, .int .i64 ix, .int .i64 tt2, .int .u32 0, .string ⟨#[]⟩] 0 (HB2.out.sets [.bool true, .int .i64 x1, .int .i64 x2, .int .i64 x3, .int .i64 x4, .int .i64 x5, .int .i64 x6, .slice ya yn yc] rfl))
          have Q3 := hide ((Bk.others HQ0.out.2.2.2 [.bool true, .int .i64 x1, .int .i64 x2, .int .i64 x3, .int .i64 x4, .int .i64 x5, .int .i64 x6, .slice ya yn yc] 0 HB3.out).sets [.int .i64 7, .int .i64 pt2, .int .i64 b2, .int .i64 r2, .int .i64 m2, .int .i64 st2, .int .i64 ix, .int .i64 tt2, .int .u32 0, .string ⟨#[]⟩] rfl)
          have QD := hide (below_sets (Nat.le_of_lt HQ0.out.2.1) [.int .i64 7, .int .i64 pt2, .int .i64 b2, .int .i64 r2, .int .i64 m2, .int .i64 st2, .int .i64 ix, .int .i64 tt2, .int .u32 0, .string ⟨#[]⟩] 0 (below_sets (Nat.le_of_lt HQ0.out.1) [.bool true, .int .i64 x1, .int .i64 x2, .int .i64 x3, .int .i64 x4, .int .i64 x5, .int .i64 x6, .slice ya yn yc] 0 HD.out))
          have QO := hide (LOwn.fars (HO.out.off HBS.out.2.1) [.int .i64 7, .int .i64 pt2, .int .i64 b2, .int .i64 r2, .int .i64 m2, .int .i64 st2, .int .i64 ix, .int .i64 tt2, .int .u32 0, .string ⟨#[]⟩] 0 (LOwn.fars (HO.out.off HBS.out.1) [.bool true, .int .i64 x1, .int .i64 x2, .int .i64 x3, .int .i64 x4, .int .i64 x5, .int .i64 x6, .slice ya yn yc] 0 HO.out))
          have c0 := HG.out.cell 0 rfl
          have c1 := HG.out.cell 1 rfl
          have c2 := HG.out.cell 2 rfl
          have c3 := HG.out.cell 3 rfl
          have c4 := HG.out.cell 4 rfl
          have c5 := HG.out.cell 5 rfl
          have c6 := HG.out.cell 6 rfl
          have d0 := HH.out.cell 0 rfl
          have d1 := HH.out.cell 1 rfl
          have d2 := HH.out.cell 2 rfl
          have d3 := HH.out.cell 3 rfl
          have d4 := HH.out.cell 4 rfl
          have d5 := HH.out.cell 5 rfl
          have d6 := HH.out.cell 6 rfl
          have d7 := HH.out.cell 7 rfl
          have d8 := HH.out.cell 8 rfl
          have d9 := HH.out.cell 9 rfl
          have f0 := HB2.out.frozen 0
          have f1 := HB2.out.frozen 1
          have f2 := HB2.out.frozen 2
          have f3 := HB2.out.frozen 3
          have f4 := HB2.out.frozen 4
          have f5 := HB2.out.frozen 5
          have f6 := HB2.out.frozen 6
          have f7 := HB2.out.frozen 7
          have g0 := HB2.out.cell 0 rfl
          have g1 := HB2.out.cell 1 rfl
          have g2 := HB2.out.cell 2 rfl
          have g3 := HB2.out.cell 3 rfl
          have g4 := HB2.out.cell 4 rfl
          have g5 := HB2.out.cell 5 rfl
          have g6 := HB2.out.cell 6 rfl
          have g7 := HB2.out.cell 7 rfl
          have fz0 := HB3.out.frozen 0
          have fz1 := HB3.out.frozen 1
          have fz2 := HB3.out.frozen 2
          have fz3 := HB3.out.frozen 3
          have fz4 := HB3.out.frozen 4
          have fz5 := HB3.out.frozen 5
          have fz6 := HB3.out.frozen 6
          have fz7 := HB3.out.frozen 7
          have fz8 := HB3.out.frozen 8
          have fz9 := HB3.out.frozen 9
          have gz0 := HB3.out.cell 0 rfl
          have gz1 := HB3.out.cell 1 rfl
          have gz2 := HB3.out.cell 2 rfl
          have gz3 := HB3.out.cell 3 rfl
          have gz4 := HB3.out.cell 4 rfl
          have gz5 := HB3.out.cell 5 rfl
          have gz6 := HB3.out.cell 6 rfl
          have gz7 := HB3.out.cell 7 rfl
          have gz8 := HB3.out.cell 8 rfl
          have gz9 := HB3.out.cell 9 rfl
          have hqz := HQ0.out.2.2.1
          have hzq := HQ0.out.2.2.2
          go_region
          go_wp2
          obtain ⟨W9, hW9⟩ : ∃ W9, ((((((((((((((((((W7.setCell ⟨q, 0, none⟩ (.bool true)).setCell ⟨q, 1, none⟩ (.int .i64 x1)).setCell ⟨q, 2, none⟩ (.int .i64 x2)).setCell ⟨q, 3, none⟩ (.int .i64 x3)).setCell ⟨q, 4, none⟩ (.int .i64 x4)).setCell ⟨q, 5, none⟩ (.int .i64 x5)).setCell ⟨q, 6, none⟩ (.int .i64 x6)).setCell ⟨q, 7, none⟩ (.slice ya yn yc)).setCell ⟨z, 0, none⟩ (.int .i64 7)).setCell ⟨z, 1, none⟩ (.int .i64 pt2)).setCell ⟨z, 2, none⟩ (.int .i64 b2)).setCell ⟨z, 3, none⟩ (.int .i64 r2)).setCell ⟨z, 4, none⟩ (.int .i64 m2)).setCell ⟨z, 5, none⟩ (.int .i64 st2)).setCell ⟨z, 6, none⟩ (.int .i64 ix)).setCell ⟨z, 7, none⟩ (.int .i64 tt2)).setCell ⟨z, 8, none⟩ (.int .u32 0)).setCell ⟨z, 9, none⟩ (.string ⟨#[]⟩)) = W9 := ⟨_, rfl⟩
          simp only [hW9]
          rw [show (W7.setCells q 0 [.bool true, .int .i64 x1, .int .i64 x2, .int .i64 x3, .int .i64 x4, .int .i64 x5, .int .i64 x6, .slice ya yn yc]).setCells z 0 [.int .i64 7, .int .i64 pt2, .int .i64 b2, .int .i64 r2, .int .i64 m2, .int .i64 st2, .int .i64 ix, .int .i64 tt2, .int .u32 0, .string ⟨#[]⟩] = W9 from hW9] at Q2 Q3 QD QO
          clear hW9
          replace Q2 := hide (Q2.out.below (Below.refl _ _).drew)
          replace Q3 := hide (Q3.out.below (Below.refl _ _).drew)
          replace QO := hide (QO.out.below (Below.refl _ _).drew)
          replace QD := hide QD.out.drew
          have e0 := Q2.out.cell 0 rfl
          have e1 := Q2.out.cell 1 rfl
          have e2 := Q2.out.cell 2 rfl
          have e3 := Q2.out.cell 3 rfl
          have e4 := Q2.out.cell 4 rfl
          have e5 := Q2.out.cell 5 rfl
          have e6 := Q2.out.cell 6 rfl
          have e7 := Q2.out.cell 7 rfl
          have i0 := Q3.out.cell 0 rfl
          have i1 := Q3.out.cell 1 rfl
          have i2 := Q3.out.cell 2 rfl
          have i3 := Q3.out.cell 3 rfl
          have i4 := Q3.out.cell 4 rfl
          have i5 := Q3.out.cell 5 rfl
          have i6 := Q3.out.cell 6 rfl
          have i7 := Q3.out.cell 7 rfl
          have i8 := Q3.out.cell 8 rfl
          have i9 := Q3.out.cell 9 rfl
          refine bodyPost_ret (v := .tuple #[.agg #[.bool true, .int .i64 x1, .int .i64 x2, .int .i64 x3, .int .i64 x4, .int .i64 x5, .int .i64 x6, .slice ya yn yc], .agg #[.int .i64 7, .int .i64 pt2, .int .i64 b2, .int .i64 r2, .int .i64 m2, .int .i64 st2, .int .i64 ix, .int .i64 tt2, .int .u32 0, .string ⟨#[]⟩], .nilIface]) (by simp [results, Tryd.results29, go_sem, e0, e1, e2, e3, e4, e5, e6, e7, i0, i1, i2, i3, i4, i5, i6, i7, i8, i9]) rfl ?_
          exact ⟨.slice ya yn yc, by rw [HTE.out, HT0.out.1, HTN.out]; rfl, by rw [HT0.out.2]; exact QO.out.weaken HBS.out.2.2, QD.out⟩
        · --
          have HF : Hid (takS on S P N = zSg ∧ takP on S P N = [] ∧ takN on S P N = zNt ∧ takE on S P N = begE N) := by
            have h9 : takE on S P N = begE N := by
              exact HT.out.1
            refine ⟨?_, ?_, ?_, h9⟩
            · unfold takS; rw [h9]; exact if_neg hK
            · unfold takP; rw [h9]; exact if_neg hK
            · unfold takN; rw [h9]; exact if_neg hK
          obtain rfl : KB = sent (E (begE N)) := by rw [← HKB.out]; exact if_neg hK
          unfold sent
          have B2 := hide (Bk.others (Ne.symm HQ0.out.2.2.2) [.int .i64 0, .int .i64 0, .int .i64 0, .int .i64 0, .int .i64 0, .int .i64 0, .int .i64 0, .int .i64 0, .int .u32 0, .string ⟨#[]⟩] 0 (HB2.out.sets [.bool false, .int .i64 0, .int .i64 0, .int .i64 0, .int .i64 0, .int .i64 0, .int .i64 0, .slice none 0 0] rfl))
          have B3 := hide ((Bk.others HQ0.out.2.2.2 [.bool false, .int .i64 0, .int .i64 0, .int .i64 0, .int .i64 0, .int .i64 0, .int .i64 0, .slice none 0 0] 0 HB3.out).sets [.int .i64 0, .int .i64 0, .int .i64 0, .int .i64 0, .int .i64 0, .int .i64 0, .int .i64 0, .int .i64 0, .int .u32 0, .string ⟨#[]⟩] rfl)
          have D2 := hide (below_sets (Nat.le_of_lt HQ0.out.2.1) [.int .i64 0, .int .i64 0, .int .i64 0, .int .i64 0, .int .i64 0, .int .i64 0, .int .i64 0, .int .i64 0, .int .u32 0, .string ⟨#[]⟩] 0 (below_sets (Nat.le_of_lt HQ0.out.1) [.bool false, .int .i64 0, .int .i64 0, .int .i64 0, .int .i64 0, .int .i64 0, .int .i64 0, .slice none 0 0] 0 HD.out))
          have f0 := HB2.out.frozen 0
          have f1 := HB2.out.frozen 1
          have f2 := HB2.out.frozen 2
          have f3 := HB2.out.frozen 3
          have f4 := HB2.out.frozen 4
          have f5 := HB2.out.frozen 5
          have f6 := HB2.out.frozen 6
          have f7 := HB2.out.frozen 7
          have g0 := HB2.out.cell 0 rfl
          have g1 := HB2.out.cell 1 rfl
          have g2 := HB2.out.cell 2 rfl
          have g3 := HB2.out.cell 3 rfl
          have g4 := HB2.out.cell 4 rfl
          have g5 := HB2.out.cell 5 rfl
          have g6 := HB2.out.cell 6 rfl
          have g7 := HB2.out.cell 7 rfl
          have fz0 := HB3.out.frozen 0
          have fz1 := HB3.out.frozen 1
          have fz2 := HB3.out.frozen 2
          have fz3 := HB3.out.frozen 3
          have fz4 := HB3.out.frozen 4
          have fz5 := HB3.out.frozen 5
          have fz6 := HB3.out.frozen 6
          have fz7 := HB3.out.frozen 7
          have fz8 := HB3.out.frozen 8
          have fz9 := HB3.out.frozen 9
          have gz0 := HB3.out.cell 0 rfl
          have gz1 := HB3.out.cell 1 rfl
          have gz2 := HB3.out.cell 2 rfl
          have gz3 := HB3.out.cell 3 rfl
          have gz4 := HB3.out.cell 4 rfl
          have gz5 := HB3.out.cell 5 rfl
          have gz6 := HB3.out.cell 6 rfl
          have gz7 := HB3.out.cell 7 rfl
          have gz8 := HB3.out.cell 8 rfl
          have gz9 := HB3.out.cell 9 rfl
          have hqz := HQ0.out.2.2.1
          have hzq := HQ0.out.2.2.2
          go_wp2
          obtain ⟨W9, hW9⟩ : ∃ W9, ((((((((((((((((((wc.setCell ⟨q, 0, none⟩ (.bool false)).setCell ⟨q, 1, none⟩ (.int .i64 0)).setCell ⟨q, 2, none⟩ (.int .i64 0)).setCell ⟨q, 3, none⟩ (.int .i64 0)).setCell ⟨q, 4, none⟩ (.int .i64 0)).setCell ⟨q, 5, none⟩ (.int .i64 0)).setCell ⟨q, 6, none⟩ (.int .i64 0)).setCell ⟨q, 7, none⟩ (.slice none 0 0)).setCell ⟨z, 0, none⟩ (.int .i64 0)).setCell ⟨z, 1, none⟩ (.int .i64 0)).setCell ⟨z, 2, none⟩ (.int .i64 0)).setCell ⟨z, 3, none⟩ (.int .i64 0)).setCell ⟨z, 4, none⟩ (.int .i64 0)).setCell ⟨z, 5, none⟩ (.int .i64 0)).setCell ⟨z, 6, none⟩ (.int .i64 0)).setCell ⟨z, 7, none⟩ (.int .i64 0)).setCell ⟨z, 8, none⟩ (.int .u32 0)).setCell ⟨z, 9, none⟩ (.string ⟨#[]⟩)) = W9 := ⟨_, rfl⟩
          simp only [hW9]
          rw [show ((wc).setCells q 0 [.bool false, .int .i64 0, .int .i64 0, .int .i64 0, .int .i64 0, .int .i64 0, .int .i64 0, .slice none 0 0]).setCells z 0 [.int .i64 0, .int .i64 0, .int .i64 0, .int .i64 0, .int .i64 0, .int .i64 0, .int .i64 0, .int .i64 0, .int .u32 0, .string ⟨#[]⟩] = W9 from hW9] at B2 B3 D2
          clear hW9
          have e0 := B2.out.cell 0 rfl
          have e1 := B2.out.cell 1 rfl
          have e2 := B2.out.cell 2 rfl
          have e3 := B2.out.cell 3 rfl
          have e4 := B2.out.cell 4 rfl
          have e5 := B2.out.cell 5 rfl
          have e6 := B2.out.cell 6 rfl
          have e7 := B2.out.cell 7 rfl
          have i0 := B3.out.cell 0 rfl
          have i1 := B3.out.cell 1 rfl
          have i2 := B3.out.cell 2 rfl
          have i3 := B3.out.cell 3 rfl
          have i4 := B3.out.cell 4 rfl
          have i5 := B3.out.cell 5 rfl
          have i6 := B3.out.cell 6 rfl
          have i7 := B3.out.cell 7 rfl
          have i8 := B3.out.cell 8 rfl
          have i9 := B3.out.cell 9 rfl
          refine bodyPost_ret (v := .tuple #[.agg #[.bool false, .int .i64 0, .int .i64 0, .int .i64 0, .int .i64 0, .int .i64 0, .int .i64 0, .slice none 0 0], .agg #[.int .i64 0, .int .i64 0, .int .i64 0, .int .i64 0, .int .i64 0, .int .i64 0, .int .i64 0, .int .i64 0, .int .u32 0, .string ⟨#[]⟩], sent (E (begE N))]) (by simp [results, Tryd.results29, go_sem, e0, e1, e2, e3, e4, e5, e6, e7, i0, i1, i2, i3, i4, i5, i6, i7, i8, i9, sent]) rfl ?_
          exact ⟨.slice none 0 0, by rw [HF.out.1, HF.out.2.2.1, HF.out.2.2.2]; unfold erv; rw [if_neg hK]; first | rfl | (rw [decide_eq_false hK]; rfl), by rw [HF.out.2.1]; exact World.ownsRow_nil _ _ _ _, D2.out⟩
      | true =>
        have h0 := HB0.out.cell 0 rfl
        have h1 := HB0.out.cell 1 rfl
        have h2 := HB0.out.cell 2 rfl
        have h3 := HB0.out.cell 3 rfl
        have h4 := HB0.out.cell 4 rfl
        have h5 := HB0.out.cell 5 rfl
        have h6 := HB0.out.cell 6 rfl
        have h7 := HB0.out.cell 7 rfl
        have g0 := HB1.out.cell 0 rfl
        have g1 := HB1.out.cell 1 rfl
        have g2 := HB1.out.cell 2 rfl
        have g3 := HB1.out.cell 3 rfl
        have g4 := HB1.out.cell 4 rfl
        have g5 := HB1.out.cell 5 rfl
        have g6 := HB1.out.cell 6 rfl
        have g7 := HB1.out.cell 7 rfl
        have g8 := HB1.out.cell 8 rfl
        have g9 := HB1.out.cell 9 rfl
        go_upto_region 5 with fail
        go_wp2_with fail
        refine Calls.mono (HC5.out _ HE.out HP.out) ?_
        rintro e w5 ⟨v5, rfl, o5, b5⟩
        have HL2 := hide HB2.out.lt
        have HL3 := hide HB3.out.lt
        have HWS := hide HD.out.size
        replace HB0 := hide (HB0.out.below b5)
        replace HB1 := hide (HB1.out.below b5)
        replace HB2 := hide (HB2.out.below b5)
        replace HB3 := hide (HB3.out.below b5)
        replace HE := hide (HE.out.below b5)
        replace HP := hide (HP.out.below b5)
        replace HG := hide (HG.out.below b5)
        replace HD := hide (chain HD.out b5)
        clear HO HBS
        obtain ⟨za, zc, rfl, -⟩ := o5.rcs
        obtain ⟨zn, hzn⟩ : ∃ zn, (addP S P N).length = zn := ⟨_, rfl⟩
        rw [hzn] at o5 ⊢
        obtain ⟨X, hX⟩ : ∃ X, addS S P N = X := ⟨_, rfl⟩
        rw [hX]
        have HT : Hid (takE on S P N = addE S P N ∧ (addE S P N = 0 → takS on S P N = X ∧ takP on S P N = addP S P N)) := by
          have h9 : takE on S P N = addE S P N := by unfold takE; rw [if_pos hg, if_pos HYE.out.symm]
          refine ⟨h9, fun h0 => ⟨?_, ?_⟩⟩
          · unfold takS; rw [h9, if_pos h0, if_pos HYE.out.symm]; exact hX
          · unfold takP; rw [h9, if_pos h0, if_pos HYE.out.symm]
        obtain ⟨y1, y2, y3, y4, y5, y6⟩ := X
        clear hX
        have HO := hide o5
        obtain ⟨bs, hbs⟩ : ∃ bs, wc.heap.size = bs := ⟨_, rfl⟩
        rw [hbs] at HO
        have HBS : Hid (q < bs ∧ z < bs ∧ w.heap.size ≤ bs) := ⟨by rw [← hbs]; exact HL2.out, by rw [← hbs]; exact HL3.out, by rw [← hbs]; exact HWS.out⟩
        have HGB : Hid (g < bs) := by rw [← hbs]; exact HG0.out
        unfold Sg.cells
        simp only
        clear HKB hbs HWS HL2 HL3 hzn o5 b5 HC5 h0 h1 h2 h3 h4 h5 h6 h7 g0 g1 g2 g3 g4 g5 g6 g7 g8 g9 HG0
        generalize hKB2 : erv E (addE S P N) = KB2
        have HKB := hide hKB2
        clear hKB2
        have c0 := HG.out.cell 0 rfl
        have c1 := HG.out.cell 1 rfl
        have c2 := HG.out.cell 2 rfl
        have c3 := HG.out.cell 3 rfl
        have c4 := HG.out.cell 4 rfl
        have c5 := HG.out.cell 5 rfl
        have c6 := HG.out.cell 6 rfl
        have f0 := HG.out.frozen 0
        have f1 := HG.out.frozen 1
        have f2 := HG.out.frozen 2
        have f3 := HG.out.frozen 3
        have f4 := HG.out.frozen 4
        have f5 := HG.out.frozen 5
        have f6 := HG.out.frozen 6
        have R0 := hide (Bk.others HNG.out.1 [.int .i64 y1, .int .i64 y2, .int .i64 y3, .int .i64 y4, .int .i64 y5, .int .i64 y6, .slice za zn zc] 0 HB0.out)
        have R1 := hide (Bk.others HNG.out.2.1 [.int .i64 y1, .int .i64 y2, .int .i64 y3, .int .i64 y4, .int .i64 y5, .int .i64 y6, .slice za zn zc] 0 HB1.out)
        have R2 := hide (Bk.others HNG.out.2.2.1 [.int .i64 y1, .int .i64 y2, .int .i64 y3, .int .i64 y4, .int .i64 y5, .int .i64 y6, .slice za zn zc] 0 HB2.out)
        have R3 := hide (Bk.others HNG.out.2.2.2.1 [.int .i64 y1, .int .i64 y2, .int .i64 y3, .int .i64 y4, .int .i64 y5, .int .i64 y6, .slice za zn zc] 0 HB3.out)
        have RG := hide (HG.out.sets [.int .i64 y1, .int .i64 y2, .int .i64 y3, .int .i64 y4, .int .i64 y5, .int .i64 y6, .slice za zn zc] rfl)
        have RD := hide (below_sets HNG.out.2.2.2.2 [.int .i64 y1, .int .i64 y2, .int .i64 y3, .int .i64 y4, .int .i64 y5, .int .i64 y6, .slice za zn zc] 0 HD.out)
        have RO := hide (LOwn.fars (HO.out.off HGB.out) [.int .i64 y1, .int .i64 y2, .int .i64 y3, .int .i64 y4, .int .i64 y5, .int .i64 y6, .slice za zn zc] 0 HO.out)
        have RE := hide (HE0.out.below RD.out)
        go_upto_region 6 with fail
        obtain ⟨W8, hW8⟩ : ∃ W8, (((((((w5.setCell ⟨g, 0, none⟩ (.int .i64 y1)).setCell ⟨g, 1, none⟩ (.int .i64 y2)).setCell ⟨g, 2, none⟩ (.int .i64 y3)).setCell ⟨g, 3, none⟩ (.int .i64 y4)).setCell ⟨g, 4, none⟩ (.int .i64 y5)).setCell ⟨g, 5, none⟩ (.int .i64 y6)).setCell ⟨g, 6, none⟩ (.slice za zn zc)) = W8 := ⟨_, rfl⟩
        simp only [hW8]
        rw [show w5.setCells g 0 [.int .i64 y1, .int .i64 y2, .int .i64 y3, .int .i64 y4, .int .i64 y5, .int .i64 y6, .slice za zn zc] = W8 from hW8] at R0 R1 R2 R3 RG RD RO RE
        clear hW8 c0 c1 c2 c3 c4 c5 c6 f0 f1 f2 f3 f4 f5 f6 HB0 HB1 HB2 HB3 HG HD HO HE HP HX HGB
        obtain ⟨x1, hx1⟩ : ∃ x, x = y1 := ⟨_, rfl⟩
        obtain ⟨x2, hx2⟩ : ∃ x, x = y2 := ⟨_, rfl⟩
        obtain ⟨x3, hx3⟩ : ∃ x, x = y3 := ⟨_, rfl⟩
        obtain ⟨x4, hx4⟩ : ∃ x, x = y4 := ⟨_, rfl⟩
        obtain ⟨x5, hx5⟩ : ∃ x, x = y5 := ⟨_, rfl⟩
        obtain ⟨x6, hx6⟩ : ∃ x, x = y6 := ⟨_, rfl⟩
        obtain ⟨ya, hya⟩ : ∃ x, x = za := ⟨_, rfl⟩
        obtain ⟨yn, hyn⟩ : ∃ x, x = zn := ⟨_, rfl⟩
        obtain ⟨yc, hyc⟩ : ∃ x, x = zc := ⟨_, rfl⟩
        obtain ⟨KB, hkb⟩ : ∃ x, x = KB2 := ⟨_, rfl⟩
        subst hx1 hx2 hx3 hx4 hx5 hx6 hya hyn hyc hkb
        have HB1 := R1
        have HB2 := R2
        have HB3 := R3
        have HG := RG
        have HD := RD
        have HO := RO
        have HE := RE
        clear R0 R1 R2 R3 RG RD RO RE
        by_cases hK : addE S P N = 0
        · --
          obtain rfl : KB = .nilIface := by rw [← HKB.out, hK]; rfl
          have HT0 := hide (HT.out.2 hK)
          have HTE : Hid (takE on S P N = 0) := by rw [HT.out.1]; exact hK
          have HBE := hide (takE_beg HTE.out)
          obtain ⟨hck, hk1⟩ := begE_open HBE.out
          have HAE : Hid (ansE N = 0) := by unfold Hid ansE; rw [if_pos hck, if_pos hk1]
          have HAN : Hid (ansN N = ⟨7, pt2, b2, r2, m2, st2, ix, tt2, 0, ⟨#[]⟩⟩) := by unfold Hid ansN; rw [if_pos HAE.out, HN.out]
          have HTN : Hid (takN on S P N = ⟨7, pt2, b2, r2, m2, st2, ix, tt2, 0, ⟨#[]⟩⟩) := by unfold Hid takN; rw [if_pos HTE.out]; exact HAN.out
          have HC7 := hide (HC6.out W8 HE.out hck (by rw [HN.out] at hk1; exact hk1))
          rw [HAE.out, HAN.out] at HC7
          clear hck hk1 HC6 HT hK HKB HBE
          have g0 := HB1.out.cell 0 rfl
          have g1 := HB1.out.cell 1 rfl
          have g2 := HB1.out.cell 2 rfl
          have g3 := HB1.out.cell 3 rfl
          have g4 := HB1.out.cell 4 rfl
          have g5 := HB1.out.cell 5 rfl
          have g6 := HB1.out.cell 6 rfl
          have g7 := HB1.out.cell 7 rfl
          have g8 := HB1.out.cell 8 rfl
          have g9 := HB1.out.cell 9 rfl
          go_upto_region 8 with fail
          go_wp2_with fail
          refine Calls.mono HC7.out ?_
          rintro e w6 ⟨rfl, b6⟩
          rw [show erv E 0 = .nilIface from rfl]
          unfold Nt.cells
          simp only
          obtain ⟨W7, hW7, B7, D7⟩ := box1 w6 [.int .i64 7, .int .i64 pt2, .int .i64 b2, .int .i64 r2, .int .i64 m2, .int .i64 st2, .int .i64 ix, .int .i64 tt2, .int .u32 0, .string ⟨#[]⟩] 34
          obtain ⟨h, hgh⟩ : ∃ h, w6.heap.size = h := ⟨_, rfl⟩
          rw [hgh] at B7
          have HH := hide B7
          have HW7 := hide hW7
          have HGH := hide hgh
          replace HB2 := hide (HB2.out.below b6)
          replace HB3 := hide (HB3.out.below b6)
          replace HG := hide (HG.out.below b6)
          replace HO := hide (HO.out.below b6)
          replace HD := hide (chain HD.out b6)
          have hl2 := HB2.out.lt
          have hl3 := HB3.out.lt
          have hhq : h ≠ q ∧ h ≠ z := by omega
          obtain ⟨hhq, hhz⟩ := hhq
          have hqh := Ne.symm hhq
          have hzh := Ne.symm hhz
          replace HB2 := hide (HB2.out.below D7)
          replace HB3 := hide (HB3.out.below D7)
          replace HG := hide (HG.out.below D7)
          replace HO := hide (HO.out.below D7)
          replace HD := hide (chain HD.out D7)
          clear B7 D7 hW7 hgh b6 hl2 hl3 g0 g1 g2 g3 g4 g5 g6 g7 g8 g9 HC7
          go_upto_region 11 with fail
          have hW7 := HW7.out
          have hgh := HGH.out
          simp only [hW7, hgh]
          clear HW7 HGH hW7 hgh
          have Q2 := hide (Bk.others (Ne.symm HQ0.out.2.2.2) [.int .i64 7, .int .i64 pt2, .int .i64 b2, .int .i64 r2, .int .i64 m2, .int .i64 st2, .int .i64 ix, .int .i64 tt2, .int .u32 0, .string ⟨#[]⟩] 0 (HB2.out.sets [.bool true, .int .i64 x1, .int .i64 x2, .int .i64 x3, .int .i64 x4, .int .i64 x5, .int .i64 x6, .slice ya yn yc] rfl))
          have Q3 := hide ((Bk.others HQ0.out.2.2.2 [.bool true, .int .i64 x1, .int .i64 x2, .int .i64 x3, .int .i64 x4, .int .i64 x5, .int .i64 x6, .slice ya yn yc] 0 HB3.out).sets [.int .i64 7, .int .i64 pt2, .int .i64 b2, .int .i64 r2, .int .i64 m2, .int .i64 st2, .int .i64 ix, .int .i64 tt2, .int .u32 0, .string ⟨#[]⟩] rfl)
          have QD := hide (below_sets (Nat.le_of_lt HQ0.out.2.1) [.int .i64 7, .int .i64 pt2, .int .i64 b2, .int .i64 r2, .int .i64 m2, .int .i64 st2, .int .i64 ix, .int .i64 tt2, .int .u32 0, .string ⟨#[]⟩] 0 (below_sets (Nat.le_of_lt HQ0.out.1) [.bool true, .int .i64 x1, .int .i64 x2, .int .i64 x3, .int .i64 x4, .int .i64 x5, .int .i64 x6, .slice ya yn yc] 0 HD.out))
          have QO := hide (LOwn.fars (HO.out.off HBS.out.2.1) [.int .i64 7, .int .i64 pt2, .int .i64 b2, .int .i64 r2, .int .i64 m2, .int .i64 st2, .int .i64 ix, .int .i64 tt2, .int .u32 0, .string ⟨#[]⟩] 0 (LOwn.fars (HO.out.off HBS.out.1) [.bool true, .int .i64 x1, .int .i64 x2, .int .i64 x3, .int .i64 x4, .int .i64 x5, .int .i64 x6, .slice ya yn yc] 0 HO.out))
          have c0 := HG.out.cell 0 rfl
          have c1 := HG.out.cell 1 rfl
          have c2 := HG.out.cell 2 rfl
          have c3 := HG.out.cell 3 rfl
          have c4 := HG.out.cell 4 rfl
          have c5 := HG.out.cell 5 rfl
          have c6 := HG.out.cell 6 rfl
          have d0 := HH.out.cell 0 rfl
          have d1 := HH.out.cell 1 rfl
          have d2 := HH.out.cell 2 rfl
          have d3 := HH.out.cell 3 rfl
          have d4 := HH.out.cell 4 rfl
          have d5 := HH.out.cell 5 rfl
          have d6 := HH.out.cell 6 rfl
          have d7 := HH.out.cell 7 rfl
          have d8 := HH.out.cell 8 rfl
          have d9 := HH.out.cell 9 rfl
          have f0 := HB2.out.frozen 0
          have f1 := HB2.out.frozen 1
          have f2 := HB2.out.frozen 2
          have f3 := HB2.out.frozen 3
          have f4 := HB2.out.frozen 4
          have f5 := HB2.out.frozen 5
          have f6 := HB2.out.frozen 6
          have f7 := HB2.out.frozen 7
          have g0 := HB2.out.cell 0 rfl
          have g1 := HB2.out.cell 1 rfl
          have g2 := HB2.out.cell 2 rfl
          have g3 := HB2.out.cell 3 rfl
          have g4 := HB2.out.cell 4 rfl
          have g5 := HB2.out.cell 5 rfl
          have g6 := HB2.out.cell 6 rfl
          have g7 := HB2.out.cell 7 rfl
          have fz0 := HB3.out.frozen 0
          have fz1 := HB3.out.frozen 1
          have fz2 := HB3.out.frozen 2
          have fz3 := HB3.out.frozen 3
          have fz4 := HB3.out.frozen 4
          have fz5 := HB3.out.frozen 5
          have fz6 := HB3.out.frozen 6
          have fz7 := HB3.out.frozen 7
          have fz8 := HB3.out.frozen 8
          have fz9 := HB3.out.frozen 9
          have gz0 := HB3.out.cell 0 rfl
          have gz1 := HB3.out.cell 1 rfl
          have gz2 := HB3.out.cell 2 rfl
          have gz3 := HB3.out.cell 3 rfl
          have gz4 := HB3.out.cell 4 rfl
          have gz5 := HB3.out.cell 5 rfl
          have gz6 := HB3.out.cell 6 rfl
          have gz7 := HB3.out.cell 7 rfl
          have gz8 := HB3.out.cell 8 rfl
          have gz9 := HB3.out.cell 9 rfl
          have hqz := HQ0.out.2.2.1
          have hzq := HQ0.out.2.2.2
          go_region
          go_wp2
          obtain ⟨W9, hW9⟩ : ∃ W9, ((((((((((((((((((W7.setCell ⟨q, 0, none⟩ (.bool true)).setCell ⟨q, 1, none⟩ (.int .i64 x1)).setCell ⟨q, 2, none⟩ (.int .i64 x2)).setCell ⟨q, 3, none⟩ (.int .i64 x3)).setCell ⟨q, 4, none⟩ (.int .i64 x4)).setCell ⟨q, 5, none⟩ (.int .i64 x5)).setCell ⟨q, 6, none⟩ (.int .i64 x6)).setCell ⟨q, 7, none⟩ (.slice ya yn yc)).setCell ⟨z, 0, none⟩ (.int .i64 7)).setCell ⟨z, 1, none⟩ (.int .i64 pt2)).setCell ⟨z, 2, none⟩ (.int .i64 b2)).setCell ⟨z, 3, none⟩ (.int .i64 r2)).setCell ⟨z, 4, none⟩ (.int .i64 m2)).setCell ⟨z, 5, none⟩ (.int .i64 st2)).setCell ⟨z, 6, none⟩ (.int .i64 ix)).setCell ⟨z, 7, none⟩ (.int .i64 tt2)).setCell ⟨z, 8, none⟩ (.int .u32 0)).setCell ⟨z, 9, none⟩ (.string ⟨#[]⟩)) = W9 := ⟨_, rfl⟩
          simp only [hW9]
          rw [show (W7.setCells q 0 [.bool true, .int .i64 x1, .int .i64 x2, .int .i64 x3, .int .i64 x4, .int .i64 x5, .int .i64 x6, .slice ya yn yc]).setCells z 0 [.int .i64 7, .int .i64 pt2, .int .i64 b2, .int .i64 r2, .int .i64 m2, .int .i64 st2, .int .i64 ix, .int .i64 tt2, .int .u32 0, .string ⟨#[]⟩] = W9 from hW9] at Q2 Q3 QD QO
          clear hW9
          replace Q2 := hide (Q2.out.below (Below.refl _ _).drew)
          replace Q3 := hide (Q3.out.below (Below.refl _ _).drew)
          replace QO := hide (QO.out.below (Below.refl _ _).drew)
          replace QD := hide QD.out.drew
          have e0 := Q2.out.cell 0 rfl
          have e1 := Q2.out.cell 1 rfl
          have e2 := Q2.out.cell 2 rfl
          have e3 := Q2.out.cell 3 rfl
          have e4 := Q2.out.cell 4 rfl
          have e5 := Q2.out.cell 5 rfl
          have e6 := Q2.out.cell 6 rfl
          have e7 := Q2.out.cell 7 rfl
          have i0 := Q3.out.cell 0 rfl
          have i1 := Q3.out.cell 1 rfl
          have i2 := Q3.out.cell 2 rfl
          have i3 := Q3.out.cell 3 rfl
          have i4 := Q3.out.cell 4 rfl
          have i5 := Q3.out.cell 5 rfl
          have i6 := Q3.out.cell 6 rfl
          have i7 := Q3.out.cell 7 rfl
          have i8 := Q3.out.cell 8 rfl
          have i9 := Q3.out.cell 9 rfl
          refine bodyPost_ret (v := .tuple #[.agg #[.bool true, .int .i64 x1, .int .i64 x2, .int .i64 x3, .int .i64 x4, .int .i64 x5, .int .i64 x6, .slice ya yn yc], .agg #[.int .i64 7, .int .i64 pt2, .int .i64 b2, .int .i64 r2, .int .i64 m2, .int .i64 st2, .int .i64 ix, .int .i64 tt2, .int .u32 0, .string ⟨#[]⟩], .nilIface]) (by simp [results, Tryd.results29, go_sem, e0, e1, e2, e3, e4, e5, e6, e7, i0, i1, i2, i3, i4, i5, i6, i7, i8, i9]) rfl ?_
          exact ⟨.slice ya yn yc, by rw [HTE.out, HT0.out.1, HTN.out]; rfl, by rw [HT0.out.2]; exact QO.out.weaken HBS.out.2.2, QD.out⟩
        · --
          have HF : Hid (takS on S P N = zSg ∧ takP on S P N = [] ∧ takN on S P N = zNt ∧ takE on S P N = addE S P N) := by
            have h9 : takE on S P N = addE S P N := by
              exact HT.out.1
            refine ⟨?_, ?_, ?_, h9⟩
            · unfold takS; rw [h9]; exact if_neg hK
            · unfold takP; rw [h9]; exact if_neg hK
            · unfold takN; rw [h9]; exact if_neg hK
          obtain rfl : KB = sent (E (addE S P N)) := by rw [← HKB.out]; exact if_neg hK
          unfold sent
          have B2 := hide (Bk.others (Ne.symm HQ0.out.2.2.2) [.int .i64 0, .int .i64 0, .int .i64 0, .int .i64 0, .int .i64 0, .int .i64 0, .int .i64 0, .int .i64 0, .int .u32 0, .string ⟨#[]⟩] 0 (HB2.out.sets [.bool false, .int .i64 0, .int .i64 0, .int .i64 0, .int .i64 0, .int .i64 0, .int .i64 0, .slice none 0 0] rfl))
          have B3 := hide ((Bk.others HQ0.out.2.2.2 [.bool false, .int .i64 0, .int .i64 0, .int .i64 0, .int .i64 0, .int .i64 0, .int .i64 0, .slice none 0 0] 0 HB3.out).sets [.int .i64 0, .int .i64 0, .int .i64 0, .int .i64 0, .int .i64 0, .int .i64 0, .int .i64 0, .int .i64 0, .int .u32 0, .string ⟨#[]⟩] rfl)
          have D2 := hide (below_sets (Nat.le_of_lt HQ0.out.2.1) [.int .i64 0, .int .i64 0, .int .i64 0, .int .i64 0, .int .i64 0, .int .i64 0, .int .i64 0, .int .i64 0, .int .u32 0, .string ⟨#[]⟩] 0 (below_sets (Nat.le_of_lt HQ0.out.1) [.bool false, .int .i64 0, .int .i64 0, .int .i64 0, .int .i64 0, .int .i64 0, .int .i64 0, .slice none 0 0] 0 HD.out))
          have f0 := HB2.out.frozen 0
          have f1 := HB2.out.frozen 1
          have f2 := HB2.out.frozen 2
          have f3 := HB2.out.frozen 3
          have f4 := HB2.out.frozen 4
          have f5 := HB2.out.frozen 5
          have f6 := HB2.out.frozen 6
          have f7 := HB2.out.frozen 7
          have g0 := HB2.out.cell 0 rfl
          have g1 := HB2.out.cell 1 rfl
          have g2 := HB2.out.cell 2 rfl
          have g3 := HB2.out.cell 3 rfl
          have g4 := HB2.out.cell 4 rfl
          have g5 := HB2.out.cell 5 rfl
          have g6 := HB2.out.cell 6 rfl
          have g7 := HB2.out.cell 7 rfl
          have fz0 := HB3.out.frozen 0
          have fz1 := HB3.out.frozen 1
          have fz2 := HB3.out.frozen 2
          have fz3 := HB3.out.frozen 3
          have fz4 := HB3.out.frozen 4
          have fz5 := HB3.out.frozen 5
          have fz6 := HB3.out.frozen 6
          have fz7 := HB3.out.frozen 7
          have fz8 := HB3.out.frozen 8
          have fz9 := HB3.out.frozen 9
          have gz0 := HB3.out.cell 0 rfl
          have gz1 := HB3.out.cell 1 rfl
          have gz2 := HB3.out.cell 2 rfl
          have gz3 := HB3.out.cell 3 rfl
          have gz4 := HB3.out.cell 4 rfl
          have gz5 := HB3.out.cell 5 rfl
          have gz6 := HB3.out.cell 6 rfl
          have gz7 := HB3.out.cell 7 rfl
          have gz8 := HB3.out.cell 8 rfl
          have gz9 := HB3.out.cell 9 rfl
          have hqz := HQ0.out.2.2.1
          have hzq := HQ0.out.2.2.2
          go_wp2
          obtain ⟨W9, hW9⟩ : ∃ W9, ((((((((((((((((((W8.setCell ⟨q, 0, none⟩ (.bool false)).setCell ⟨q, 1, none⟩ (.int .i64 0)).setCell ⟨q, 2, none⟩ (.int .i64 0)).setCell ⟨q, 3, none⟩ (.int .i64 0)).setCell ⟨q, 4, none⟩ (.int .i64 0)).setCell ⟨q, 5, none⟩ (.int .i64 0)).setCell ⟨q, 6, none⟩ (.int .i64 0)).setCell ⟨q, 7, none⟩ (.slice none 0 0)).setCell ⟨z, 0, none⟩ (.int .i64 0)).setCell ⟨z, 1, none⟩ (.int .i64 0)).setCell ⟨z, 2, none⟩ (.int .i64 0)).setCell ⟨z, 3, none⟩ (.int .i64 0)).setCell ⟨z, 4, none⟩ (.int .i64 0)).setCell ⟨z, 5, none⟩ (.int .i64 0)).setCell ⟨z, 6, none⟩ (.int .i64 0)).setCell ⟨z, 7, none⟩ (.int .i64 0)).setCell ⟨z, 8, none⟩ (.int .u32 0)).setCell ⟨z, 9, none⟩ (.string ⟨#[]⟩)) = W9 := ⟨_, rfl⟩
          simp only [hW9]
          rw [show ((W8).setCells q 0 [.bool false, .int .i64 0, .int .i64 0, .int .i64 0, .int .i64 0, .int .i64 0, .int .i64 0, .slice none 0 0]).setCells z 0 [.int .i64 0, .int .i64 0, .int .i64 0, .int .i64 0, .int .i64 0, .int .i64 0, .int .i64 0, .int .i64 0, .int .u32 0, .string ⟨#[]⟩] = W9 from hW9] at B2 B3 D2
          clear hW9
          have e0 := B2.out.cell 0 rfl
          have e1 := B2.out.cell 1 rfl
          have e2 := B2.out.cell 2 rfl
          have e3 := B2.out.cell 3 rfl
          have e4 := B2.out.cell 4 rfl
          have e5 := B2.out.cell 5 rfl
          have e6 := B2.out.cell 6 rfl
          have e7 := B2.out.cell 7 rfl
          have i0 := B3.out.cell 0 rfl
          have i1 := B3.out.cell 1 rfl
          have i2 := B3.out.cell 2 rfl
          have i3 := B3.out.cell 3 rfl
          have i4 := B3.out.cell 4 rfl
          have i5 := B3.out.cell 5 rfl
          have i6 := B3.out.cell 6 rfl
          have i7 := B3.out.cell 7 rfl
          have i8 := B3.out.cell 8 rfl
          have i9 := B3.out.cell 9 rfl
          refine bodyPost_ret (v := .tuple #[.agg #[.bool false, .int .i64 0, .int .i64 0, .int .i64 0, .int .i64 0, .int .i64 0, .int .i64 0, .slice none 0 0], .agg #[.int .i64 0, .int .i64 0, .int .i64 0, .int .i64 0, .int .i64 0, .int .i64 0, .int .i64 0, .int .i64 0, .int .u32 0, .string ⟨#[]⟩], sent (E (addE S P N))]) (by simp [results, Tryd.results29, go_sem, e0, e1, e2, e3, e4, e5, e6, e7, i0, i1, i2, i3, i4, i5, i6, i7, i8, i9, sent]) rfl ?_
          exact ⟨.slice none 0 0, by rw [HF.out.1, HF.out.2.2.1, HF.out.2.2.2]; unfold erv; rw [if_neg hK]; first | rfl | (rw [decide_eq_false hK]; rfl), by rw [HF.out.2.1]; exact World.ownsRow_nil _ _ _ _, D2.out⟩
end Go.Proofs.YtnopclacchoijaaDoor
