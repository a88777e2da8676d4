/-
  The law's plays: one call, by the document and by the program.
-/
import Derived.Test.YtdckpecalglnoaaDoorTrMore
namespace Go.Proofs.YtdckpecalglnoaaDoor
open Classical
open Go.RowKit
set_option linter.unusedVariables false
set_option linter.unusedSimpArgs false

theorem undrew {w w' : World} (h : Below w.drew.heap.size w.drew w') : Below w.heap.size w w' := chain ((Below.refl _ _).drew) h
theorem tms_drew {w : World} {a : Option Addr} {len cap : Nat} {l : List Tm} (h : Tms w a len cap l) : Tms w.drew a len cap l := h.below ((Below.refl _ _).drew)
theorem er3_drew {w : World} {E : Nat → Addr} (h : Er3 w E) : Er3 w.drew E := h.below ((Below.refl _ _).drew)
theorem form_len {l : List Tm} (h : Form l 8) : l.length ≤ 8 := h.2.1.few h.1
theorem setL_len (l : List Tm) (p d : Int) : (setL l p d).length ≤ 9 := by
  unfold setL
  split
  · next h =>
    rw [srt_len, List.length_append]
    have := others_len l p
    have := form_len h.1
    simp
    omega
  · simp
theorem dropL_len (l : List Tm) (p : Int) : (dropL l p).length ≤ 8 := by
  unfold dropL
  split
  · next h => exact Nat.le_trans (others_len l p) (form_len h)
  · simp
theorem fireL_len (l : List Tm) (p : Int) : (fireL l p).length ≤ 8 := by
  unfold fireL
  split
  · next h => exact Nat.le_trans (left_len l p) (form_len h)
  · simp
theorem fireP_len (l : List Tm) (p : Int) : (fireP l p).length ≤ 8 := by
  unfold fireP
  split
  · next h => rw [List.length_map]; exact Nat.le_trans (fired_len l p) (form_len h)
  · simp
theorem shiftL_len (l : List Tm) (p : Int) : (shiftL l p).length ≤ 8 := by
  unfold shiftL
  split
  · next h => rw [srt_len, List.length_map]; exact form_len h.1
  · simp
theorem sortL_len (l : List Tm) : (sortL l).length ≤ 8 := by
  unfold sortL
  split
  · next h => rw [srt_len]; exact h.2.few h.1
  · simp

set_option maxRecDepth 100000 in
set_option maxHeartbeats 2000000 in
theorem plays1_any {w : World} {E : Nat → Addr} (he : Errs w E) (a : Option Addr) (len cap : Nat) (l : List Tm) (hs : Tms w a len cap l) (pr n : Int) (hm : len ≤ 8796093021952) :
    Calls Tryd.prog 10 #[.slice a len cap, .agg #[.int .i64 1, .int .i64 pr, .int .i64 n]] w fun e w' => ∃ a' len' cap' l', e = .returned (.tuple #[.slice a' len' cap', .bool true]) ∧ Tms w' a' len' cap' l' ∧ len' ≤ 8796093021952 ∧ Below w.heap.size w w' := by
  have HS0 := hide hs
  have HLEN := hide hs.size
  have HE0 := hide he
  have N0 := new_below w (.cells #[.int .i64 1, .int .i64 pr, .int .i64 n] 29)
  have X0 := hide N0
  have HS := hide (HS0.out.below N0)
  have HE := hide (HE0.out.below N0)
  have g1 : (w.alloc (.cells #[.int .i64 1, .int .i64 pr, .int .i64 n] 29)).cell? ⟨w.heap.size, 1, none⟩ = some (.int .i64 pr) := by rw [World.cell?_alloc_at _ _ _ _ rfl]; rfl
  have g2 : (w.alloc (.cells #[.int .i64 1, .int .i64 pr, .int .i64 n] 29)).cell? ⟨w.heap.size, 2, none⟩ = some (.int .i64 n) := by rw [World.cell?_alloc_at _ _ _ _ rfl]; rfl
  have G1 := hide g1
  have G2 := hide g2
  clear hs he N0 g1 g2
  go_enter Tryd.func10, Tryd.ntmps10
  go_wp2_with fail
  generalize w.alloc (.cells #[.int .i64 1, .int .i64 pr, .int .i64 n] 29) = W0 at *
  refine Calls.mono (rset_any W0 a len cap l HS.out pr n (by omega)) ?_
  rintro e w1 ⟨x1, q1, rfl, hq1, h1, b1⟩
  subst hq1
  obtain ⟨a1, c1, rfl, t1⟩ := town_tms h1
  have T1 := hide t1
  clear h1 t1
  have G1 := hide (cell_below G1.out b1)
  have G2 := hide (cell_below G2.out b1)
  have HS := hide (HS.out.below b1)
  have HE := hide (HE.out.below b1)
  have X1 := hide (chain X0.out b1)
  clear b1
  have g1 := G1.out
  have g2 := G2.out
  go_wp2_with fail
  go_region_held3 (fun wz => wz.cell? ⟨w.heap.size, 1, none⟩ = some (.int .i64 pr) ∧ wz.cell? ⟨w.heap.size, 2, none⟩ = some (.int .i64 n))
    (first | exact ⟨G1.out, G2.out⟩ | exact ⟨K1.out, K2.out⟩)
    (first
      | (go_at_call 9; refine (copied_any _ a len cap l (tms_drew HS.out) (by omega)).mono ?_; rintro e w2 ⟨x2, rfl, h2, b2⟩; obtain ⟨a2, c2, rfl, t2⟩ := town_tms h2; have T2 := hide t2; have B2 := hide (undrew b2); have k1 := cell_below G1.out B2.out; have k2 := cell_below G2.out B2.out; have K1 := hide k1; have K2 := hide k2; clear h2 b2 t2)
      | (go_at_call 18; refine (tset_any (HE.out.below B2.out).er3 a2 _ c2 l T2.out pr n (by rw [HLEN.out]; omega)).mono ?_; rintro e w3 ⟨x3, v3, rfl, hv3, h3, b3⟩; obtain ⟨a3, c3, rfl, t3⟩ := town_tms h3; have T3 := hide t3; have V3 := hide hv3; have B3 := hide (chain B2.out b3); have m1 := cell_below K1.out b3; have m2 := cell_below K2.out b3; have K1 := hide m1; have K2 := hide m2; clear t3 b3; clear hv3 h3))
  rename_i hheld
  clear hheld
  have T1 := hide (T1.out.below B3.out)
  have X3 := hide (chain X1.out B3.out)
  have HE := hide (HE.out.below B3.out)
  clear g1 g2
  go_wp2_with fail
  refine Calls.mono (same_any a3 a1 _ _ c3 c1 _ _ T3.out T1.out (by have := setL_len l pr n; omega) (by have := setL_len l pr n; omega)) ?_
  rintro e w4 ⟨rfl, b4⟩
  rw [decide_eq_true rfl]
  have T1 := hide (T1.out.below b4)
  have X4 := hide (chain X3.out b4)
  have HE := hide (HE.out.below b4)
  clear b4
  go_wp2_with fail
  refine Calls.mono (lcode_any HE.out v3 _ V3.out) ?_
  rintro e w5 ⟨rfl, b5⟩
  have TF := hide (T1.out.below b5)
  have XF := hide (chain X4.out b5)
  clear b5 V3
  have hz0 : setE l pr n = 0 ∨ setE l pr n ≠ 0 := Classical.em _
  generalize setE l pr n = ce at *
  rcases hz0 with rfl | hne
  · have X9 := hide XF.out
    go_wp2
    go_ret2
    exact ⟨_, _, _, _, rfl, TF.out, by have := setL_len l pr n; omega, X9.out⟩
  · have hb : ((ce : Int) != 0) = true := by simp; omega
    have S9 := hide (HS0.out.below XF.out)
    clear hne
    go_wp2
    go_ret2
    exact ⟨_, _, _, _, rfl, S9.out, hm, XF.out⟩

set_option maxRecDepth 100000 in
set_option maxHeartbeats 2000000 in
theorem plays2_any {w : World} {E : Nat → Addr} (he : Errs w E) (a : Option Addr) (len cap : Nat) (l : List Tm) (hs : Tms w a len cap l) (pr n : Int) (hm : len ≤ 8796093021952) :
    Calls Tryd.prog 10 #[.slice a len cap, .agg #[.int .i64 2, .int .i64 pr, .int .i64 n]] w fun e w' => ∃ a' len' cap' l', e = .returned (.tuple #[.slice a' len' cap', .bool true]) ∧ Tms w' a' len' cap' l' ∧ len' ≤ 8796093021952 ∧ Below w.heap.size w w' := by
  have HS0 := hide hs
  have HLEN := hide hs.size
  have HE0 := hide he
  have N0 := new_below w (.cells #[.int .i64 2, .int .i64 pr, .int .i64 n] 29)
  have X0 := hide N0
  have HS := hide (HS0.out.below N0)
  have HE := hide (HE0.out.below N0)
  have g1 : (w.alloc (.cells #[.int .i64 2, .int .i64 pr, .int .i64 n] 29)).cell? ⟨w.heap.size, 1, none⟩ = some (.int .i64 pr) := by rw [World.cell?_alloc_at _ _ _ _ rfl]; rfl
  have g2 : (w.alloc (.cells #[.int .i64 2, .int .i64 pr, .int .i64 n] 29)).cell? ⟨w.heap.size, 2, none⟩ = some (.int .i64 n) := by rw [World.cell?_alloc_at _ _ _ _ rfl]; rfl
  have G1 := hide g1
  have G2 := hide g2
  clear hs he N0 g1 g2
  go_enter Tryd.func10, Tryd.ntmps10
  go_wp2_with fail
  generalize w.alloc (.cells #[.int .i64 2, .int .i64 pr, .int .i64 n] 29) = W0 at *
  refine Calls.mono (rdrop_any W0 a len cap l HS.out pr (by omega)) ?_
  rintro e w1 ⟨x1, q0, q1, rfl, hq0, hq1, h1, b1⟩
  subst hq1
  subst hq0
  obtain ⟨a1, c1, rfl, t1⟩ := town_tms h1
  have T1 := hide t1
  clear h1 t1
  generalize hdb : dropB l pr = db at *
  have HDB := hide hdb
  clear hdb
  have G1 := hide (cell_below G1.out b1)
  have G2 := hide (cell_below G2.out b1)
  have HS := hide (HS.out.below b1)
  have HE := hide (HE.out.below b1)
  have X1 := hide (chain X0.out b1)
  clear b1
  have g1 := G1.out
  have g2 := G2.out
  go_wp2_with fail
  go_region_held3 (fun wz => wz.cell? ⟨w.heap.size, 1, none⟩ = some (.int .i64 pr) ∧ wz.cell? ⟨w.heap.size, 2, none⟩ = some (.int .i64 n))
    (first | exact ⟨G1.out, G2.out⟩ | exact ⟨K1.out, K2.out⟩)
    (first
      | (go_at_call 9; refine (copied_any _ a len cap l (tms_drew HS.out) (by omega)).mono ?_; rintro e w2 ⟨x2, rfl, h2, b2⟩; obtain ⟨a2, c2, rfl, t2⟩ := town_tms h2; have T2 := hide t2; have B2 := hide (undrew b2); have k1 := cell_below G1.out B2.out; have k2 := cell_below G2.out B2.out; have K1 := hide k1; have K2 := hide k2; clear h2 b2 t2)
      | (go_at_call 19; refine (tdrop_any (HE.out.below B2.out).er3 a2 _ c2 l T2.out pr (by rw [HLEN.out]; omega)).mono ?_; rintro e w3 ⟨x3, q3, v3, rfl, hq3, hv3, h3, b3⟩; rw [HDB.out] at hq3; subst hq3; obtain ⟨a3, c3, rfl, t3⟩ := town_tms h3; have T3 := hide t3; have V3 := hide hv3; have B3 := hide (chain B2.out b3); have m1 := cell_below K1.out b3; have m2 := cell_below K2.out b3; have K1 := hide m1; have K2 := hide m2; clear t3 b3; clear hv3 h3))
  rename_i hheld
  clear hheld
  have T1 := hide (T1.out.below B3.out)
  have X3 := hide (chain X1.out B3.out)
  have HE := hide (HE.out.below B3.out)
  clear g1 g2
  go_wp2_with fail
  refine Calls.mono (same_any a3 a1 _ _ c3 c1 _ _ T3.out T1.out (by have := dropL_len l pr; omega) (by have := dropL_len l pr; omega)) ?_
  rintro e w4 ⟨rfl, b4⟩
  rw [decide_eq_true rfl]
  have T1 := hide (T1.out.below b4)
  have X4 := hide (chain X3.out b4)
  have HE := hide (HE.out.below b4)
  clear b4
  go_wp2_with fail
  refine Calls.mono (lcode_any HE.out v3 _ V3.out) ?_
  rintro e w5 ⟨rfl, b5⟩
  have TF := hide (T1.out.below b5)
  have XF := hide (chain X4.out b5)
  clear b5 V3
  have hz0 : dropE l = 0 ∨ dropE l ≠ 0 := Classical.em _
  generalize dropE l = ce at *
  rcases hz0 with rfl | hne
  · have X9 := hide XF.out
    go_wp2
    go_ret2
    exact ⟨_, _, _, _, rfl, TF.out, by have := dropL_len l pr; omega, X9.out⟩
  · have hb : ((ce : Int) != 0) = true := by simp; omega
    have S9 := hide (HS0.out.below XF.out)
    clear hne
    go_wp2
    go_ret2
    exact ⟨_, _, _, _, rfl, S9.out, hm, XF.out⟩

set_option maxRecDepth 100000 in
set_option maxHeartbeats 2000000 in
theorem plays3_any {w : World} {E : Nat → Addr} (he : Errs w E) (a : Option Addr) (len cap : Nat) (l : List Tm) (hs : Tms w a len cap l) (pr n : Int) (hm : len ≤ 8796093021952) :
    Calls Tryd.prog 10 #[.slice a len cap, .agg #[.int .i64 3, .int .i64 pr, .int .i64 n]] w fun e w' => ∃ a' len' cap' l', e = .returned (.tuple #[.slice a' len' cap', .bool true]) ∧ Tms w' a' len' cap' l' ∧ len' ≤ 8796093021952 ∧ Below w.heap.size w w' := by
  have HS0 := hide hs
  have HLEN := hide hs.size
  have HE0 := hide he
  have N0 := new_below w (.cells #[.int .i64 3, .int .i64 pr, .int .i64 n] 29)
  have X0 := hide N0
  have HS := hide (HS0.out.below N0)
  have HE := hide (HE0.out.below N0)
  have g1 : (w.alloc (.cells #[.int .i64 3, .int .i64 pr, .int .i64 n] 29)).cell? ⟨w.heap.size, 1, none⟩ = some (.int .i64 pr) := by rw [World.cell?_alloc_at _ _ _ _ rfl]; rfl
  have g2 : (w.alloc (.cells #[.int .i64 3, .int .i64 pr, .int .i64 n] 29)).cell? ⟨w.heap.size, 2, none⟩ = some (.int .i64 n) := by rw [World.cell?_alloc_at _ _ _ _ rfl]; rfl
  have G1 := hide g1
  have G2 := hide g2
  clear hs he N0 g1 g2
  go_enter Tryd.func10, Tryd.ntmps10
  go_wp2_with fail
  generalize w.alloc (.cells #[.int .i64 3, .int .i64 pr, .int .i64 n] 29) = W0 at *
  refine Calls.mono (rfire_any W0 a len cap l HS.out n (by omega)) ?_
  rintro e w1 ⟨z1, x1, q1, rfl, hq1, hi1, h1, b1⟩
  subst hq1
  obtain ⟨a1, c1, rfl, t1⟩ := town_tms h1
  obtain ⟨aI, cI, rfl, i1⟩ := iown_is hi1
  have T1 := hide t1
  have I1 := hide i1
  clear h1 t1 hi1 i1
  have G1 := hide (cell_below G1.out b1)
  have G2 := hide (cell_below G2.out b1)
  have I1 := hide I1.out
  have HS := hide (HS.out.below b1)
  have HE := hide (HE.out.below b1)
  have X1 := hide (chain X0.out b1)
  clear b1
  have g1 := G1.out
  have g2 := G2.out
  go_wp2_with fail
  go_region_held3 (fun wz => wz.cell? ⟨w.heap.size, 1, none⟩ = some (.int .i64 pr) ∧ wz.cell? ⟨w.heap.size, 2, none⟩ = some (.int .i64 n))
    (first | exact ⟨G1.out, G2.out⟩ | exact ⟨K1.out, K2.out⟩)
    (first
      | (go_at_call 9; refine (copied_any _ a len cap l (tms_drew HS.out) (by omega)).mono ?_; rintro e w2 ⟨x2, rfl, h2, b2⟩; obtain ⟨a2, c2, rfl, t2⟩ := town_tms h2; have T2 := hide t2; have B2 := hide (undrew b2); have k1 := cell_below G1.out B2.out; have k2 := cell_below G2.out B2.out; have K1 := hide k1; have K2 := hide k2; clear h2 b2 t2)
      | (go_at_call 12; refine (tfire_any (HE.out.below B2.out).er3 a2 _ c2 l T2.out n (by rw [HLEN.out]; omega)).mono ?_; rintro e w3 ⟨z3, x3, v3, rfl, hv3, hi3, h3, b3⟩; obtain ⟨aJ, cJ, rfl, i3⟩ := iown_is hi3; have I3 := hide i3; clear hi3 i3; obtain ⟨a3, c3, rfl, t3⟩ := town_tms h3; have T3 := hide t3; have V3 := hide hv3; have B3 := hide (chain B2.out b3); have m1 := cell_below K1.out b3; have m2 := cell_below K2.out b3; have K1 := hide m1; have K2 := hide m2; clear t3 b3; clear hv3 h3))
  rename_i hheld
  clear hheld
  have T1 := hide (T1.out.below B3.out)
  have X3 := hide (chain X1.out B3.out)
  have HE := hide (HE.out.below B3.out)
  clear g1 g2
  have I1 := hide (I1.out.below B3.out)
  go_wp2_with fail
  refine Calls.mono (same_any a3 a1 _ _ c3 c1 _ _ T3.out T1.out (by have := fireL_len l n; omega) (by have := fireL_len l n; omega)) ?_
  rintro e w4 ⟨rfl, b4⟩
  rw [decide_eq_true rfl]
  have T1 := hide (T1.out.below b4)
  have X4 := hide (chain X3.out b4)
  have HE := hide (HE.out.below b4)
  have I1 := hide (I1.out.below b4)
  have I3 := hide (I3.out.below b4)
  clear b4
  go_wp2_with fail
  refine Calls.mono (ints_eq aJ aI _ cJ cI _ I3.out I1.out (by have := fireP_len l n; omega)) ?_
  rintro e w4' ⟨rfl, b4⟩
  have T1 := hide (T1.out.below b4)
  have X4 := hide (chain X4.out b4)
  have HE := hide (HE.out.below b4)
  clear b4
  go_wp2_with fail
  refine Calls.mono (lcode_any HE.out v3 _ V3.out) ?_
  rintro e w5 ⟨rfl, b5⟩
  have TF := hide (T1.out.below b5)
  have XF := hide (chain X4.out b5)
  clear b5 V3
  have hz0 : fireE l = 0 ∨ fireE l ≠ 0 := Classical.em _
  generalize fireE l = ce at *
  rcases hz0 with rfl | hne
  · have X9 := hide XF.out
    go_wp2
    go_ret2
    exact ⟨_, _, _, _, rfl, TF.out, by have := fireL_len l n; omega, X9.out⟩
  · have hb : ((ce : Int) != 0) = true := by simp; omega
    have S9 := hide (HS0.out.below XF.out)
    clear hne
    go_wp2
    go_ret2
    exact ⟨_, _, _, _, rfl, S9.out, hm, XF.out⟩

set_option maxRecDepth 100000 in
set_option maxHeartbeats 2000000 in
theorem plays4_any {w : World} {E : Nat → Addr} (he : Errs w E) (a : Option Addr) (len cap : Nat) (l : List Tm) (hs : Tms w a len cap l) (pr n : Int) (hm : len ≤ 8796093021952) :
    Calls Tryd.prog 10 #[.slice a len cap, .agg #[.int .i64 4, .int .i64 pr, .int .i64 n]] w fun e w' => ∃ a' len' cap' l', e = .returned (.tuple #[.slice a' len' cap', .bool true]) ∧ Tms w' a' len' cap' l' ∧ len' ≤ 8796093021952 ∧ Below w.heap.size w w' := by
  have HS0 := hide hs
  have HLEN := hide hs.size
  have HE0 := hide he
  have N0 := new_below w (.cells #[.int .i64 4, .int .i64 pr, .int .i64 n] 29)
  have X0 := hide N0
  have HS := hide (HS0.out.below N0)
  have HE := hide (HE0.out.below N0)
  have g1 : (w.alloc (.cells #[.int .i64 4, .int .i64 pr, .int .i64 n] 29)).cell? ⟨w.heap.size, 1, none⟩ = some (.int .i64 pr) := by rw [World.cell?_alloc_at _ _ _ _ rfl]; rfl
  have g2 : (w.alloc (.cells #[.int .i64 4, .int .i64 pr, .int .i64 n] 29)).cell? ⟨w.heap.size, 2, none⟩ = some (.int .i64 n) := by rw [World.cell?_alloc_at _ _ _ _ rfl]; rfl
  have G1 := hide g1
  have G2 := hide g2
  clear hs he N0 g1 g2
  go_enter Tryd.func10, Tryd.ntmps10
  go_wp2_with fail
  generalize w.alloc (.cells #[.int .i64 4, .int .i64 pr, .int .i64 n] 29) = W0 at *
  refine Calls.mono (rshift_any W0 a len cap l HS.out n (by omega)) ?_
  rintro e w1 ⟨x1, q1, rfl, hq1, h1, b1⟩
  subst hq1
  obtain ⟨a1, c1, rfl, t1⟩ := town_tms h1
  have T1 := hide t1
  clear h1 t1
  have G1 := hide (cell_below G1.out b1)
  have G2 := hide (cell_below G2.out b1)
  have HS := hide (HS.out.below b1)
  have HE := hide (HE.out.below b1)
  have X1 := hide (chain X0.out b1)
  clear b1
  have g1 := G1.out
  have g2 := G2.out
  go_wp2_with fail
  go_region_held3 (fun wz => wz.cell? ⟨w.heap.size, 1, none⟩ = some (.int .i64 pr) ∧ wz.cell? ⟨w.heap.size, 2, none⟩ = some (.int .i64 n))
    (first | exact ⟨G1.out, G2.out⟩ | exact ⟨K1.out, K2.out⟩)
    (first
      | (go_at_call 9; refine (copied_any _ a len cap l (tms_drew HS.out) (by omega)).mono ?_; rintro e w2 ⟨x2, rfl, h2, b2⟩; obtain ⟨a2, c2, rfl, t2⟩ := town_tms h2; have T2 := hide t2; have B2 := hide (undrew b2); have k1 := cell_below G1.out B2.out; have k2 := cell_below G2.out B2.out; have K1 := hide k1; have K2 := hide k2; clear h2 b2 t2)
      | (go_at_call 15; refine (tshift_any (HE.out.below B2.out).er3 a2 _ c2 l T2.out n (by rw [HLEN.out]; omega)).mono ?_; rintro e w3 ⟨x3, v3, rfl, hv3, h3, b3⟩; obtain ⟨a3, c3, rfl, t3⟩ := town_tms h3; have T3 := hide t3; have V3 := hide hv3; have B3 := hide (chain B2.out b3); have m1 := cell_below K1.out b3; have m2 := cell_below K2.out b3; have K1 := hide m1; have K2 := hide m2; clear t3 b3; clear hv3 h3))
  rename_i hheld
  clear hheld
  have T1 := hide (T1.out.below B3.out)
  have X3 := hide (chain X1.out B3.out)
  have HE := hide (HE.out.below B3.out)
  clear g1 g2
  go_wp2_with fail
  refine Calls.mono (same_any a3 a1 _ _ c3 c1 _ _ T3.out T1.out (by have := shiftL_len l n; omega) (by have := shiftL_len l n; omega)) ?_
  rintro e w4 ⟨rfl, b4⟩
  rw [decide_eq_true rfl]
  have T1 := hide (T1.out.below b4)
  have X4 := hide (chain X3.out b4)
  have HE := hide (HE.out.below b4)
  clear b4
  go_wp2_with fail
  refine Calls.mono (lcode_any HE.out v3 _ V3.out) ?_
  rintro e w5 ⟨rfl, b5⟩
  have TF := hide (T1.out.below b5)
  have XF := hide (chain X4.out b5)
  clear b5 V3
  have hz0 : shiftE l n = 0 ∨ shiftE l n ≠ 0 := Classical.em _
  generalize shiftE l n = ce at *
  rcases hz0 with rfl | hne
  · have X9 := hide XF.out
    go_wp2
    go_ret2
    exact ⟨_, _, _, _, rfl, TF.out, by have := shiftL_len l n; omega, X9.out⟩
  · have hb : ((ce : Int) != 0) = true := by simp; omega
    have S9 := hide (HS0.out.below XF.out)
    clear hne
    go_wp2
    go_ret2
    exact ⟨_, _, _, _, rfl, S9.out, hm, XF.out⟩

set_option maxRecDepth 100000 in
set_option maxHeartbeats 2000000 in
theorem playsNo_any {w : World} {E : Nat → Addr} (he : Errs w E) (a : Option Addr) (len cap : Nat) (l : List Tm) (hs : Tms w a len cap l) (kd pr n : Int) (h1 : kd ≠ 1) (h2 : kd ≠ 2) (h3 : kd ≠ 3) (h4 : kd ≠ 4) (h5 : kd ≠ 5) (hm : len ≤ 8796093021952) :
    Calls Tryd.prog 10 #[.slice a len cap, .agg #[.int .i64 kd, .int .i64 pr, .int .i64 n]] w fun e w' => ∃ a' len' cap' l', e = .returned (.tuple #[.slice a' len' cap', .bool true]) ∧ Tms w' a' len' cap' l' ∧ len' ≤ 8796093021952 ∧ Below w.heap.size w w' := by
  have HS0 := hide hs
  have HLEN := hide hs.size
  have HE0 := hide he
  have N0 := new_below w (.cells #[.int .i64 kd, .int .i64 pr, .int .i64 n] 29)
  have X0 := hide N0
  have HS := hide (HS0.out.below N0)
  have HE := hide (HE0.out.below N0)
  have g1 : (w.alloc (.cells #[.int .i64 kd, .int .i64 pr, .int .i64 n] 29)).cell? ⟨w.heap.size, 1, none⟩ = some (.int .i64 pr) := by rw [World.cell?_alloc_at _ _ _ _ rfl]; rfl
  have g2 : (w.alloc (.cells #[.int .i64 kd, .int .i64 pr, .int .i64 n] 29)).cell? ⟨w.heap.size, 2, none⟩ = some (.int .i64 n) := by rw [World.cell?_alloc_at _ _ _ _ rfl]; rfl
  have G1 := hide g1
  have G2 := hide g2
  clear hs he N0 g1 g2
  have d1 : (kd == 1) = false := by simp [h1]
  have d2 : (kd == 2) = false := by simp [h2]
  have d3 : (kd == 3) = false := by simp [h3]
  have d4 : (kd == 4) = false := by simp [h4]
  have d5 : (kd == 5) = false := by simp [h5]
  clear h1 h2 h3 h4 h5
  go_enter Tryd.func10, Tryd.ntmps10
  go_wp2
  go_ret2
  exact ⟨_, _, _, _, rfl, HS.out, hm, X0.out⟩
end Go.Proofs.YtdckpecalglnoaaDoor
