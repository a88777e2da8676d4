/-
  The walk of XferTakes: every Take and Whole is the document's.
-/
import Derived.Test.YtnopclacchoijaaDoorXfAwake
import Derived.Test.YtnopclacchoijaaDoorXtTake
import Derived.Test.YtnopclacchoijaaDoorXrNotes
import Derived.Test.YtnopclacchoijaaDoorXrSame
import Derived.Test.YtnopclacchoijaaDoorXfRWhole
import Derived.Deep.CutRange
import Derived.Deep.RegionHeld3
namespace Go.Proofs.YtnopclacchoijaaDoor.xferTakes
open Go.RowKit FerryCrc
set_option linter.unusedVariables false
set_option linter.unusedSimpArgs false

theorem held18c {pt b r m st : Int} {im : ByteArray} {rd : Int} {fa : Option Addr} {fn fc : Nat} {on : Bool} {x1 x2 x3 x4 x5 x6 : Int} {pa : Option Addr} {pn pc : Nat} {k pt2 b2 r2 m2 st2 ix tt2 sm : Int} {d : ByteArray} {tr : Int} {w : World} {g : Nat} {t : TypeId} (h : Bk w g [.int .i64 pt, .int .i64 b, .int .i64 r, .int .i64 m, .int .i64 st, .string im, .slice fa fn fc, .int .i64 rd, .bool on, .int .i64 x1, .int .i64 x2, .int .i64 x3, .int .i64 x4, .int .i64 x5, .int .i64 x6, .slice pa pn pc, .int .i64 k, .int .i64 pt2, .int .i64 b2, .int .i64 r2, .int .i64 m2, .int .i64 st2, .int .i64 ix, .int .i64 tt2, .int .u32 sm, .string d, .int .i64 tr] t) : w.cell? ⟨g, 8, none⟩ = some (.bool on) ∧ w.cell? ⟨g, 9, none⟩ = some (.int .i64 x1) ∧ w.cell? ⟨g, 10, none⟩ = some (.int .i64 x2) ∧ w.cell? ⟨g, 11, none⟩ = some (.int .i64 x3) ∧ w.cell? ⟨g, 12, none⟩ = some (.int .i64 x4) ∧ w.cell? ⟨g, 13, none⟩ = some (.int .i64 x5) ∧ w.cell? ⟨g, 14, none⟩ = some (.int .i64 x6) ∧ w.cell? ⟨g, 15, none⟩ = some (.slice pa pn pc) ∧ w.cell? ⟨g, 16, none⟩ = some (.int .i64 k) ∧ w.cell? ⟨g, 17, none⟩ = some (.int .i64 pt2) ∧ w.cell? ⟨g, 18, none⟩ = some (.int .i64 b2) ∧ w.cell? ⟨g, 19, none⟩ = some (.int .i64 r2) ∧ w.cell? ⟨g, 20, none⟩ = some (.int .i64 m2) ∧ w.cell? ⟨g, 21, none⟩ = some (.int .i64 st2) ∧ w.cell? ⟨g, 22, none⟩ = some (.int .i64 ix) ∧ w.cell? ⟨g, 23, none⟩ = some (.int .i64 tt2) ∧ w.cell? ⟨g, 24, none⟩ = some (.int .u32 sm) ∧ w.cell? ⟨g, 25, none⟩ = some (.string d) :=
  ⟨h.cell 8 rfl, h.cell 9 rfl, h.cell 10 rfl, h.cell 11 rfl, h.cell 12 rfl, h.cell 13 rfl, h.cell 14 rfl, h.cell 15 rfl, h.cell 16 rfl, h.cell 17 rfl, h.cell 18 rfl, h.cell 19 rfl, h.cell 20 rfl, h.cell 21 rfl, h.cell 22 rfl, h.cell 23 rfl, h.cell 24 rfl, h.cell 25 rfl⟩
theorem held36 {TB : Bool} {s1 s2 s3 s4 s5 s6 : Int} {va vb : Option Addr} {tn vc vd : Nat} {n1 n2 n3 n4 n5 n6 n7 n8 n9 : Int} {nd : ByteArray} {w : World} {g9 h3 g10 h4 : Nat} {t t' t'' t3 : TypeId} (q1 : Bk w g9 [.bool TB, .int .i64 s1, .int .i64 s2, .int .i64 s3, .int .i64 s4, .int .i64 s5, .int .i64 s6, .slice va tn vc] t) (q2 : Bk w h3 [.bool TB, .int .i64 s1, .int .i64 s2, .int .i64 s3, .int .i64 s4, .int .i64 s5, .int .i64 s6, .slice vb tn vd] t') (q3 : Bk w g10 [.int .i64 n1, .int .i64 n2, .int .i64 n3, .int .i64 n4, .int .i64 n5, .int .i64 n6, .int .i64 n7, .int .i64 n8, .int .u32 n9, .string nd] t'') (q4 : Bk w h4 [.int .i64 n1, .int .i64 n2, .int .i64 n3, .int .i64 n4, .int .i64 n5, .int .i64 n6, .int .i64 n7, .int .i64 n8, .int .u32 n9, .string nd] t3) :
    w.cell? ⟨g9, 0, none⟩ = some (.bool TB) ∧ w.cell? ⟨g9, 1, none⟩ = some (.int .i64 s1) ∧ w.cell? ⟨g9, 2, none⟩ = some (.int .i64 s2) ∧ w.cell? ⟨g9, 3, none⟩ = some (.int .i64 s3) ∧ w.cell? ⟨g9, 4, none⟩ = some (.int .i64 s4) ∧ w.cell? ⟨g9, 5, none⟩ = some (.int .i64 s5) ∧ w.cell? ⟨g9, 6, none⟩ = some (.int .i64 s6) ∧ w.cell? ⟨g9, 7, none⟩ = some (.slice va tn vc) ∧ w.cell? ⟨h3, 0, none⟩ = some (.bool TB) ∧ w.cell? ⟨h3, 1, none⟩ = some (.int .i64 s1) ∧ w.cell? ⟨h3, 2, none⟩ = some (.int .i64 s2) ∧ w.cell? ⟨h3, 3, none⟩ = some (.int .i64 s3) ∧ w.cell? ⟨h3, 4, none⟩ = some (.int .i64 s4) ∧ w.cell? ⟨h3, 5, none⟩ = some (.int .i64 s5) ∧ w.cell? ⟨h3, 6, none⟩ = some (.int .i64 s6) ∧ w.cell? ⟨h3, 7, none⟩ = some (.slice vb tn vd) ∧ w.cell? ⟨g10, 0, none⟩ = some (.int .i64 n1) ∧ w.cell? ⟨g10, 1, none⟩ = some (.int .i64 n2) ∧ w.cell? ⟨g10, 2, none⟩ = some (.int .i64 n3) ∧ w.cell? ⟨g10, 3, none⟩ = some (.int .i64 n4) ∧ w.cell? ⟨g10, 4, none⟩ = some (.int .i64 n5) ∧ w.cell? ⟨g10, 5, none⟩ = some (.int .i64 n6) ∧ w.cell? ⟨g10, 6, none⟩ = some (.int .i64 n7) ∧ w.cell? ⟨g10, 7, none⟩ = some (.int .i64 n8) ∧ w.cell? ⟨g10, 8, none⟩ = some (.int .u32 n9) ∧ w.cell? ⟨g10, 9, none⟩ = some (.string nd) ∧ w.cell? ⟨h4, 0, none⟩ = some (.int .i64 n1) ∧ w.cell? ⟨h4, 1, none⟩ = some (.int .i64 n2) ∧ w.cell? ⟨h4, 2, none⟩ = some (.int .i64 n3) ∧ w.cell? ⟨h4, 3, none⟩ = some (.int .i64 n4) ∧ w.cell? ⟨h4, 4, none⟩ = some (.int .i64 n5) ∧ w.cell? ⟨h4, 5, none⟩ = some (.int .i64 n6) ∧ w.cell? ⟨h4, 6, none⟩ = some (.int .i64 n7) ∧ w.cell? ⟨h4, 7, none⟩ = some (.int .i64 n8) ∧ w.cell? ⟨h4, 8, none⟩ = some (.int .u32 n9) ∧ w.cell? ⟨h4, 9, none⟩ = some (.string nd) :=
  ⟨q1.cell 0 rfl, q1.cell 1 rfl, q1.cell 2 rfl, q1.cell 3 rfl, q1.cell 4 rfl, q1.cell 5 rfl, q1.cell 6 rfl, q1.cell 7 rfl, q2.cell 0 rfl, q2.cell 1 rfl, q2.cell 2 rfl, q2.cell 3 rfl, q2.cell 4 rfl, q2.cell 5 rfl, q2.cell 6 rfl, q2.cell 7 rfl, q3.cell 0 rfl, q3.cell 1 rfl, q3.cell 2 rfl, q3.cell 3 rfl, q3.cell 4 rfl, q3.cell 5 rfl, q3.cell 6 rfl, q3.cell 7 rfl, q3.cell 8 rfl, q3.cell 9 rfl, q4.cell 0 rfl, q4.cell 1 rfl, q4.cell 2 rfl, q4.cell 3 rfl, q4.cell 4 rfl, q4.cell 5 rfl, q4.cell 6 rfl, q4.cell 7 rfl, q4.cell 8 rfl, q4.cell 9 rfl⟩
theorem wpAnyH_listed {P : Program} {md : Region.Mode} {ops : Array Oper} {Q : Exit → Act → World → Prop} {S : World → Prop} {n : Nat} {l l' : Array Bool} {a : Act} {w : World} (h : l = l') (k : wpAnyH P md ops Q S n l' a w) : wpAnyH P md ops Q S n l a w := h ▸ k
theorem by_key4 {P : Program} {md : Region.Mode} {ops : Array Oper} {Q : Exit → Act → World → Prop} {S : World → Prop} {n : Nat} {l : Array Bool} {a : Act} {w : World} (F : Option Addr → Nat → Nat → Nat → World → Prop) (u : Act → Option Addr → Nat → Nat → Nat → Act) (l3 : Array Bool) (n3 : Nat) (hm : (∀ va vc g h wz, F va vc g h wz → wpAnyH P md ops Q S n3 l3 (u a va vc g h) wz) → wpAnyH P md ops Q S n l a w) (hk : ∀ va vc g h wz, F va vc g h wz → wpAnyH P md ops Q S n3 l3 (u a va vc g h) wz) : wpAnyH P md ops Q S n l a w := hm hk
theorem bel_al {a w : World} (h : Below a.heap.size a w) (o : Obj) : Below a.heap.size a (w.alloc o) := h.alloc h.size o
theorem takE_le (on : Bool) (s : Sg) (P : List ByteArray) (n : Nt) : takE on s P n ≤ 20 := by
  have hb : begE n ≤ 20 := by
    unfold begE chk
    repeat' split
    all_goals decide
  have ha : addE s P n ≤ 20 := by
    unfold addE
    repeat' split
    all_goals first | decide | exact hb
  unfold takE
  repeat' split
  all_goals first | decide | exact hb | exact ha
theorem rwE_le (on : Bool) (s : Sg) (P : List ByteArray) : rwE on s P ≤ 20 := by
  unfold rwE
  split <;> decide
theorem takP_le {on : Bool} {s : Sg} {P : List ByteArray} {n : Nt} : (takP on s P n).length ≤ 4611686018427387904 := by
  have hb : (begP n).length ≤ 4611686018427387904 := by
    unfold begP
    split
    · rename_i h
      obtain ⟨q1, q2⟩ := begE_open h
      obtain ⟨-, -, -, q3, -⟩ := chk_chunk q1 q2
      rw [List.length_set, List.length_replicate]
      omega
    · simp
  have ha : (addP s P n).length ≤ 4611686018427387904 := by
    unfold addP
    split
    · rename_i h
      rw [List.length_set]
      have hg : goodB s P = true := by
        unfold addE at h
        split at h
        · assumption
        · cases h
      obtain ⟨-, -, -, q2, q3, -⟩ := goodB_open hg
      omega
    · simp
  unfold takP
  repeat' split
  all_goals first | exact ha | exact hb | simp

set_option maxRecDepth 100000 in
set_option maxHeartbeats 4000000 in
theorem law (pt b r m st : Int) (im : ByteArray) (rd : Int) (fa : Option Addr) (fn fc : Nat) (F : List Bool) (on : Bool) (x1 x2 x3 x4 x5 x6 : Int) (pa : Option Addr) (pn pc : Nat) (P : List ByteArray) (k pt2 b2 r2 m2 st2 ix tt2 sm : Int) (d : ByteArray) (tr : Int) (w : World) {E : Nat → Addr} (he : Errs w E) (hP : Txs w pa pn pc P) (hz : ∀ x ∈ P, x.size ≤ 9223372036854775807) (hd : d.size ≤ 9223372036854775807) (h1 : -9223372036854775808 ≤ tt2) (h2 : tt2 ≤ 9223372036854775807) :
    Calls Tryd.prog 5 #[.agg #[.int .i64 pt, .int .i64 b, .int .i64 r, .int .i64 m, .int .i64 st, .string im, .slice fa fn fc, .int .i64 rd, .bool on, .int .i64 x1, .int .i64 x2, .int .i64 x3, .int .i64 x4, .int .i64 x5, .int .i64 x6, .slice pa pn pc, .int .i64 k, .int .i64 pt2, .int .i64 b2, .int .i64 r2, .int .i64 m2, .int .i64 st2, .int .i64 ix, .int .i64 tt2, .int .u32 sm, .string d, .int .i64 tr]] w fun e w' => e = .returned (.bool true) ∧ Below w.heap.size w w' := by
  obtain ⟨W, hW, B0, D0⟩ := box1 w [.int .i64 pt, .int .i64 b, .int .i64 r, .int .i64 m, .int .i64 st, .string im, .slice fa fn fc, .int .i64 rd, .bool on, .int .i64 x1, .int .i64 x2, .int .i64 x3, .int .i64 x4, .int .i64 x5, .int .i64 x6, .slice pa pn pc, .int .i64 k, .int .i64 pt2, .int .i64 b2, .int .i64 r2, .int .i64 m2, .int .i64 st2, .int .i64 ix, .int .i64 tt2, .int .u32 sm, .string d, .int .i64 tr] 36
  have HB0 := hide B0
  have HD := hide D0
  have HWD := hide hW
  have HAW := hide (awake_any (he.below D0).er7)
  have HC1 := hide (fun (w' : World) (D : Below w.heap.size w w') => rtake_any on x1 x2 x3 x4 x5 x6 pa pn pc P k pt2 b2 r2 m2 st2 ix tt2 sm d (hP.below D) hd h1 h2)
  have HC2 := hide (fun (w' : World) (D : Below w.heap.size w w') => rwholeR_any on x1 x2 x3 x4 x5 x6 pa pn pc P (hP.below D))
  have HTK := hide (fun (w' : World) (D : Below w.heap.size w w') => take_any on x1 x2 x3 x4 x5 x6 pa pn pc P k pt2 b2 r2 m2 st2 ix tt2 sm d (he.below D).er7 (hP.below D) hz hd h1 h2)
  have HP2 := hide (fun (w' : World) (D : Below w.heap.size w w') => rwhole_any on x1 x2 x3 x4 x5 x6 pa pn pc P (he.below D).er7 (hP.below D) hz)
  have HTR := hide (fun (w' : World) => toRecv_any on x1 x2 x3 x4 x5 x6 pa pn pc w')
  have HQ1 := hide (fun (w' : World) (D : Below w.heap.size w w') => plain_any (he.below D) (takE on ⟨x1, x2, x3, x4, x5, x6⟩ P ⟨k, pt2, b2, r2, m2, st2, ix, tt2, sm, d⟩) (takE_le _ _ _ _))
  have HQ2 := hide (fun (w' : World) (D : Below w.heap.size w w') => plain_any (he.below D) (rwE on ⟨x1, x2, x3, x4, x5, x6⟩ P) (rwE_le _ _ _))
  have HL1 : Hid ((takP on ⟨x1, x2, x3, x4, x5, x6⟩ P ⟨k, pt2, b2, r2, m2, st2, ix, tt2, sm, d⟩).length ≤ 4611686018427387904) := takP_le
  obtain ⟨TE, hTE⟩ : ∃ X, takE on ⟨x1, x2, x3, x4, x5, x6⟩ P ⟨k, pt2, b2, r2, m2, st2, ix, tt2, sm, d⟩ = X := ⟨_, rfl⟩
  obtain ⟨TS, hTS⟩ : ∃ X, takS on ⟨x1, x2, x3, x4, x5, x6⟩ P ⟨k, pt2, b2, r2, m2, st2, ix, tt2, sm, d⟩ = X := ⟨_, rfl⟩
  obtain ⟨TP, hTP⟩ : ∃ X, takP on ⟨x1, x2, x3, x4, x5, x6⟩ P ⟨k, pt2, b2, r2, m2, st2, ix, tt2, sm, d⟩ = X := ⟨_, rfl⟩
  obtain ⟨TN, hTN⟩ : ∃ X, takN on ⟨x1, x2, x3, x4, x5, x6⟩ P ⟨k, pt2, b2, r2, m2, st2, ix, tt2, sm, d⟩ = X := ⟨_, rfl⟩
  obtain ⟨RB, hRB⟩ : ∃ X, rwB on ⟨x1, x2, x3, x4, x5, x6⟩ P = X := ⟨_, rfl⟩
  obtain ⟨RF, hRF⟩ : ∃ X, rwF on ⟨x1, x2, x3, x4, x5, x6⟩ P = X := ⟨_, rfl⟩
  obtain ⟨RE, hRE⟩ : ∃ X, rwE on ⟨x1, x2, x3, x4, x5, x6⟩ P = X := ⟨_, rfl⟩
  rw [hTE] at HC1 HTK HQ1
  rw [hTS] at HC1 HTK
  rw [hTP] at HC1 HTK HL1
  rw [hTN] at HC1 HTK
  rw [hRB] at HC2 HP2
  rw [hRF] at HC2 HP2
  rw [hRE] at HC2 HP2 HQ2
  obtain ⟨TB, hTB⟩ : ∃ X, decide (TE = 0) = X := ⟨_, rfl⟩
  rw [hTB] at HC1 HTK
  obtain ⟨KT, hKT⟩ : ∃ X, erv E TE = X := ⟨_, rfl⟩
  obtain ⟨KW, hKW⟩ : ∃ X, erv E RE = X := ⟨_, rfl⟩
  rw [hKT] at HTK HQ1
  rw [hKW] at HP2 HQ2
  obtain ⟨s1, s2, s3, s4, s5, s6⟩ := TS
  obtain ⟨n1, n2, n3, n4, n5, n6, n7, n8, n9, nd⟩ := TN
  unfold Sg.cells Nt.cells at HC1 HTK
  simp only at HC1 HTK
  have HFR := hide (fun (a : Option Addr) (n c : Nat) (w' : World) => fromRecv_any TB s1 s2 s3 s4 s5 s6 a n c w')
  have HSM := hide (fun (w' : World) (a a' : Option Addr) (n c c' : Nat) (q1 : Txs w' a n c TP) (q2 : Txs w' a' n c' TP) (q3 : n ≤ 4611686018427387904) => rsameR_any TB s1 s2 s3 s4 s5 s6 a n c a' c' TP q1 q2 q3)
  have HNE := nt_neq_same ⟨n1, n2, n3, n4, n5, n6, n7, n8, n9, nd⟩
  simp only at HNE
  have HNQ := hide HNE
  obtain ⟨p, hp⟩ : ∃ p, w.heap.size = p := ⟨_, rfl⟩
  have HPP := hide hp
  rw [hp] at HB0
  clear B0 D0 hW he hP hz hd h1 h2 hTE hTS hTP hTN hRB hRF hRE hTB hKT hKW hp HNE
  go_enter Tryd.func5, Tryd.ntmps5
  go_upto_region 1 with fail
  have hW := HWD.out
  have hp := HPP.out
  simp only [hW, hp]
  clear hW HWD hp
  go_wp2_with fail
  refine Calls.mono HAW.out ?_
  rintro e w1 ⟨rfl, b1⟩
  replace HB0 := hide (HB0.out.below b1)
  replace HD := hide (chain HD.out b1)
  clear b1 HAW
  go_upto_region 3 with fail
  have g8 := HB0.out.cell 8 rfl
  have g9 := HB0.out.cell 9 rfl
  have g10 := HB0.out.cell 10 rfl
  have g11 := HB0.out.cell 11 rfl
  have g12 := HB0.out.cell 12 rfl
  have g13 := HB0.out.cell 13 rfl
  have g14 := HB0.out.cell 14 rfl
  have g15 := HB0.out.cell 15 rfl
  have g16 := HB0.out.cell 16 rfl
  have g17 := HB0.out.cell 17 rfl
  have g18 := HB0.out.cell 18 rfl
  have g19 := HB0.out.cell 19 rfl
  have g20 := HB0.out.cell 20 rfl
  have g21 := HB0.out.cell 21 rfl
  have g22 := HB0.out.cell 22 rfl
  have g23 := HB0.out.cell 23 rfl
  have g24 := HB0.out.cell 24 rfl
  have g25 := HB0.out.cell 25 rfl
  go_wp2_with fail
  refine Calls.mono (HC1.out w1 HD.out) ?_
  rintro e w2 ⟨v, rfl, o2, b2⟩
  obtain ⟨vb, vd, rfl, -⟩ := o2.rcs
  obtain ⟨tn, htn⟩ : ∃ n, TP.length = n := ⟨_, rfl⟩
  rw [htn] at o2 HL1 ⊢
  have HTN := hide htn
  have HV := hide o2
  have HPV : Hid (p ≤ w1.heap.size) := Nat.le_of_lt HB0.out.lt
  replace HB0 := hide (HB0.out.below b2)
  replace HD := hide (chain HD.out b2)
  clear b2 o2 HC1 htn g8 g9 g10 g11 g12 g13 g14 g15 g16 g17 g18 g19 g20 g21 g22 g23 g24 g25
  obtain ⟨W4, hW4, B3, B4, D4⟩ := box2 w2 [.bool TB, .int .i64 s1, .int .i64 s2, .int .i64 s3, .int .i64 s4, .int .i64 s5, .int .i64 s6, .slice vb tn vd] 31 [.int .i64 n1, .int .i64 n2, .int .i64 n3, .int .i64 n4, .int .i64 n5, .int .i64 n6, .int .i64 n7, .int .i64 n8, .int .u32 n9, .string nd] 34
  obtain ⟨h3, hh3⟩ : ∃ h, w2.heap.size = h := ⟨_, rfl⟩
  obtain ⟨h4, hh4⟩ : ∃ h, h3 + 1 = h := ⟨_, rfl⟩
  rw [hh3] at B3 B4
  rw [hh4] at B4
  have HW4 := hide hW4
  have HHE := hide (And.intro hh3 hh4)
  have HH3 := hide B3
  have HH4 := hide B4
  replace HB0 := hide (HB0.out.below D4)
  replace HV := hide (HV.out.below D4)
  replace HD := hide (chain HD.out D4)
  clear hW4 hh3 hh4 B3 B4 D4
  go_upto_region 4 with fail
  have hW4 := HW4.out
  obtain ⟨hh3, hh4⟩ := HHE.out
  simp only [hW4, hh3, hh4]
  clear HW4 HHE hW4 hh3 hh4
  have g8 := HB0.out.cell 8 rfl
  have g9 := HB0.out.cell 9 rfl
  have g10 := HB0.out.cell 10 rfl
  have g11 := HB0.out.cell 11 rfl
  have g12 := HB0.out.cell 12 rfl
  have g13 := HB0.out.cell 13 rfl
  have g14 := HB0.out.cell 14 rfl
  have g15 := HB0.out.cell 15 rfl
  have g16 := HB0.out.cell 16 rfl
  have g17 := HB0.out.cell 17 rfl
  have g18 := HB0.out.cell 18 rfl
  have g19 := HB0.out.cell 19 rfl
  have g20 := HB0.out.cell 20 rfl
  have g21 := HB0.out.cell 21 rfl
  have g22 := HB0.out.cell 22 rfl
  have g23 := HB0.out.cell 23 rfl
  have g24 := HB0.out.cell 24 rfl
  have g25 := HB0.out.cell 25 rfl
  go_wp2_with fail
  refine Calls.mono (HC2.out W4 HD.out) ?_
  rintro e w5 ⟨rfl, b5⟩
  replace HB0 := hide (HB0.out.below b5)
  replace HV := hide (HV.out.below b5)
  replace HH3 := hide (HH3.out.below b5)
  replace HH4 := hide (HH4.out.below b5)
  replace HD := hide (chain HD.out b5)
  clear b5 HC2 g8 g9 g10 g11 g12 g13 g14 g15 g16 g17 g18 g19 g20 g21 g22 g23 g24 g25
  obtain ⟨Y, hY⟩ : ∃ Y, str RB = Y := ⟨_, rfl⟩
  rw [hY]
  have HYY := hide hY
  clear hY
  go_upto_region 5 with fail
  obtain ⟨wt, hwt⟩ : ∃ z, z = w5 := ⟨_, rfl⟩
  subst hwt
  go_cut [9, 10, 11] from 32 to 41 (fun v9 v10 v11 wz => ∃ va vc g9 g10, v9 = .pointer (some ⟨g9, 0, none⟩) ∧ v10 = .pointer (some ⟨g10, 0, none⟩) ∧ v11 = KT ∧ Bk wz g9 [.bool TB, .int .i64 s1, .int .i64 s2, .int .i64 s3, .int .i64 s4, .int .i64 s5, .int .i64 s6, .slice va tn vc] 78 ∧ Bk wz g10 [.int .i64 n1, .int .i64 n2, .int .i64 n3, .int .i64 n4, .int .i64 n5, .int .i64 n6, .int .i64 n7, .int .i64 n8, .int .u32 n9, .string nd] 34 ∧ TxOwn wz wt.heap.size (.slice va tn vc) TP ∧ Below wt.heap.size wt wz)
  case first =>
    have HSB : Hid (∀ wz, Below wt.heap.size wt wz → wz.cell? ⟨p, 8, none⟩ = some (.bool on) ∧ wz.cell? ⟨p, 9, none⟩ = some (.int .i64 x1) ∧ wz.cell? ⟨p, 10, none⟩ = some (.int .i64 x2) ∧ wz.cell? ⟨p, 11, none⟩ = some (.int .i64 x3) ∧ wz.cell? ⟨p, 12, none⟩ = some (.int .i64 x4) ∧ wz.cell? ⟨p, 13, none⟩ = some (.int .i64 x5) ∧ wz.cell? ⟨p, 14, none⟩ = some (.int .i64 x6) ∧ wz.cell? ⟨p, 15, none⟩ = some (.slice pa pn pc) ∧ wz.cell? ⟨p, 16, none⟩ = some (.int .i64 k) ∧ wz.cell? ⟨p, 17, none⟩ = some (.int .i64 pt2) ∧ wz.cell? ⟨p, 18, none⟩ = some (.int .i64 b2) ∧ wz.cell? ⟨p, 19, none⟩ = some (.int .i64 r2) ∧ wz.cell? ⟨p, 20, none⟩ = some (.int .i64 m2) ∧ wz.cell? ⟨p, 21, none⟩ = some (.int .i64 st2) ∧ wz.cell? ⟨p, 22, none⟩ = some (.int .i64 ix) ∧ wz.cell? ⟨p, 23, none⟩ = some (.int .i64 tt2) ∧ wz.cell? ⟨p, 24, none⟩ = some (.int .u32 sm) ∧ wz.cell? ⟨p, 25, none⟩ = some (.string d)) := fun wz h => held18c (HB0.out.below h)
    refine wp_region_held_drew (S := fun wz => wz.cell? ⟨p, 8, none⟩ = some (.bool on) ∧ wz.cell? ⟨p, 9, none⟩ = some (.int .i64 x1) ∧ wz.cell? ⟨p, 10, none⟩ = some (.int .i64 x2) ∧ wz.cell? ⟨p, 11, none⟩ = some (.int .i64 x3) ∧ wz.cell? ⟨p, 12, none⟩ = some (.int .i64 x4) ∧ wz.cell? ⟨p, 13, none⟩ = some (.int .i64 x5) ∧ wz.cell? ⟨p, 14, none⟩ = some (.int .i64 x6) ∧ wz.cell? ⟨p, 15, none⟩ = some (.slice pa pn pc) ∧ wz.cell? ⟨p, 16, none⟩ = some (.int .i64 k) ∧ wz.cell? ⟨p, 17, none⟩ = some (.int .i64 pt2) ∧ wz.cell? ⟨p, 18, none⟩ = some (.int .i64 b2) ∧ wz.cell? ⟨p, 19, none⟩ = some (.int .i64 r2) ∧ wz.cell? ⟨p, 20, none⟩ = some (.int .i64 m2) ∧ wz.cell? ⟨p, 21, none⟩ = some (.int .i64 st2) ∧ wz.cell? ⟨p, 22, none⟩ = some (.int .i64 ix) ∧ wz.cell? ⟨p, 23, none⟩ = some (.int .i64 tt2) ∧ wz.cell? ⟨p, 24, none⟩ = some (.int .u32 sm) ∧ wz.cell? ⟨p, 25, none⟩ = some (.string d)) (by kernel_rfl) (HSB.out _ (Below.refl _ _).drew) (fun hHeld => ?_)
    refine wpAnyH_take (i := 0) (oi := { dst := some 33, op := Go.Op.fieldAddr 36 (Go.Operand.tmp 1) 1, type := 0, pos := "law.go:116", after := #[], guard := none }) (v := ?_) rfl (by kernel_rfl) (by kernel_rfl) (by kernel_rfl) (fun _ _ _ h => h) (Or.inl ⟨by rfl, ?_⟩) (by assumption) ?_
    rotate_left
    · intro w hSw
      obtain ⟨q0, q1, q2, q3, q4, q5, q6, q7, q8, q9, q10, q11, q12, q13, q14, q15, q16, q17⟩ := hSw
      go_simp
      try with_reducible rfl
    simp only [Act.put, List.setIfInBounds_toArray, List.set_cons_zero, List.set_cons_succ]
    refine wpAnyH_take (i := 1) (oi := { dst := some 34, op := Go.Op.load 31 (Go.Operand.tmp 33), type := 31, pos := "law.go:116", after := #[{ on := 0, ground := Go.Ground.data }], guard := none }) (v := ?_) rfl (by kernel_rfl) (by kernel_rfl) (by kernel_rfl) (fun _ _ _ h => h) (Or.inl ⟨by rfl, ?_⟩) (by assumption) ?_
    rotate_left
    · intro w hSw
      obtain ⟨q0, q1, q2, q3, q4, q5, q6, q7, q8, q9, q10, q11, q12, q13, q14, q15, q16, q17⟩ := hSw
      go_simp
      try with_reducible rfl
    simp only [Act.put, List.setIfInBounds_toArray, List.set_cons_zero, List.set_cons_succ]
    refine wpAnyH_take (i := 3) (oi := { dst := some 36, op := Go.Op.fieldAddr 36 (Go.Operand.tmp 1) 2, type := 0, pos := "law.go:116", after := #[], guard := none }) (v := ?_) rfl (by kernel_rfl) (by kernel_rfl) (by kernel_rfl) (fun _ _ _ h => h) (Or.inl ⟨by rfl, ?_⟩) (by assumption) ?_
    rotate_left
    · intro w hSw
      obtain ⟨q0, q1, q2, q3, q4, q5, q6, q7, q8, q9, q10, q11, q12, q13, q14, q15, q16, q17⟩ := hSw
      go_simp
      try with_reducible rfl
    simp only [Act.put, List.setIfInBounds_toArray, List.set_cons_zero, List.set_cons_succ]
    refine wpAnyH_take (i := 4) (oi := { dst := some 37, op := Go.Op.load 34 (Go.Operand.tmp 36), type := 34, pos := "law.go:116", after := #[{ on := 3, ground := Go.Ground.data }], guard := none }) (v := ?_) rfl (by kernel_rfl) (by kernel_rfl) (by kernel_rfl) (fun _ _ _ h => h) (Or.inl ⟨by rfl, ?_⟩) (by assumption) ?_
    rotate_left
    · intro w hSw
      obtain ⟨q0, q1, q2, q3, q4, q5, q6, q7, q8, q9, q10, q11, q12, q13, q14, q15, q16, q17⟩ := hSw
      go_simp
      try with_reducible rfl
    simp only [Act.put, List.setIfInBounds_toArray, List.set_cons_zero, List.set_cons_succ]
    refine by_key4 (fun va vc g9 g10 wz => Bk wz g9 [.bool false, .int .i64 0, .int .i64 0, .int .i64 0, .int .i64 0, .int .i64 0, .int .i64 0, .slice none 0 0] 78 ∧ Bk wz g10 [.int .i64 0, .int .i64 0, .int .i64 0, .int .i64 0, .int .i64 0, .int .i64 0, .int .i64 0, .int .i64 0, .int .u32 0, .string ⟨#[]⟩] 34 ∧ g9 ≠ g10 ∧ TxOwn wz wt.heap.size (.slice va tn vc) TP ∧ (Value.slice va tn vc).ownBlock ≠ some g9 ∧ (Value.slice va tn vc).ownBlock ≠ some g10 ∧ wt.heap.size ≤ g9 ∧ wt.heap.size ≤ g10 ∧ Below wt.heap.size wt wz) (fun (a : Act) (va : Option Addr) (vc g9 g10 : Nat) => (((((((a.put (some 35) (.agg #[.bool on, .int .i64 x1, .int .i64 x2, .int .i64 x3, .int .i64 x4, .int .i64 x5, .int .i64 x6, .slice pa pn pc])).put (some 38) (.tuple #[.agg #[.bool TB, .int .i64 s1, .int .i64 s2, .int .i64 s3, .int .i64 s4, .int .i64 s5, .int .i64 s6, .slice va tn vc], .agg #[.int .i64 n1, .int .i64 n2, .int .i64 n3, .int .i64 n4, .int .i64 n5, .int .i64 n6, .int .i64 n7, .int .i64 n8, .int .u32 n9, .string nd], KT])).put (some 32) (.tuple #[.agg #[.bool TB, .int .i64 s1, .int .i64 s2, .int .i64 s3, .int .i64 s4, .int .i64 s5, .int .i64 s6, .slice va tn vc], .agg #[.int .i64 n1, .int .i64 n2, .int .i64 n3, .int .i64 n4, .int .i64 n5, .int .i64 n6, .int .i64 n7, .int .i64 n8, .int .u32 n9, .string nd], KT])).put (some 39) (.agg #[.bool TB, .int .i64 s1, .int .i64 s2, .int .i64 s3, .int .i64 s4, .int .i64 s5, .int .i64 s6, .slice va tn vc])).put (some 40) (.agg #[.int .i64 n1, .int .i64 n2, .int .i64 n3, .int .i64 n4, .int .i64 n5, .int .i64 n6, .int .i64 n7, .int .i64 n8, .int .u32 n9, .string nd])).put (some 41) KT).put (some 9) (.pointer (some ⟨g9, 0, none⟩))).put (some 10) (.pointer (some ⟨g10, 0, none⟩))) #[true, true, true, true, true, true, true, true, true, true, true, true, false, false, false] 3 ?_ ?_
    · intro key0
      simp only [Act.put, List.setIfInBounds_toArray, List.set_cons_zero, List.set_cons_succ] at key0
      have KY := hide key0
      clear key0
      have HY : Hid (Below wt.heap.size wt wt.drew) := (Below.refl _ _).drew
      obtain ⟨wd, hwd⟩ : ∃ z, z = wt.drew := ⟨_, rfl⟩
      rw [← hwd] at HY ⊢
      clear hwd
      have SZi : Hid (wt.heap.size ≤ wd.heap.size) := HY.out.size
      refine wpAnyH_ready (rs := [2, 10, 11]) (by kernel_rfl) (by simp) ?_
      refine AllReadyH.cons (o := { dst := some 35, op := Go.Op.call { callee := Go.Callee.value (Go.Operand.func 30), args := #[Go.Operand.tmp 34], argTypes := #[31] }, type := 78, pos := "law.go:116", after := #[{ on := 1, ground := Go.Ground.data }], guard := none }) rfl (fun K hK => ?_) ?_
      · go_simp
        go_at_call 30
        with_reducible refine Calls.mono (HTR.out wd) ?_
        rintro e y0 ⟨rfl, D0⟩
        have SZ0 : Hid (wd.heap.size ≤ y0.heap.size) := D0.size
        replace HY := hide (chain HY.out D0)
        clear D0
        try dsimp only
        refine hK.out _ _ (HSB.out _ HY.out) (fun hHeld2 => ?_)
        clear hK K
        try simp only [Act.put, List.setIfInBounds_toArray, List.set_cons_zero, List.set_cons_succ]
        refine wpAnyH_ready (rs := [5, 10, 11]) (by kernel_rfl) (by simp) ?_
        refine AllReadyH.cons (o := { dst := some 38, op := Go.Op.call { callee := Go.Callee.value (Go.Operand.func 29), args := #[Go.Operand.tmp 35, Go.Operand.tmp 37], argTypes := #[78, 34] }, type := 79, pos := "law.go:116", after := #[{ on := 2, ground := Go.Ground.data }, { on := 4, ground := Go.Ground.data }, { on := 2, ground := Go.Ground.chain }], guard := none }) rfl (fun K hK => ?_) ?_
        · go_simp
          go_at_call 29
          with_reducible refine Calls.mono (HTK.out y0 (chain HD.out HY.out)) ?_
          rintro e y1 ⟨v, rfl, ow, D1⟩
          obtain ⟨va, vc, rfl, -⟩ := ow.rcs
          rw [HTN.out] at ow ⊢
          have SZ1 : Hid (y0.heap.size ≤ y1.heap.size) := D1.size
          have OL : Hid (∀ j, (Value.slice va tn vc).ownBlock = some j → y0.heap.size ≤ j ∧ j < y1.heap.size) := fun j e => World.ownsRow.lt ow j e
          have OW := hide ow
          replace HY := hide (chain HY.out D1)
          clear D1 ow
          try dsimp only
          refine hK.out _ _ (HSB.out _ HY.out) (fun hHeld2 => ?_)
          clear hK K
          try simp only [Act.put, List.setIfInBounds_toArray, List.set_cons_zero, List.set_cons_succ]
          refine wpAnyH_take (i := 6) (oi := { dst := some 32, op := Go.Op.move (Go.Operand.tmp 38), type := 79, pos := "law.go:116", after := #[{ on := 5, ground := Go.Ground.data }], guard := none }) (v := ?_) rfl (by kernel_rfl) (by kernel_rfl) (by kernel_rfl) (fun _ _ _ h => h) (Or.inl ⟨by rfl, ?_⟩) (by assumption) ?_
          rotate_left
          · intro w hSw
            obtain ⟨q0, q1, q2, q3, q4, q5, q6, q7, q8, q9, q10, q11, q12, q13, q14, q15, q16, q17⟩ := hSw
            go_simp
            try with_reducible rfl
          simp only [Act.put, List.setIfInBounds_toArray, List.set_cons_zero, List.set_cons_succ]
          refine wpAnyH_take (i := 7) (oi := { dst := some 39, op := Go.Op.extract (Go.Operand.tmp 32) 0, type := 78, pos := "law.go:116", after := #[{ on := 6, ground := Go.Ground.data }], guard := none }) (v := ?_) rfl (by kernel_rfl) (by kernel_rfl) (by kernel_rfl) (fun _ _ _ h => h) (Or.inl ⟨by rfl, ?_⟩) (by assumption) ?_
          rotate_left
          · intro w hSw
            obtain ⟨q0, q1, q2, q3, q4, q5, q6, q7, q8, q9, q10, q11, q12, q13, q14, q15, q16, q17⟩ := hSw
            go_simp
            try with_reducible rfl
          simp only [Act.put, List.setIfInBounds_toArray, List.set_cons_zero, List.set_cons_succ]
          refine wpAnyH_take (i := 8) (oi := { dst := some 40, op := Go.Op.extract (Go.Operand.tmp 32) 1, type := 34, pos := "law.go:116", after := #[{ on := 6, ground := Go.Ground.data }, { on := 12, ground := Go.Ground.gcOnly Go.Departure.lateStores }], guard := none }) (v := ?_) rfl (by kernel_rfl) (by kernel_rfl) (by kernel_rfl) (fun _ _ _ h => h) (Or.inl ⟨by rfl, ?_⟩) (by assumption) ?_
          rotate_left
          · intro w hSw
            obtain ⟨q0, q1, q2, q3, q4, q5, q6, q7, q8, q9, q10, q11, q12, q13, q14, q15, q16, q17⟩ := hSw
            go_simp
            try with_reducible rfl
          simp only [Act.put, List.setIfInBounds_toArray, List.set_cons_zero, List.set_cons_succ]
          refine wpAnyH_take (i := 9) (oi := { dst := some 41, op := Go.Op.extract (Go.Operand.tmp 32) 2, type := 52, pos := "law.go:116", after := #[{ on := 6, ground := Go.Ground.data }, { on := 13, ground := Go.Ground.gcOnly Go.Departure.lateStores }], guard := none }) (v := ?_) rfl (by kernel_rfl) (by kernel_rfl) (by kernel_rfl) (fun _ _ _ h => h) (Or.inl ⟨by rfl, ?_⟩) (by assumption) ?_
          rotate_left
          · intro w hSw
            obtain ⟨q0, q1, q2, q3, q4, q5, q6, q7, q8, q9, q10, q11, q12, q13, q14, q15, q16, q17⟩ := hSw
            go_simp
            try with_reducible rfl
          simp only [Act.put, List.setIfInBounds_toArray, List.set_cons_zero, List.set_cons_succ]
          refine wpAnyH_ready (rs := [10, 11]) (by kernel_rfl) (by simp) ?_
          refine AllReadyH.cons (o := { dst := some 9, op := Go.Op.alloc 78, type := 0, pos := "law.go:116", after := #[], guard := none }) rfl (fun K hK => ?_) ?_
          · go_simp
            refine hK.out _ _ (HSB.out _ (bel_al HY.out _)) (fun hHeld2 => ?_)
            clear hK K
            try simp only [Act.put, List.setIfInBounds_toArray, List.set_cons_zero, List.set_cons_succ]
            obtain ⟨y2, e2, m2, D2⟩ := box1 y1 [.bool false, .int .i64 0, .int .i64 0, .int .i64 0, .int .i64 0, .int .i64 0, .int .i64 0, .slice none 0 0] 78
            obtain ⟨g9, eg2⟩ : ∃ g, y1.heap.size = g := ⟨_, rfl⟩
            simp only [e2, eg2]
            rw [eg2] at m2
            have SZ2 : Hid (y1.heap.size = g9 ∧ g9 < y2.heap.size) := ⟨eg2, m2.lt⟩
            have BG9 := hide m2
            replace OW := hide (OW.out.below D2)
            replace HY := hide (chain HY.out D2)
            clear e2 eg2 m2 D2
            refine wpAnyH_ready (rs := [11]) (by kernel_rfl) (by simp) ?_
            refine AllReadyH.cons (o := { dst := some 10, op := Go.Op.alloc 34, type := 0, pos := "law.go:116", after := #[], guard := none }) rfl (fun K hK => ?_) ?_
            · go_simp
              refine hK.out _ _ (HSB.out _ (bel_al HY.out _)) (fun hHeld2 => ?_)
              clear hK K
              try simp only [Act.put, List.setIfInBounds_toArray, List.set_cons_zero, List.set_cons_succ]
              obtain ⟨y3, e3, m3, D3⟩ := box1 y2 [.int .i64 0, .int .i64 0, .int .i64 0, .int .i64 0, .int .i64 0, .int .i64 0, .int .i64 0, .int .i64 0, .int .u32 0, .string ⟨#[]⟩] 34
              obtain ⟨g10, eg3⟩ : ∃ g, y2.heap.size = g := ⟨_, rfl⟩
              simp only [e3, eg3]
              rw [eg3] at m3
              have SZ3 : Hid (y2.heap.size = g10 ∧ g10 < y3.heap.size) := ⟨eg3, m3.lt⟩
              have BG10 := hide m3
              replace OW := hide (OW.out.below D3)
              replace BG9 := hide (BG9.out.below D3)
              replace HY := hide (chain HY.out D3)
              clear e3 eg3 m3 D3
              refine wpAnyH_listed (show _ = #[true, true, true, true, true, true, true, true, true, true, true, true, false, false, false] by kernel_rfl) ?_
              have z0 := SZi.out
              have z1 := SZ0.out
              have z2 := SZ1.out
              have z3 := SZ2.out
              have z4 := SZ3.out
              have zl := OL.out
              have zy := HY.out.size
              exact KY.out va vc g9 g10 y3 ⟨BG9.out, BG10.out, by omega, OW.out.weaken (by omega), fun e => (by have := zl _ e; omega), fun e => (by have := zl _ e; omega), by omega, by omega, HY.out⟩
            exact AllReadyH.nil
          refine AllReadyH.cons (o := { dst := some 10, op := Go.Op.alloc 34, type := 0, pos := "law.go:116", after := #[], guard := none }) rfl (fun K hK => ?_) ?_
          · go_simp
            refine hK.out _ _ (HSB.out _ (bel_al HY.out _)) (fun hHeld2 => ?_)
            clear hK K
            try simp only [Act.put, List.setIfInBounds_toArray, List.set_cons_zero, List.set_cons_succ]
            obtain ⟨y2, e2, m2, D2⟩ := box1 y1 [.int .i64 0, .int .i64 0, .int .i64 0, .int .i64 0, .int .i64 0, .int .i64 0, .int .i64 0, .int .i64 0, .int .u32 0, .string ⟨#[]⟩] 34
            obtain ⟨g10, eg2⟩ : ∃ g, y1.heap.size = g := ⟨_, rfl⟩
            simp only [e2, eg2]
            rw [eg2] at m2
            have SZ2 : Hid (y1.heap.size = g10 ∧ g10 < y2.heap.size) := ⟨eg2, m2.lt⟩
            have BG10 := hide m2
            replace OW := hide (OW.out.below D2)
            replace HY := hide (chain HY.out D2)
            clear e2 eg2 m2 D2
            refine wpAnyH_ready (rs := [10]) (by kernel_rfl) (by simp) ?_
            refine AllReadyH.cons (o := { dst := some 9, op := Go.Op.alloc 78, type := 0, pos := "law.go:116", after := #[], guard := none }) rfl (fun K hK => ?_) ?_
            · go_simp
              refine hK.out _ _ (HSB.out _ (bel_al HY.out _)) (fun hHeld2 => ?_)
              clear hK K
              try simp only [Act.put, List.setIfInBounds_toArray, List.set_cons_zero, List.set_cons_succ]
              obtain ⟨y3, e3, m3, D3⟩ := box1 y2 [.bool false, .int .i64 0, .int .i64 0, .int .i64 0, .int .i64 0, .int .i64 0, .int .i64 0, .slice none 0 0] 78
              obtain ⟨g9, eg3⟩ : ∃ g, y2.heap.size = g := ⟨_, rfl⟩
              simp only [e3, eg3]
              rw [eg3] at m3
              have SZ3 : Hid (y2.heap.size = g9 ∧ g9 < y3.heap.size) := ⟨eg3, m3.lt⟩
              have BG9 := hide m3
              replace OW := hide (OW.out.below D3)
              replace BG10 := hide (BG10.out.below D3)
              replace HY := hide (chain HY.out D3)
              clear e3 eg3 m3 D3
              refine wpAnyH_listed (show _ = #[true, true, true, true, true, true, true, true, true, true, true, true, false, false, false] by kernel_rfl) ?_
              have z0 := SZi.out
              have z1 := SZ0.out
              have z2 := SZ1.out
              have z3 := SZ2.out
              have z4 := SZ3.out
              have zl := OL.out
              have zy := HY.out.size
              exact KY.out va vc g9 g10 y3 ⟨BG9.out, BG10.out, by omega, OW.out.weaken (by omega), fun e => (by have := zl _ e; omega), fun e => (by have := zl _ e; omega), by omega, by omega, HY.out⟩
            exact AllReadyH.nil
          exact AllReadyH.nil
        refine AllReadyH.cons (o := { dst := some 9, op := Go.Op.alloc 78, type := 0, pos := "law.go:116", after := #[], guard := none }) rfl (fun K hK => ?_) ?_
        · go_simp
          refine hK.out _ _ (HSB.out _ (bel_al HY.out _)) (fun hHeld2 => ?_)
          clear hK K
          try simp only [Act.put, List.setIfInBounds_toArray, List.set_cons_zero, List.set_cons_succ]
          obtain ⟨y1, e1, m1, D1⟩ := box1 y0 [.bool false, .int .i64 0, .int .i64 0, .int .i64 0, .int .i64 0, .int .i64 0, .int .i64 0, .slice none 0 0] 78
          obtain ⟨g9, eg1⟩ : ∃ g, y0.heap.size = g := ⟨_, rfl⟩
          simp only [e1, eg1]
          rw [eg1] at m1
          have SZ1 : Hid (y0.heap.size = g9 ∧ g9 < y1.heap.size) := ⟨eg1, m1.lt⟩
          have BG9 := hide m1
          replace HY := hide (chain HY.out D1)
          clear e1 eg1 m1 D1
          refine wpAnyH_ready (rs := [5, 11]) (by kernel_rfl) (by simp) ?_
          refine AllReadyH.cons (o := { dst := some 38, op := Go.Op.call { callee := Go.Callee.value (Go.Operand.func 29), args := #[Go.Operand.tmp 35, Go.Operand.tmp 37], argTypes := #[78, 34] }, type := 79, pos := "law.go:116", after := #[{ on := 2, ground := Go.Ground.data }, { on := 4, ground := Go.Ground.data }, { on := 2, ground := Go.Ground.chain }], guard := none }) rfl (fun K hK => ?_) ?_
          · go_simp
            go_at_call 29
            with_reducible refine Calls.mono (HTK.out y1 (chain HD.out HY.out)) ?_
            rintro e y2 ⟨v, rfl, ow, D2⟩
            obtain ⟨va, vc, rfl, -⟩ := ow.rcs
            rw [HTN.out] at ow ⊢
            have SZ2 : Hid (y1.heap.size ≤ y2.heap.size) := D2.size
            have OL : Hid (∀ j, (Value.slice va tn vc).ownBlock = some j → y1.heap.size ≤ j ∧ j < y2.heap.size) := fun j e => World.ownsRow.lt ow j e
            have OW := hide ow
            replace BG9 := hide (BG9.out.below D2)
            replace HY := hide (chain HY.out D2)
            clear D2 ow
            try dsimp only
            refine hK.out _ _ (HSB.out _ HY.out) (fun hHeld2 => ?_)
            clear hK K
            try simp only [Act.put, List.setIfInBounds_toArray, List.set_cons_zero, List.set_cons_succ]
            refine wpAnyH_take (i := 6) (oi := { dst := some 32, op := Go.Op.move (Go.Operand.tmp 38), type := 79, pos := "law.go:116", after := #[{ on := 5, ground := Go.Ground.data }], guard := none }) (v := ?_) rfl (by kernel_rfl) (by kernel_rfl) (by kernel_rfl) (fun _ _ _ h => h) (Or.inl ⟨by rfl, ?_⟩) (by assumption) ?_
            rotate_left
            · intro w hSw
              obtain ⟨q0, q1, q2, q3, q4, q5, q6, q7, q8, q9, q10, q11, q12, q13, q14, q15, q16, q17⟩ := hSw
              go_simp
              try with_reducible rfl
            simp only [Act.put, List.setIfInBounds_toArray, List.set_cons_zero, List.set_cons_succ]
            refine wpAnyH_take (i := 7) (oi := { dst := some 39, op := Go.Op.extract (Go.Operand.tmp 32) 0, type := 78, pos := "law.go:116", after := #[{ on := 6, ground := Go.Ground.data }], guard := none }) (v := ?_) rfl (by kernel_rfl) (by kernel_rfl) (by kernel_rfl) (fun _ _ _ h => h) (Or.inl ⟨by rfl, ?_⟩) (by assumption) ?_
            rotate_left
            · intro w hSw
              obtain ⟨q0, q1, q2, q3, q4, q5, q6, q7, q8, q9, q10, q11, q12, q13, q14, q15, q16, q17⟩ := hSw
              go_simp
              try with_reducible rfl
            simp only [Act.put, List.setIfInBounds_toArray, List.set_cons_zero, List.set_cons_succ]
            refine wpAnyH_take (i := 8) (oi := { dst := some 40, op := Go.Op.extract (Go.Operand.tmp 32) 1, type := 34, pos := "law.go:116", after := #[{ on := 6, ground := Go.Ground.data }, { on := 12, ground := Go.Ground.gcOnly Go.Departure.lateStores }], guard := none }) (v := ?_) rfl (by kernel_rfl) (by kernel_rfl) (by kernel_rfl) (fun _ _ _ h => h) (Or.inl ⟨by rfl, ?_⟩) (by assumption) ?_
            rotate_left
            · intro w hSw
              obtain ⟨q0, q1, q2, q3, q4, q5, q6, q7, q8, q9, q10, q11, q12, q13, q14, q15, q16, q17⟩ := hSw
              go_simp
              try with_reducible rfl
            simp only [Act.put, List.setIfInBounds_toArray, List.set_cons_zero, List.set_cons_succ]
            refine wpAnyH_take (i := 9) (oi := { dst := some 41, op := Go.Op.extract (Go.Operand.tmp 32) 2, type := 52, pos := "law.go:116", after := #[{ on := 6, ground := Go.Ground.data }, { on := 13, ground := Go.Ground.gcOnly Go.Departure.lateStores }], guard := none }) (v := ?_) rfl (by kernel_rfl) (by kernel_rfl) (by kernel_rfl) (fun _ _ _ h => h) (Or.inl ⟨by rfl, ?_⟩) (by assumption) ?_
            rotate_left
            · intro w hSw
              obtain ⟨q0, q1, q2, q3, q4, q5, q6, q7, q8, q9, q10, q11, q12, q13, q14, q15, q16, q17⟩ := hSw
              go_simp
              try with_reducible rfl
            simp only [Act.put, List.setIfInBounds_toArray, List.set_cons_zero, List.set_cons_succ]
            refine wpAnyH_ready (rs := [11]) (by kernel_rfl) (by simp) ?_
            refine AllReadyH.cons (o := { dst := some 10, op := Go.Op.alloc 34, type := 0, pos := "law.go:116", after := #[], guard := none }) rfl (fun K hK => ?_) ?_
            · go_simp
              refine hK.out _ _ (HSB.out _ (bel_al HY.out _)) (fun hHeld2 => ?_)
              clear hK K
              try simp only [Act.put, List.setIfInBounds_toArray, List.set_cons_zero, List.set_cons_succ]
              obtain ⟨y3, e3, m3, D3⟩ := box1 y2 [.int .i64 0, .int .i64 0, .int .i64 0, .int .i64 0, .int .i64 0, .int .i64 0, .int .i64 0, .int .i64 0, .int .u32 0, .string ⟨#[]⟩] 34
              obtain ⟨g10, eg3⟩ : ∃ g, y2.heap.size = g := ⟨_, rfl⟩
              simp only [e3, eg3]
              rw [eg3] at m3
              have SZ3 : Hid (y2.heap.size = g10 ∧ g10 < y3.heap.size) := ⟨eg3, m3.lt⟩
              have BG10 := hide m3
              replace BG9 := hide (BG9.out.below D3)
              replace OW := hide (OW.out.below D3)
              replace HY := hide (chain HY.out D3)
              clear e3 eg3 m3 D3
              refine wpAnyH_listed (show _ = #[true, true, true, true, true, true, true, true, true, true, true, true, false, false, false] by kernel_rfl) ?_
              have z0 := SZi.out
              have z1 := SZ0.out
              have z2 := SZ1.out
              have z3 := SZ2.out
              have z4 := SZ3.out
              have zl := OL.out
              have zy := HY.out.size
              exact KY.out va vc g9 g10 y3 ⟨BG9.out, BG10.out, by omega, OW.out.weaken (by omega), fun e => (by have := zl _ e; omega), fun e => (by have := zl _ e; omega), by omega, by omega, HY.out⟩
            exact AllReadyH.nil
          refine AllReadyH.cons (o := { dst := some 10, op := Go.Op.alloc 34, type := 0, pos := "law.go:116", after := #[], guard := none }) rfl (fun K hK => ?_) ?_
          · go_simp
            refine hK.out _ _ (HSB.out _ (bel_al HY.out _)) (fun hHeld2 => ?_)
            clear hK K
            try simp only [Act.put, List.setIfInBounds_toArray, List.set_cons_zero, List.set_cons_succ]
            obtain ⟨y2, e2, m2, D2⟩ := box1 y1 [.int .i64 0, .int .i64 0, .int .i64 0, .int .i64 0, .int .i64 0, .int .i64 0, .int .i64 0, .int .i64 0, .int .u32 0, .string ⟨#[]⟩] 34
            obtain ⟨g10, eg2⟩ : ∃ g, y1.heap.size = g := ⟨_, rfl⟩
            simp only [e2, eg2]
            rw [eg2] at m2
            have SZ2 : Hid (y1.heap.size = g10 ∧ g10 < y2.heap.size) := ⟨eg2, m2.lt⟩
            have BG10 := hide m2
            replace BG9 := hide (BG9.out.below D2)
            replace HY := hide (chain HY.out D2)
            clear e2 eg2 m2 D2
            refine wpAnyH_ready (rs := [5]) (by kernel_rfl) (by simp) ?_
            refine AllReadyH.cons (o := { dst := some 38, op := Go.Op.call { callee := Go.Callee.value (Go.Operand.func 29), args := #[Go.Operand.tmp 35, Go.Operand.tmp 37], argTypes := #[78, 34] }, type := 79, pos := "law.go:116", after := #[{ on := 2, ground := Go.Ground.data }, { on := 4, ground := Go.Ground.data }, { on := 2, ground := Go.Ground.chain }], guard := none }) rfl (fun K hK => ?_) ?_
            · go_simp
              go_at_call 29
              with_reducible refine Calls.mono (HTK.out y2 (chain HD.out HY.out)) ?_
              rintro e y3 ⟨v, rfl, ow, D3⟩
              obtain ⟨va, vc, rfl, -⟩ := ow.rcs
              rw [HTN.out] at ow ⊢
              have SZ3 : Hid (y2.heap.size ≤ y3.heap.size) := D3.size
              have OL : Hid (∀ j, (Value.slice va tn vc).ownBlock = some j → y2.heap.size ≤ j ∧ j < y3.heap.size) := fun j e => World.ownsRow.lt ow j e
              have OW := hide ow
              replace BG9 := hide (BG9.out.below D3)
              replace BG10 := hide (BG10.out.below D3)
              replace HY := hide (chain HY.out D3)
              clear D3 ow
              try dsimp only
              refine hK.out _ _ (HSB.out _ HY.out) (fun hHeld2 => ?_)
              clear hK K
              try simp only [Act.put, List.setIfInBounds_toArray, List.set_cons_zero, List.set_cons_succ]
              refine wpAnyH_take (i := 6) (oi := { dst := some 32, op := Go.Op.move (Go.Operand.tmp 38), type := 79, pos := "law.go:116", after := #[{ on := 5, ground := Go.Ground.data }], guard := none }) (v := ?_) rfl (by kernel_rfl) (by kernel_rfl) (by kernel_rfl) (fun _ _ _ h => h) (Or.inl ⟨by rfl, ?_⟩) (by assumption) ?_
              rotate_left
              · intro w hSw
                obtain ⟨q0, q1, q2, q3, q4, q5, q6, q7, q8, q9, q10, q11, q12, q13, q14, q15, q16, q17⟩ := hSw
                go_simp
                try with_reducible rfl
              simp only [Act.put, List.setIfInBounds_toArray, List.set_cons_zero, List.set_cons_succ]
              refine wpAnyH_take (i := 7) (oi := { dst := some 39, op := Go.Op.extract (Go.Operand.tmp 32) 0, type := 78, pos := "law.go:116", after := #[{ on := 6, ground := Go.Ground.data }], guard := none }) (v := ?_) rfl (by kernel_rfl) (by kernel_rfl) (by kernel_rfl) (fun _ _ _ h => h) (Or.inl ⟨by rfl, ?_⟩) (by assumption) ?_
              rotate_left
              · intro w hSw
                obtain ⟨q0, q1, q2, q3, q4, q5, q6, q7, q8, q9, q10, q11, q12, q13, q14, q15, q16, q17⟩ := hSw
                go_simp
                try with_reducible rfl
              simp only [Act.put, List.setIfInBounds_toArray, List.set_cons_zero, List.set_cons_succ]
              refine wpAnyH_take (i := 8) (oi := { dst := some 40, op := Go.Op.extract (Go.Operand.tmp 32) 1, type := 34, pos := "law.go:116", after := #[{ on := 6, ground := Go.Ground.data }, { on := 12, ground := Go.Ground.gcOnly Go.Departure.lateStores }], guard := none }) (v := ?_) rfl (by kernel_rfl) (by kernel_rfl) (by kernel_rfl) (fun _ _ _ h => h) (Or.inl ⟨by rfl, ?_⟩) (by assumption) ?_
              rotate_left
              · intro w hSw
                obtain ⟨q0, q1, q2, q3, q4, q5, q6, q7, q8, q9, q10, q11, q12, q13, q14, q15, q16, q17⟩ := hSw
                go_simp
                try with_reducible rfl
              simp only [Act.put, List.setIfInBounds_toArray, List.set_cons_zero, List.set_cons_succ]
              refine wpAnyH_take (i := 9) (oi := { dst := some 41, op := Go.Op.extract (Go.Operand.tmp 32) 2, type := 52, pos := "law.go:116", after := #[{ on := 6, ground := Go.Ground.data }, { on := 13, ground := Go.Ground.gcOnly Go.Departure.lateStores }], guard := none }) (v := ?_) rfl (by kernel_rfl) (by kernel_rfl) (by kernel_rfl) (fun _ _ _ h => h) (Or.inl ⟨by rfl, ?_⟩) (by assumption) ?_
              rotate_left
              · intro w hSw
                obtain ⟨q0, q1, q2, q3, q4, q5, q6, q7, q8, q9, q10, q11, q12, q13, q14, q15, q16, q17⟩ := hSw
                go_simp
                try with_reducible rfl
              simp only [Act.put, List.setIfInBounds_toArray, List.set_cons_zero, List.set_cons_succ]
              refine wpAnyH_listed (show _ = #[true, true, true, true, true, true, true, true, true, true, true, true, false, false, false] by kernel_rfl) ?_
              have z0 := SZi.out
              have z1 := SZ0.out
              have z2 := SZ1.out
              have z3 := SZ2.out
              have z4 := SZ3.out
              have zl := OL.out
              have zy := HY.out.size
              exact KY.out va vc g9 g10 y3 ⟨BG9.out, BG10.out, by omega, OW.out.weaken (by omega), fun e => (by have := zl _ e; omega), fun e => (by have := zl _ e; omega), by omega, by omega, HY.out⟩
            exact AllReadyH.nil
          exact AllReadyH.nil
        refine AllReadyH.cons (o := { dst := some 10, op := Go.Op.alloc 34, type := 0, pos := "law.go:116", after := #[], guard := none }) rfl (fun K hK => ?_) ?_
        · go_simp
          refine hK.out _ _ (HSB.out _ (bel_al HY.out _)) (fun hHeld2 => ?_)
          clear hK K
          try simp only [Act.put, List.setIfInBounds_toArray, List.set_cons_zero, List.set_cons_succ]
          obtain ⟨y1, e1, m1, D1⟩ := box1 y0 [.int .i64 0, .int .i64 0, .int .i64 0, .int .i64 0, .int .i64 0, .int .i64 0, .int .i64 0, .int .i64 0, .int .u32 0, .string ⟨#[]⟩] 34
          obtain ⟨g10, eg1⟩ : ∃ g, y0.heap.size = g := ⟨_, rfl⟩
          simp only [e1, eg1]
          rw [eg1] at m1
          have SZ1 : Hid (y0.heap.size = g10 ∧ g10 < y1.heap.size) := ⟨eg1, m1.lt⟩
          have BG10 := hide m1
          replace HY := hide (chain HY.out D1)
          clear e1 eg1 m1 D1
          refine wpAnyH_ready (rs := [5, 10]) (by kernel_rfl) (by simp) ?_
          refine AllReadyH.cons (o := { dst := some 38, op := Go.Op.call { callee := Go.Callee.value (Go.Operand.func 29), args := #[Go.Operand.tmp 35, Go.Operand.tmp 37], argTypes := #[78, 34] }, type := 79, pos := "law.go:116", after := #[{ on := 2, ground := Go.Ground.data }, { on := 4, ground := Go.Ground.data }, { on := 2, ground := Go.Ground.chain }], guard := none }) rfl (fun K hK => ?_) ?_
          · go_simp
            go_at_call 29
            with_reducible refine Calls.mono (HTK.out y1 (chain HD.out HY.out)) ?_
            rintro e y2 ⟨v, rfl, ow, D2⟩
            obtain ⟨va, vc, rfl, -⟩ := ow.rcs
            rw [HTN.out] at ow ⊢
            have SZ2 : Hid (y1.heap.size ≤ y2.heap.size) := D2.size
            have OL : Hid (∀ j, (Value.slice va tn vc).ownBlock = some j → y1.heap.size ≤ j ∧ j < y2.heap.size) := fun j e => World.ownsRow.lt ow j e
            have OW := hide ow
            replace BG10 := hide (BG10.out.below D2)
            replace HY := hide (chain HY.out D2)
            clear D2 ow
            try dsimp only
            refine hK.out _ _ (HSB.out _ HY.out) (fun hHeld2 => ?_)
            clear hK K
            try simp only [Act.put, List.setIfInBounds_toArray, List.set_cons_zero, List.set_cons_succ]
            refine wpAnyH_take (i := 6) (oi := { dst := some 32, op := Go.Op.move (Go.Operand.tmp 38), type := 79, pos := "law.go:116", after := #[{ on := 5, ground := Go.Ground.data }], guard := none }) (v := ?_) rfl (by kernel_rfl) (by kernel_rfl) (by kernel_rfl) (fun _ _ _ h => h) (Or.inl ⟨by rfl, ?_⟩) (by assumption) ?_
            rotate_left
            · intro w hSw
              obtain ⟨q0, q1, q2, q3, q4, q5, q6, q7, q8, q9, q10, q11, q12, q13, q14, q15, q16, q17⟩ := hSw
              go_simp
              try with_reducible rfl
            simp only [Act.put, List.setIfInBounds_toArray, List.set_cons_zero, List.set_cons_succ]
            refine wpAnyH_take (i := 7) (oi := { dst := some 39, op := Go.Op.extract (Go.Operand.tmp 32) 0, type := 78, pos := "law.go:116", after := #[{ on := 6, ground := Go.Ground.data }], guard := none }) (v := ?_) rfl (by kernel_rfl) (by kernel_rfl) (by kernel_rfl) (fun _ _ _ h => h) (Or.inl ⟨by rfl, ?_⟩) (by assumption) ?_
            rotate_left
            · intro w hSw
              obtain ⟨q0, q1, q2, q3, q4, q5, q6, q7, q8, q9, q10, q11, q12, q13, q14, q15, q16, q17⟩ := hSw
              go_simp
              try with_reducible rfl
            simp only [Act.put, List.setIfInBounds_toArray, List.set_cons_zero, List.set_cons_succ]
            refine wpAnyH_take (i := 8) (oi := { dst := some 40, op := Go.Op.extract (Go.Operand.tmp 32) 1, type := 34, pos := "law.go:116", after := #[{ on := 6, ground := Go.Ground.data }, { on := 12, ground := Go.Ground.gcOnly Go.Departure.lateStores }], guard := none }) (v := ?_) rfl (by kernel_rfl) (by kernel_rfl) (by kernel_rfl) (fun _ _ _ h => h) (Or.inl ⟨by rfl, ?_⟩) (by assumption) ?_
            rotate_left
            · intro w hSw
              obtain ⟨q0, q1, q2, q3, q4, q5, q6, q7, q8, q9, q10, q11, q12, q13, q14, q15, q16, q17⟩ := hSw
              go_simp
              try with_reducible rfl
            simp only [Act.put, List.setIfInBounds_toArray, List.set_cons_zero, List.set_cons_succ]
            refine wpAnyH_take (i := 9) (oi := { dst := some 41, op := Go.Op.extract (Go.Operand.tmp 32) 2, type := 52, pos := "law.go:116", after := #[{ on := 6, ground := Go.Ground.data }, { on := 13, ground := Go.Ground.gcOnly Go.Departure.lateStores }], guard := none }) (v := ?_) rfl (by kernel_rfl) (by kernel_rfl) (by kernel_rfl) (fun _ _ _ h => h) (Or.inl ⟨by rfl, ?_⟩) (by assumption) ?_
            rotate_left
            · intro w hSw
              obtain ⟨q0, q1, q2, q3, q4, q5, q6, q7, q8, q9, q10, q11, q12, q13, q14, q15, q16, q17⟩ := hSw
              go_simp
              try with_reducible rfl
            simp only [Act.put, List.setIfInBounds_toArray, List.set_cons_zero, List.set_cons_succ]
            refine wpAnyH_ready (rs := [10]) (by kernel_rfl) (by simp) ?_
            refine AllReadyH.cons (o := { dst := some 9, op := Go.Op.alloc 78, type := 0, pos := "law.go:116", after := #[], guard := none }) rfl (fun K hK => ?_) ?_
            · go_simp
              refine hK.out _ _ (HSB.out _ (bel_al HY.out _)) (fun hHeld2 => ?_)
              clear hK K
              try simp only [Act.put, List.setIfInBounds_toArray, List.set_cons_zero, List.set_cons_succ]
              obtain ⟨y3, e3, m3, D3⟩ := box1 y2 [.bool false, .int .i64 0, .int .i64 0, .int .i64 0, .int .i64 0, .int .i64 0, .int .i64 0, .slice none 0 0] 78
              obtain ⟨g9, eg3⟩ : ∃ g, y2.heap.size = g := ⟨_, rfl⟩
              simp only [e3, eg3]
              rw [eg3] at m3
              have SZ3 : Hid (y2.heap.size = g9 ∧ g9 < y3.heap.size) := ⟨eg3, m3.lt⟩
              have BG9 := hide m3
              replace BG10 := hide (BG10.out.below D3)
              replace OW := hide (OW.out.below D3)
              replace HY := hide (chain HY.out D3)
              clear e3 eg3 m3 D3
              refine wpAnyH_listed (show _ = #[true, true, true, true, true, true, true, true, true, true, true, true, false, false, false] by kernel_rfl) ?_
              have z0 := SZi.out
              have z1 := SZ0.out
              have z2 := SZ1.out
              have z3 := SZ2.out
              have z4 := SZ3.out
              have zl := OL.out
              have zy := HY.out.size
              exact KY.out va vc g9 g10 y3 ⟨BG9.out, BG10.out, by omega, OW.out.weaken (by omega), fun e => (by have := zl _ e; omega), fun e => (by have := zl _ e; omega), by omega, by omega, HY.out⟩
            exact AllReadyH.nil
          refine AllReadyH.cons (o := { dst := some 9, op := Go.Op.alloc 78, type := 0, pos := "law.go:116", after := #[], guard := none }) rfl (fun K hK => ?_) ?_
          · go_simp
            refine hK.out _ _ (HSB.out _ (bel_al HY.out _)) (fun hHeld2 => ?_)
            clear hK K
            try simp only [Act.put, List.setIfInBounds_toArray, List.set_cons_zero, List.set_cons_succ]
            obtain ⟨y2, e2, m2, D2⟩ := box1 y1 [.bool false, .int .i64 0, .int .i64 0, .int .i64 0, .int .i64 0, .int .i64 0, .int .i64 0, .slice none 0 0] 78
            obtain ⟨g9, eg2⟩ : ∃ g, y1.heap.size = g := ⟨_, rfl⟩
            simp only [e2, eg2]
            rw [eg2] at m2
            have SZ2 : Hid (y1.heap.size = g9 ∧ g9 < y2.heap.size) := ⟨eg2, m2.lt⟩
            have BG9 := hide m2
            replace BG10 := hide (BG10.out.below D2)
            replace HY := hide (chain HY.out D2)
            clear e2 eg2 m2 D2
            refine wpAnyH_ready (rs := [5]) (by kernel_rfl) (by simp) ?_
            refine AllReadyH.cons (o := { dst := some 38, op := Go.Op.call { callee := Go.Callee.value (Go.Operand.func 29), args := #[Go.Operand.tmp 35, Go.Operand.tmp 37], argTypes := #[78, 34] }, type := 79, pos := "law.go:116", after := #[{ on := 2, ground := Go.Ground.data }, { on := 4, ground := Go.Ground.data }, { on := 2, ground := Go.Ground.chain }], guard := none }) rfl (fun K hK => ?_) ?_
            · go_simp
              go_at_call 29
              with_reducible refine Calls.mono (HTK.out y2 (chain HD.out HY.out)) ?_
              rintro e y3 ⟨v, rfl, ow, D3⟩
              obtain ⟨va, vc, rfl, -⟩ := ow.rcs
              rw [HTN.out] at ow ⊢
              have SZ3 : Hid (y2.heap.size ≤ y3.heap.size) := D3.size
              have OL : Hid (∀ j, (Value.slice va tn vc).ownBlock = some j → y2.heap.size ≤ j ∧ j < y3.heap.size) := fun j e => World.ownsRow.lt ow j e
              have OW := hide ow
              replace BG10 := hide (BG10.out.below D3)
              replace BG9 := hide (BG9.out.below D3)
              replace HY := hide (chain HY.out D3)
              clear D3 ow
              try dsimp only
              refine hK.out _ _ (HSB.out _ HY.out) (fun hHeld2 => ?_)
              clear hK K
              try simp only [Act.put, List.setIfInBounds_toArray, List.set_cons_zero, List.set_cons_succ]
              refine wpAnyH_take (i := 6) (oi := { dst := some 32, op := Go.Op.move (Go.Operand.tmp 38), type := 79, pos := "law.go:116", after := #[{ on := 5, ground := Go.Ground.data }], guard := none }) (v := ?_) rfl (by kernel_rfl) (by kernel_rfl) (by kernel_rfl) (fun _ _ _ h => h) (Or.inl ⟨by rfl, ?_⟩) (by assumption) ?_
              rotate_left
              · intro w hSw
                obtain ⟨q0, q1, q2, q3, q4, q5, q6, q7, q8, q9, q10, q11, q12, q13, q14, q15, q16, q17⟩ := hSw
                go_simp
                try with_reducible rfl
              simp only [Act.put, List.setIfInBounds_toArray, List.set_cons_zero, List.set_cons_succ]
              refine wpAnyH_take (i := 7) (oi := { dst := some 39, op := Go.Op.extract (Go.Operand.tmp 32) 0, type := 78, pos := "law.go:116", after := #[{ on := 6, ground := Go.Ground.data }], guard := none }) (v := ?_) rfl (by kernel_rfl) (by kernel_rfl) (by kernel_rfl) (fun _ _ _ h => h) (Or.inl ⟨by rfl, ?_⟩) (by assumption) ?_
              rotate_left
              · intro w hSw
                obtain ⟨q0, q1, q2, q3, q4, q5, q6, q7, q8, q9, q10, q11, q12, q13, q14, q15, q16, q17⟩ := hSw
                go_simp
                try with_reducible rfl
              simp only [Act.put, List.setIfInBounds_toArray, List.set_cons_zero, List.set_cons_succ]
              refine wpAnyH_take (i := 8) (oi := { dst := some 40, op := Go.Op.extract (Go.Operand.tmp 32) 1, type := 34, pos := "law.go:116", after := #[{ on := 6, ground := Go.Ground.data }, { on := 12, ground := Go.Ground.gcOnly Go.Departure.lateStores }], guard := none }) (v := ?_) rfl (by kernel_rfl) (by kernel_rfl) (by kernel_rfl) (fun _ _ _ h => h) (Or.inl ⟨by rfl, ?_⟩) (by assumption) ?_
              rotate_left
              · intro w hSw
                obtain ⟨q0, q1, q2, q3, q4, q5, q6, q7, q8, q9, q10, q11, q12, q13, q14, q15, q16, q17⟩ := hSw
                go_simp
                try with_reducible rfl
              simp only [Act.put, List.setIfInBounds_toArray, List.set_cons_zero, List.set_cons_succ]
              refine wpAnyH_take (i := 9) (oi := { dst := some 41, op := Go.Op.extract (Go.Operand.tmp 32) 2, type := 52, pos := "law.go:116", after := #[{ on := 6, ground := Go.Ground.data }, { on := 13, ground := Go.Ground.gcOnly Go.Departure.lateStores }], guard := none }) (v := ?_) rfl (by kernel_rfl) (by kernel_rfl) (by kernel_rfl) (fun _ _ _ h => h) (Or.inl ⟨by rfl, ?_⟩) (by assumption) ?_
              rotate_left
              · intro w hSw
                obtain ⟨q0, q1, q2, q3, q4, q5, q6, q7, q8, q9, q10, q11, q12, q13, q14, q15, q16, q17⟩ := hSw
                go_simp
                try with_reducible rfl
              simp only [Act.put, List.setIfInBounds_toArray, List.set_cons_zero, List.set_cons_succ]
              refine wpAnyH_listed (show _ = #[true, true, true, true, true, true, true, true, true, true, true, true, false, false, false] by kernel_rfl) ?_
              have z0 := SZi.out
              have z1 := SZ0.out
              have z2 := SZ1.out
              have z3 := SZ2.out
              have z4 := SZ3.out
              have zl := OL.out
              have zy := HY.out.size
              exact KY.out va vc g9 g10 y3 ⟨BG9.out, BG10.out, by omega, OW.out.weaken (by omega), fun e => (by have := zl _ e; omega), fun e => (by have := zl _ e; omega), by omega, by omega, HY.out⟩
            exact AllReadyH.nil
          exact AllReadyH.nil
        exact AllReadyH.nil
      refine AllReadyH.cons (o := { dst := some 9, op := Go.Op.alloc 78, type := 0, pos := "law.go:116", after := #[], guard := none }) rfl (fun K hK => ?_) ?_
      · go_simp
        refine hK.out _ _ (HSB.out _ (bel_al HY.out _)) (fun hHeld2 => ?_)
        clear hK K
        try simp only [Act.put, List.setIfInBounds_toArray, List.set_cons_zero, List.set_cons_succ]
        obtain ⟨y0, e0, m0, D0⟩ := box1 wd [.bool false, .int .i64 0, .int .i64 0, .int .i64 0, .int .i64 0, .int .i64 0, .int .i64 0, .slice none 0 0] 78
        obtain ⟨g9, eg0⟩ : ∃ g, wd.heap.size = g := ⟨_, rfl⟩
        simp only [e0, eg0]
        rw [eg0] at m0
        have SZ0 : Hid (wd.heap.size = g9 ∧ g9 < y0.heap.size) := ⟨eg0, m0.lt⟩
        have BG9 := hide m0
        replace HY := hide (chain HY.out D0)
        clear e0 eg0 m0 D0
        refine wpAnyH_ready (rs := [2, 11]) (by kernel_rfl) (by simp) ?_
        refine AllReadyH.cons (o := { dst := some 35, op := Go.Op.call { callee := Go.Callee.value (Go.Operand.func 30), args := #[Go.Operand.tmp 34], argTypes := #[31] }, type := 78, pos := "law.go:116", after := #[{ on := 1, ground := Go.Ground.data }], guard := none }) rfl (fun K hK => ?_) ?_
        · go_simp
          go_at_call 30
          with_reducible refine Calls.mono (HTR.out y0) ?_
          rintro e y1 ⟨rfl, D1⟩
          have SZ1 : Hid (y0.heap.size ≤ y1.heap.size) := D1.size
          replace BG9 := hide (BG9.out.below D1)
          replace HY := hide (chain HY.out D1)
          clear D1
          try dsimp only
          refine hK.out _ _ (HSB.out _ HY.out) (fun hHeld2 => ?_)
          clear hK K
          try simp only [Act.put, List.setIfInBounds_toArray, List.set_cons_zero, List.set_cons_succ]
          refine wpAnyH_ready (rs := [5, 11]) (by kernel_rfl) (by simp) ?_
          refine AllReadyH.cons (o := { dst := some 38, op := Go.Op.call { callee := Go.Callee.value (Go.Operand.func 29), args := #[Go.Operand.tmp 35, Go.Operand.tmp 37], argTypes := #[78, 34] }, type := 79, pos := "law.go:116", after := #[{ on := 2, ground := Go.Ground.data }, { on := 4, ground := Go.Ground.data }, { on := 2, ground := Go.Ground.chain }], guard := none }) rfl (fun K hK => ?_) ?_
          · go_simp
            go_at_call 29
            with_reducible refine Calls.mono (HTK.out y1 (chain HD.out HY.out)) ?_
            rintro e y2 ⟨v, rfl, ow, D2⟩
            obtain ⟨va, vc, rfl, -⟩ := ow.rcs
            rw [HTN.out] at ow ⊢
            have SZ2 : Hid (y1.heap.size ≤ y2.heap.size) := D2.size
            have OL : Hid (∀ j, (Value.slice va tn vc).ownBlock = some j → y1.heap.size ≤ j ∧ j < y2.heap.size) := fun j e => World.ownsRow.lt ow j e
            have OW := hide ow
            replace BG9 := hide (BG9.out.below D2)
            replace HY := hide (chain HY.out D2)
            clear D2 ow
            try dsimp only
            refine hK.out _ _ (HSB.out _ HY.out) (fun hHeld2 => ?_)
            clear hK K
            try simp only [Act.put, List.setIfInBounds_toArray, List.set_cons_zero, List.set_cons_succ]
            refine wpAnyH_take (i := 6) (oi := { dst := some 32, op := Go.Op.move (Go.Operand.tmp 38), type := 79, pos := "law.go:116", after := #[{ on := 5, ground := Go.Ground.data }], guard := none }) (v := ?_) rfl (by kernel_rfl) (by kernel_rfl) (by kernel_rfl) (fun _ _ _ h => h) (Or.inl ⟨by rfl, ?_⟩) (by assumption) ?_
            rotate_left
            · intro w hSw
              obtain ⟨q0, q1, q2, q3, q4, q5, q6, q7, q8, q9, q10, q11, q12, q13, q14, q15, q16, q17⟩ := hSw
              go_simp
              try with_reducible rfl
            simp only [Act.put, List.setIfInBounds_toArray, List.set_cons_zero, List.set_cons_succ]
            refine wpAnyH_take (i := 7) (oi := { dst := some 39, op := Go.Op.extract (Go.Operand.tmp 32) 0, type := 78, pos := "law.go:116", after := #[{ on := 6, ground := Go.Ground.data }], guard := none }) (v := ?_) rfl (by kernel_rfl) (by kernel_rfl) (by kernel_rfl) (fun _ _ _ h => h) (Or.inl ⟨by rfl, ?_⟩) (by assumption) ?_
            rotate_left
            · intro w hSw
              obtain ⟨q0, q1, q2, q3, q4, q5, q6, q7, q8, q9, q10, q11, q12, q13, q14, q15, q16, q17⟩ := hSw
              go_simp
              try with_reducible rfl
            simp only [Act.put, List.setIfInBounds_toArray, List.set_cons_zero, List.set_cons_succ]
            refine wpAnyH_take (i := 8) (oi := { dst := some 40, op := Go.Op.extract (Go.Operand.tmp 32) 1, type := 34, pos := "law.go:116", after := #[{ on := 6, ground := Go.Ground.data }, { on := 12, ground := Go.Ground.gcOnly Go.Departure.lateStores }], guard := none }) (v := ?_) rfl (by kernel_rfl) (by kernel_rfl) (by kernel_rfl) (fun _ _ _ h => h) (Or.inl ⟨by rfl, ?_⟩) (by assumption) ?_
            rotate_left
            · intro w hSw
              obtain ⟨q0, q1, q2, q3, q4, q5, q6, q7, q8, q9, q10, q11, q12, q13, q14, q15, q16, q17⟩ := hSw
              go_simp
              try with_reducible rfl
            simp only [Act.put, List.setIfInBounds_toArray, List.set_cons_zero, List.set_cons_succ]
            refine wpAnyH_take (i := 9) (oi := { dst := some 41, op := Go.Op.extract (Go.Operand.tmp 32) 2, type := 52, pos := "law.go:116", after := #[{ on := 6, ground := Go.Ground.data }, { on := 13, ground := Go.Ground.gcOnly Go.Departure.lateStores }], guard := none }) (v := ?_) rfl (by kernel_rfl) (by kernel_rfl) (by kernel_rfl) (fun _ _ _ h => h) (Or.inl ⟨by rfl, ?_⟩) (by assumption) ?_
            rotate_left
            · intro w hSw
              obtain ⟨q0, q1, q2, q3, q4, q5, q6, q7, q8, q9, q10, q11, q12, q13, q14, q15, q16, q17⟩ := hSw
              go_simp
              try with_reducible rfl
            simp only [Act.put, List.setIfInBounds_toArray, List.set_cons_zero, List.set_cons_succ]
            refine wpAnyH_ready (rs := [11]) (by kernel_rfl) (by simp) ?_
            refine AllReadyH.cons (o := { dst := some 10, op := Go.Op.alloc 34, type := 0, pos := "law.go:116", after := #[], guard := none }) rfl (fun K hK => ?_) ?_
            · go_simp
              refine hK.out _ _ (HSB.out _ (bel_al HY.out _)) (fun hHeld2 => ?_)
              clear hK K
              try simp only [Act.put, List.setIfInBounds_toArray, List.set_cons_zero, List.set_cons_succ]
              obtain ⟨y3, e3, m3, D3⟩ := box1 y2 [.int .i64 0, .int .i64 0, .int .i64 0, .int .i64 0, .int .i64 0, .int .i64 0, .int .i64 0, .int .i64 0, .int .u32 0, .string ⟨#[]⟩] 34
              obtain ⟨g10, eg3⟩ : ∃ g, y2.heap.size = g := ⟨_, rfl⟩
              simp only [e3, eg3]
              rw [eg3] at m3
              have SZ3 : Hid (y2.heap.size = g10 ∧ g10 < y3.heap.size) := ⟨eg3, m3.lt⟩
              have BG10 := hide m3
              replace BG9 := hide (BG9.out.below D3)
              replace OW := hide (OW.out.below D3)
              replace HY := hide (chain HY.out D3)
              clear e3 eg3 m3 D3
              refine wpAnyH_listed (show _ = #[true, true, true, true, true, true, true, true, true, true, true, true, false, false, false] by kernel_rfl) ?_
              have z0 := SZi.out
              have z1 := SZ0.out
              have z2 := SZ1.out
              have z3 := SZ2.out
              have z4 := SZ3.out
              have zl := OL.out
              have zy := HY.out.size
              exact KY.out va vc g9 g10 y3 ⟨BG9.out, BG10.out, by omega, OW.out.weaken (by omega), fun e => (by have := zl _ e; omega), fun e => (by have := zl _ e; omega), by omega, by omega, HY.out⟩
            exact AllReadyH.nil
          refine AllReadyH.cons (o := { dst := some 10, op := Go.Op.alloc 34, type := 0, pos := "law.go:116", after := #[], guard := none }) rfl (fun K hK => ?_) ?_
          · go_simp
            refine hK.out _ _ (HSB.out _ (bel_al HY.out _)) (fun hHeld2 => ?_)
            clear hK K
            try simp only [Act.put, List.setIfInBounds_toArray, List.set_cons_zero, List.set_cons_succ]
            obtain ⟨y2, e2, m2, D2⟩ := box1 y1 [.int .i64 0, .int .i64 0, .int .i64 0, .int .i64 0, .int .i64 0, .int .i64 0, .int .i64 0, .int .i64 0, .int .u32 0, .string ⟨#[]⟩] 34
            obtain ⟨g10, eg2⟩ : ∃ g, y1.heap.size = g := ⟨_, rfl⟩
            simp only [e2, eg2]
            rw [eg2] at m2
            have SZ2 : Hid (y1.heap.size = g10 ∧ g10 < y2.heap.size) := ⟨eg2, m2.lt⟩
            have BG10 := hide m2
            replace BG9 := hide (BG9.out.below D2)
            replace HY := hide (chain HY.out D2)
            clear e2 eg2 m2 D2
            refine wpAnyH_ready (rs := [5]) (by kernel_rfl) (by simp) ?_
            refine AllReadyH.cons (o := { dst := some 38, op := Go.Op.call { callee := Go.Callee.value (Go.Operand.func 29), args := #[Go.Operand.tmp 35, Go.Operand.tmp 37], argTypes := #[78, 34] }, type := 79, pos := "law.go:116", after := #[{ on := 2, ground := Go.Ground.data }, { on := 4, ground := Go.Ground.data }, { on := 2, ground := Go.Ground.chain }], guard := none }) rfl (fun K hK => ?_) ?_
            · go_simp
              go_at_call 29
              with_reducible refine Calls.mono (HTK.out y2 (chain HD.out HY.out)) ?_
              rintro e y3 ⟨v, rfl, ow, D3⟩
              obtain ⟨va, vc, rfl, -⟩ := ow.rcs
              rw [HTN.out] at ow ⊢
              have SZ3 : Hid (y2.heap.size ≤ y3.heap.size) := D3.size
              have OL : Hid (∀ j, (Value.slice va tn vc).ownBlock = some j → y2.heap.size ≤ j ∧ j < y3.heap.size) := fun j e => World.ownsRow.lt ow j e
              have OW := hide ow
              replace BG9 := hide (BG9.out.below D3)
              replace BG10 := hide (BG10.out.below D3)
              replace HY := hide (chain HY.out D3)
              clear D3 ow
              try dsimp only
              refine hK.out _ _ (HSB.out _ HY.out) (fun hHeld2 => ?_)
              clear hK K
              try simp only [Act.put, List.setIfInBounds_toArray, List.set_cons_zero, List.set_cons_succ]
              refine wpAnyH_take (i := 6) (oi := { dst := some 32, op := Go.Op.move (Go.Operand.tmp 38), type := 79, pos := "law.go:116", after := #[{ on := 5, ground := Go.Ground.data }], guard := none }) (v := ?_) rfl (by kernel_rfl) (by kernel_rfl) (by kernel_rfl) (fun _ _ _ h => h) (Or.inl ⟨by rfl, ?_⟩) (by assumption) ?_
              rotate_left
              · intro w hSw
                obtain ⟨q0, q1, q2, q3, q4, q5, q6, q7, q8, q9, q10, q11, q12, q13, q14, q15, q16, q17⟩ := hSw
                go_simp
                try with_reducible rfl
              simp only [Act.put, List.setIfInBounds_toArray, List.set_cons_zero, List.set_cons_succ]
              refine wpAnyH_take (i := 7) (oi := { dst := some 39, op := Go.Op.extract (Go.Operand.tmp 32) 0, type := 78, pos := "law.go:116", after := #[{ on := 6, ground := Go.Ground.data }], guard := none }) (v := ?_) rfl (by kernel_rfl) (by kernel_rfl) (by kernel_rfl) (fun _ _ _ h => h) (Or.inl ⟨by rfl, ?_⟩) (by assumption) ?_
              rotate_left
              · intro w hSw
                obtain ⟨q0, q1, q2, q3, q4, q5, q6, q7, q8, q9, q10, q11, q12, q13, q14, q15, q16, q17⟩ := hSw
                go_simp
                try with_reducible rfl
              simp only [Act.put, List.setIfInBounds_toArray, List.set_cons_zero, List.set_cons_succ]
              refine wpAnyH_take (i := 8) (oi := { dst := some 40, op := Go.Op.extract (Go.Operand.tmp 32) 1, type := 34, pos := "law.go:116", after := #[{ on := 6, ground := Go.Ground.data }, { on := 12, ground := Go.Ground.gcOnly Go.Departure.lateStores }], guard := none }) (v := ?_) rfl (by kernel_rfl) (by kernel_rfl) (by kernel_rfl) (fun _ _ _ h => h) (Or.inl ⟨by rfl, ?_⟩) (by assumption) ?_
              rotate_left
              · intro w hSw
                obtain ⟨q0, q1, q2, q3, q4, q5, q6, q7, q8, q9, q10, q11, q12, q13, q14, q15, q16, q17⟩ := hSw
                go_simp
                try with_reducible rfl
              simp only [Act.put, List.setIfInBounds_toArray, List.set_cons_zero, List.set_cons_succ]
              refine wpAnyH_take (i := 9) (oi := { dst := some 41, op := Go.Op.extract (Go.Operand.tmp 32) 2, type := 52, pos := "law.go:116", after := #[{ on := 6, ground := Go.Ground.data }, { on := 13, ground := Go.Ground.gcOnly Go.Departure.lateStores }], guard := none }) (v := ?_) rfl (by kernel_rfl) (by kernel_rfl) (by kernel_rfl) (fun _ _ _ h => h) (Or.inl ⟨by rfl, ?_⟩) (by assumption) ?_
              rotate_left
              · intro w hSw
                obtain ⟨q0, q1, q2, q3, q4, q5, q6, q7, q8, q9, q10, q11, q12, q13, q14, q15, q16, q17⟩ := hSw
                go_simp
                try with_reducible rfl
              simp only [Act.put, List.setIfInBounds_toArray, List.set_cons_zero, List.set_cons_succ]
              refine wpAnyH_listed (show _ = #[true, true, true, true, true, true, true, true, true, true, true, true, false, false, false] by kernel_rfl) ?_
              have z0 := SZi.out
              have z1 := SZ0.out
              have z2 := SZ1.out
              have z3 := SZ2.out
              have z4 := SZ3.out
              have zl := OL.out
              have zy := HY.out.size
              exact KY.out va vc g9 g10 y3 ⟨BG9.out, BG10.out, by omega, OW.out.weaken (by omega), fun e => (by have := zl _ e; omega), fun e => (by have := zl _ e; omega), by omega, by omega, HY.out⟩
            exact AllReadyH.nil
          exact AllReadyH.nil
        refine AllReadyH.cons (o := { dst := some 10, op := Go.Op.alloc 34, type := 0, pos := "law.go:116", after := #[], guard := none }) rfl (fun K hK => ?_) ?_
        · go_simp
          refine hK.out _ _ (HSB.out _ (bel_al HY.out _)) (fun hHeld2 => ?_)
          clear hK K
          try simp only [Act.put, List.setIfInBounds_toArray, List.set_cons_zero, List.set_cons_succ]
          obtain ⟨y1, e1, m1, D1⟩ := box1 y0 [.int .i64 0, .int .i64 0, .int .i64 0, .int .i64 0, .int .i64 0, .int .i64 0, .int .i64 0, .int .i64 0, .int .u32 0, .string ⟨#[]⟩] 34
          obtain ⟨g10, eg1⟩ : ∃ g, y0.heap.size = g := ⟨_, rfl⟩
          simp only [e1, eg1]
          rw [eg1] at m1
          have SZ1 : Hid (y0.heap.size = g10 ∧ g10 < y1.heap.size) := ⟨eg1, m1.lt⟩
          have BG10 := hide m1
          replace BG9 := hide (BG9.out.below D1)
          replace HY := hide (chain HY.out D1)
          clear e1 eg1 m1 D1
          refine wpAnyH_ready (rs := [2]) (by kernel_rfl) (by simp) ?_
          refine AllReadyH.cons (o := { dst := some 35, op := Go.Op.call { callee := Go.Callee.value (Go.Operand.func 30), args := #[Go.Operand.tmp 34], argTypes := #[31] }, type := 78, pos := "law.go:116", after := #[{ on := 1, ground := Go.Ground.data }], guard := none }) rfl (fun K hK => ?_) ?_
          · go_simp
            go_at_call 30
            with_reducible refine Calls.mono (HTR.out y1) ?_
            rintro e y2 ⟨rfl, D2⟩
            have SZ2 : Hid (y1.heap.size ≤ y2.heap.size) := D2.size
            replace BG9 := hide (BG9.out.below D2)
            replace BG10 := hide (BG10.out.below D2)
            replace HY := hide (chain HY.out D2)
            clear D2
            try dsimp only
            refine hK.out _ _ (HSB.out _ HY.out) (fun hHeld2 => ?_)
            clear hK K
            try simp only [Act.put, List.setIfInBounds_toArray, List.set_cons_zero, List.set_cons_succ]
            refine wpAnyH_ready (rs := [5]) (by kernel_rfl) (by simp) ?_
            refine AllReadyH.cons (o := { dst := some 38, op := Go.Op.call { callee := Go.Callee.value (Go.Operand.func 29), args := #[Go.Operand.tmp 35, Go.Operand.tmp 37], argTypes := #[78, 34] }, type := 79, pos := "law.go:116", after := #[{ on := 2, ground := Go.Ground.data }, { on := 4, ground := Go.Ground.data }, { on := 2, ground := Go.Ground.chain }], guard := none }) rfl (fun K hK => ?_) ?_
            · go_simp
              go_at_call 29
              with_reducible refine Calls.mono (HTK.out y2 (chain HD.out HY.out)) ?_
              rintro e y3 ⟨v, rfl, ow, D3⟩
              obtain ⟨va, vc, rfl, -⟩ := ow.rcs
              rw [HTN.out] at ow ⊢
              have SZ3 : Hid (y2.heap.size ≤ y3.heap.size) := D3.size
              have OL : Hid (∀ j, (Value.slice va tn vc).ownBlock = some j → y2.heap.size ≤ j ∧ j < y3.heap.size) := fun j e => World.ownsRow.lt ow j e
              have OW := hide ow
              replace BG9 := hide (BG9.out.below D3)
              replace BG10 := hide (BG10.out.below D3)
              replace HY := hide (chain HY.out D3)
              clear D3 ow
              try dsimp only
              refine hK.out _ _ (HSB.out _ HY.out) (fun hHeld2 => ?_)
              clear hK K
              try simp only [Act.put, List.setIfInBounds_toArray, List.set_cons_zero, List.set_cons_succ]
              refine wpAnyH_take (i := 6) (oi := { dst := some 32, op := Go.Op.move (Go.Operand.tmp 38), type := 79, pos := "law.go:116", after := #[{ on := 5, ground := Go.Ground.data }], guard := none }) (v := ?_) rfl (by kernel_rfl) (by kernel_rfl) (by kernel_rfl) (fun _ _ _ h => h) (Or.inl ⟨by rfl, ?_⟩) (by assumption) ?_
              rotate_left
              · intro w hSw
                obtain ⟨q0, q1, q2, q3, q4, q5, q6, q7, q8, q9, q10, q11, q12, q13, q14, q15, q16, q17⟩ := hSw
                go_simp
                try with_reducible rfl
              simp only [Act.put, List.setIfInBounds_toArray, List.set_cons_zero, List.set_cons_succ]
              refine wpAnyH_take (i := 7) (oi := { dst := some 39, op := Go.Op.extract (Go.Operand.tmp 32) 0, type := 78, pos := "law.go:116", after := #[{ on := 6, ground := Go.Ground.data }], guard := none }) (v := ?_) rfl (by kernel_rfl) (by kernel_rfl) (by kernel_rfl) (fun _ _ _ h => h) (Or.inl ⟨by rfl, ?_⟩) (by assumption) ?_
              rotate_left
              · intro w hSw
                obtain ⟨q0, q1, q2, q3, q4, q5, q6, q7, q8, q9, q10, q11, q12, q13, q14, q15, q16, q17⟩ := hSw
                go_simp
                try with_reducible rfl
              simp only [Act.put, List.setIfInBounds_toArray, List.set_cons_zero, List.set_cons_succ]
              refine wpAnyH_take (i := 8) (oi := { dst := some 40, op := Go.Op.extract (Go.Operand.tmp 32) 1, type := 34, pos := "law.go:116", after := #[{ on := 6, ground := Go.Ground.data }, { on := 12, ground := Go.Ground.gcOnly Go.Departure.lateStores }], guard := none }) (v := ?_) rfl (by kernel_rfl) (by kernel_rfl) (by kernel_rfl) (fun _ _ _ h => h) (Or.inl ⟨by rfl, ?_⟩) (by assumption) ?_
              rotate_left
              · intro w hSw
                obtain ⟨q0, q1, q2, q3, q4, q5, q6, q7, q8, q9, q10, q11, q12, q13, q14, q15, q16, q17⟩ := hSw
                go_simp
                try with_reducible rfl
              simp only [Act.put, List.setIfInBounds_toArray, List.set_cons_zero, List.set_cons_succ]
              refine wpAnyH_take (i := 9) (oi := { dst := some 41, op := Go.Op.extract (Go.Operand.tmp 32) 2, type := 52, pos := "law.go:116", after := #[{ on := 6, ground := Go.Ground.data }, { on := 13, ground := Go.Ground.gcOnly Go.Departure.lateStores }], guard := none }) (v := ?_) rfl (by kernel_rfl) (by kernel_rfl) (by kernel_rfl) (fun _ _ _ h => h) (Or.inl ⟨by rfl, ?_⟩) (by assumption) ?_
              rotate_left
              · intro w hSw
                obtain ⟨q0, q1, q2, q3, q4, q5, q6, q7, q8, q9, q10, q11, q12, q13, q14, q15, q16, q17⟩ := hSw
                go_simp
                try with_reducible rfl
              simp only [Act.put, List.setIfInBounds_toArray, List.set_cons_zero, List.set_cons_succ]
              refine wpAnyH_listed (show _ = #[true, true, true, true, true, true, true, true, true, true, true, true, false, false, false] by kernel_rfl) ?_
              have z0 := SZi.out
              have z1 := SZ0.out
              have z2 := SZ1.out
              have z3 := SZ2.out
              have z4 := SZ3.out
              have zl := OL.out
              have zy := HY.out.size
              exact KY.out va vc g9 g10 y3 ⟨BG9.out, BG10.out, by omega, OW.out.weaken (by omega), fun e => (by have := zl _ e; omega), fun e => (by have := zl _ e; omega), by omega, by omega, HY.out⟩
            exact AllReadyH.nil
          exact AllReadyH.nil
        exact AllReadyH.nil
      refine AllReadyH.cons (o := { dst := some 10, op := Go.Op.alloc 34, type := 0, pos := "law.go:116", after := #[], guard := none }) rfl (fun K hK => ?_) ?_
      · go_simp
        refine hK.out _ _ (HSB.out _ (bel_al HY.out _)) (fun hHeld2 => ?_)
        clear hK K
        try simp only [Act.put, List.setIfInBounds_toArray, List.set_cons_zero, List.set_cons_succ]
        obtain ⟨y0, e0, m0, D0⟩ := box1 wd [.int .i64 0, .int .i64 0, .int .i64 0, .int .i64 0, .int .i64 0, .int .i64 0, .int .i64 0, .int .i64 0, .int .u32 0, .string ⟨#[]⟩] 34
        obtain ⟨g10, eg0⟩ : ∃ g, wd.heap.size = g := ⟨_, rfl⟩
        simp only [e0, eg0]
        rw [eg0] at m0
        have SZ0 : Hid (wd.heap.size = g10 ∧ g10 < y0.heap.size) := ⟨eg0, m0.lt⟩
        have BG10 := hide m0
        replace HY := hide (chain HY.out D0)
        clear e0 eg0 m0 D0
        refine wpAnyH_ready (rs := [2, 10]) (by kernel_rfl) (by simp) ?_
        refine AllReadyH.cons (o := { dst := some 35, op := Go.Op.call { callee := Go.Callee.value (Go.Operand.func 30), args := #[Go.Operand.tmp 34], argTypes := #[31] }, type := 78, pos := "law.go:116", after := #[{ on := 1, ground := Go.Ground.data }], guard := none }) rfl (fun K hK => ?_) ?_
        · go_simp
          go_at_call 30
          with_reducible refine Calls.mono (HTR.out y0) ?_
          rintro e y1 ⟨rfl, D1⟩
          have SZ1 : Hid (y0.heap.size ≤ y1.heap.size) := D1.size
          replace BG10 := hide (BG10.out.below D1)
          replace HY := hide (chain HY.out D1)
          clear D1
          try dsimp only
          refine hK.out _ _ (HSB.out _ HY.out) (fun hHeld2 => ?_)
          clear hK K
          try simp only [Act.put, List.setIfInBounds_toArray, List.set_cons_zero, List.set_cons_succ]
          refine wpAnyH_ready (rs := [5, 10]) (by kernel_rfl) (by simp) ?_
          refine AllReadyH.cons (o := { dst := some 38, op := Go.Op.call { callee := Go.Callee.value (Go.Operand.func 29), args := #[Go.Operand.tmp 35, Go.Operand.tmp 37], argTypes := #[78, 34] }, type := 79, pos := "law.go:116", after := #[{ on := 2, ground := Go.Ground.data }, { on := 4, ground := Go.Ground.data }, { on := 2, ground := Go.Ground.chain }], guard := none }) rfl (fun K hK => ?_) ?_
          · go_simp
            go_at_call 29
            with_reducible refine Calls.mono (HTK.out y1 (chain HD.out HY.out)) ?_
            rintro e y2 ⟨v, rfl, ow, D2⟩
            obtain ⟨va, vc, rfl, -⟩ := ow.rcs
            rw [HTN.out] at ow ⊢
            have SZ2 : Hid (y1.heap.size ≤ y2.heap.size) := D2.size
            have OL : Hid (∀ j, (Value.slice va tn vc).ownBlock = some j → y1.heap.size ≤ j ∧ j < y2.heap.size) := fun j e => World.ownsRow.lt ow j e
            have OW := hide ow
            replace BG10 := hide (BG10.out.below D2)
            replace HY := hide (chain HY.out D2)
            clear D2 ow
            try dsimp only
            refine hK.out _ _ (HSB.out _ HY.out) (fun hHeld2 => ?_)
            clear hK K
            try simp only [Act.put, List.setIfInBounds_toArray, List.set_cons_zero, List.set_cons_succ]
            refine wpAnyH_take (i := 6) (oi := { dst := some 32, op := Go.Op.move (Go.Operand.tmp 38), type := 79, pos := "law.go:116", after := #[{ on := 5, ground := Go.Ground.data }], guard := none }) (v := ?_) rfl (by kernel_rfl) (by kernel_rfl) (by kernel_rfl) (fun _ _ _ h => h) (Or.inl ⟨by rfl, ?_⟩) (by assumption) ?_
            rotate_left
            · intro w hSw
              obtain ⟨q0, q1, q2, q3, q4, q5, q6, q7, q8, q9, q10, q11, q12, q13, q14, q15, q16, q17⟩ := hSw
              go_simp
              try with_reducible rfl
            simp only [Act.put, List.setIfInBounds_toArray, List.set_cons_zero, List.set_cons_succ]
            refine wpAnyH_take (i := 7) (oi := { dst := some 39, op := Go.Op.extract (Go.Operand.tmp 32) 0, type := 78, pos := "law.go:116", after := #[{ on := 6, ground := Go.Ground.data }], guard := none }) (v := ?_) rfl (by kernel_rfl) (by kernel_rfl) (by kernel_rfl) (fun _ _ _ h => h) (Or.inl ⟨by rfl, ?_⟩) (by assumption) ?_
            rotate_left
            · intro w hSw
              obtain ⟨q0, q1, q2, q3, q4, q5, q6, q7, q8, q9, q10, q11, q12, q13, q14, q15, q16, q17⟩ := hSw
              go_simp
              try with_reducible rfl
            simp only [Act.put, List.setIfInBounds_toArray, List.set_cons_zero, List.set_cons_succ]
            refine wpAnyH_take (i := 8) (oi := { dst := some 40, op := Go.Op.extract (Go.Operand.tmp 32) 1, type := 34, pos := "law.go:116", after := #[{ on := 6, ground := Go.Ground.data }, { on := 12, ground := Go.Ground.gcOnly Go.Departure.lateStores }], guard := none }) (v := ?_) rfl (by kernel_rfl) (by kernel_rfl) (by kernel_rfl) (fun _ _ _ h => h) (Or.inl ⟨by rfl, ?_⟩) (by assumption) ?_
            rotate_left
            · intro w hSw
              obtain ⟨q0, q1, q2, q3, q4, q5, q6, q7, q8, q9, q10, q11, q12, q13, q14, q15, q16, q17⟩ := hSw
              go_simp
              try with_reducible rfl
            simp only [Act.put, List.setIfInBounds_toArray, List.set_cons_zero, List.set_cons_succ]
            refine wpAnyH_take (i := 9) (oi := { dst := some 41, op := Go.Op.extract (Go.Operand.tmp 32) 2, type := 52, pos := "law.go:116", after := #[{ on := 6, ground := Go.Ground.data }, { on := 13, ground := Go.Ground.gcOnly Go.Departure.lateStores }], guard := none }) (v := ?_) rfl (by kernel_rfl) (by kernel_rfl) (by kernel_rfl) (fun _ _ _ h => h) (Or.inl ⟨by rfl, ?_⟩) (by assumption) ?_
            rotate_left
            · intro w hSw
              obtain ⟨q0, q1, q2, q3, q4, q5, q6, q7, q8, q9, q10, q11, q12, q13, q14, q15, q16, q17⟩ := hSw
              go_simp
              try with_reducible rfl
            simp only [Act.put, List.setIfInBounds_toArray, List.set_cons_zero, List.set_cons_succ]
            refine wpAnyH_ready (rs := [10]) (by kernel_rfl) (by simp) ?_
            refine AllReadyH.cons (o := { dst := some 9, op := Go.Op.alloc 78, type := 0, pos := "law.go:116", after := #[], guard := none }) rfl (fun K hK => ?_) ?_
            · go_simp
              refine hK.out _ _ (HSB.out _ (bel_al HY.out _)) (fun hHeld2 => ?_)
              clear hK K
              try simp only [Act.put, List.setIfInBounds_toArray, List.set_cons_zero, List.set_cons_succ]
              obtain ⟨y3, e3, m3, D3⟩ := box1 y2 [.bool false, .int .i64 0, .int .i64 0, .int .i64 0, .int .i64 0, .int .i64 0, .int .i64 0, .slice none 0 0] 78
              obtain ⟨g9, eg3⟩ : ∃ g, y2.heap.size = g := ⟨_, rfl⟩
              simp only [e3, eg3]
              rw [eg3] at m3
              have SZ3 : Hid (y2.heap.size = g9 ∧ g9 < y3.heap.size) := ⟨eg3, m3.lt⟩
              have BG9 := hide m3
              replace BG10 := hide (BG10.out.below D3)
              replace OW := hide (OW.out.below D3)
              replace HY := hide (chain HY.out D3)
              clear e3 eg3 m3 D3
              refine wpAnyH_listed (show _ = #[true, true, true, true, true, true, true, true, true, true, true, true, false, false, false] by kernel_rfl) ?_
              have z0 := SZi.out
              have z1 := SZ0.out
              have z2 := SZ1.out
              have z3 := SZ2.out
              have z4 := SZ3.out
              have zl := OL.out
              have zy := HY.out.size
              exact KY.out va vc g9 g10 y3 ⟨BG9.out, BG10.out, by omega, OW.out.weaken (by omega), fun e => (by have := zl _ e; omega), fun e => (by have := zl _ e; omega), by omega, by omega, HY.out⟩
            exact AllReadyH.nil
          refine AllReadyH.cons (o := { dst := some 9, op := Go.Op.alloc 78, type := 0, pos := "law.go:116", after := #[], guard := none }) rfl (fun K hK => ?_) ?_
          · go_simp
            refine hK.out _ _ (HSB.out _ (bel_al HY.out _)) (fun hHeld2 => ?_)
            clear hK K
            try simp only [Act.put, List.setIfInBounds_toArray, List.set_cons_zero, List.set_cons_succ]
            obtain ⟨y2, e2, m2, D2⟩ := box1 y1 [.bool false, .int .i64 0, .int .i64 0, .int .i64 0, .int .i64 0, .int .i64 0, .int .i64 0, .slice none 0 0] 78
            obtain ⟨g9, eg2⟩ : ∃ g, y1.heap.size = g := ⟨_, rfl⟩
            simp only [e2, eg2]
            rw [eg2] at m2
            have SZ2 : Hid (y1.heap.size = g9 ∧ g9 < y2.heap.size) := ⟨eg2, m2.lt⟩
            have BG9 := hide m2
            replace BG10 := hide (BG10.out.below D2)
            replace HY := hide (chain HY.out D2)
            clear e2 eg2 m2 D2
            refine wpAnyH_ready (rs := [5]) (by kernel_rfl) (by simp) ?_
            refine AllReadyH.cons (o := { dst := some 38, op := Go.Op.call { callee := Go.Callee.value (Go.Operand.func 29), args := #[Go.Operand.tmp 35, Go.Operand.tmp 37], argTypes := #[78, 34] }, type := 79, pos := "law.go:116", after := #[{ on := 2, ground := Go.Ground.data }, { on := 4, ground := Go.Ground.data }, { on := 2, ground := Go.Ground.chain }], guard := none }) rfl (fun K hK => ?_) ?_
            · go_simp
              go_at_call 29
              with_reducible refine Calls.mono (HTK.out y2 (chain HD.out HY.out)) ?_
              rintro e y3 ⟨v, rfl, ow, D3⟩
              obtain ⟨va, vc, rfl, -⟩ := ow.rcs
              rw [HTN.out] at ow ⊢
              have SZ3 : Hid (y2.heap.size ≤ y3.heap.size) := D3.size
              have OL : Hid (∀ j, (Value.slice va tn vc).ownBlock = some j → y2.heap.size ≤ j ∧ j < y3.heap.size) := fun j e => World.ownsRow.lt ow j e
              have OW := hide ow
              replace BG10 := hide (BG10.out.below D3)
              replace BG9 := hide (BG9.out.below D3)
              replace HY := hide (chain HY.out D3)
              clear D3 ow
              try dsimp only
              refine hK.out _ _ (HSB.out _ HY.out) (fun hHeld2 => ?_)
              clear hK K
              try simp only [Act.put, List.setIfInBounds_toArray, List.set_cons_zero, List.set_cons_succ]
              refine wpAnyH_take (i := 6) (oi := { dst := some 32, op := Go.Op.move (Go.Operand.tmp 38), type := 79, pos := "law.go:116", after := #[{ on := 5, ground := Go.Ground.data }], guard := none }) (v := ?_) rfl (by kernel_rfl) (by kernel_rfl) (by kernel_rfl) (fun _ _ _ h => h) (Or.inl ⟨by rfl, ?_⟩) (by assumption) ?_
              rotate_left
              · intro w hSw
                obtain ⟨q0, q1, q2, q3, q4, q5, q6, q7, q8, q9, q10, q11, q12, q13, q14, q15, q16, q17⟩ := hSw
                go_simp
                try with_reducible rfl
              simp only [Act.put, List.setIfInBounds_toArray, List.set_cons_zero, List.set_cons_succ]
              refine wpAnyH_take (i := 7) (oi := { dst := some 39, op := Go.Op.extract (Go.Operand.tmp 32) 0, type := 78, pos := "law.go:116", after := #[{ on := 6, ground := Go.Ground.data }], guard := none }) (v := ?_) rfl (by kernel_rfl) (by kernel_rfl) (by kernel_rfl) (fun _ _ _ h => h) (Or.inl ⟨by rfl, ?_⟩) (by assumption) ?_
              rotate_left
              · intro w hSw
                obtain ⟨q0, q1, q2, q3, q4, q5, q6, q7, q8, q9, q10, q11, q12, q13, q14, q15, q16, q17⟩ := hSw
                go_simp
                try with_reducible rfl
              simp only [Act.put, List.setIfInBounds_toArray, List.set_cons_zero, List.set_cons_succ]
              refine wpAnyH_take (i := 8) (oi := { dst := some 40, op := Go.Op.extract (Go.Operand.tmp 32) 1, type := 34, pos := "law.go:116", after := #[{ on := 6, ground := Go.Ground.data }, { on := 12, ground := Go.Ground.gcOnly Go.Departure.lateStores }], guard := none }) (v := ?_) rfl (by kernel_rfl) (by kernel_rfl) (by kernel_rfl) (fun _ _ _ h => h) (Or.inl ⟨by rfl, ?_⟩) (by assumption) ?_
              rotate_left
              · intro w hSw
                obtain ⟨q0, q1, q2, q3, q4, q5, q6, q7, q8, q9, q10, q11, q12, q13, q14, q15, q16, q17⟩ := hSw
                go_simp
                try with_reducible rfl
              simp only [Act.put, List.setIfInBounds_toArray, List.set_cons_zero, List.set_cons_succ]
              refine wpAnyH_take (i := 9) (oi := { dst := some 41, op := Go.Op.extract (Go.Operand.tmp 32) 2, type := 52, pos := "law.go:116", after := #[{ on := 6, ground := Go.Ground.data }, { on := 13, ground := Go.Ground.gcOnly Go.Departure.lateStores }], guard := none }) (v := ?_) rfl (by kernel_rfl) (by kernel_rfl) (by kernel_rfl) (fun _ _ _ h => h) (Or.inl ⟨by rfl, ?_⟩) (by assumption) ?_
              rotate_left
              · intro w hSw
                obtain ⟨q0, q1, q2, q3, q4, q5, q6, q7, q8, q9, q10, q11, q12, q13, q14, q15, q16, q17⟩ := hSw
                go_simp
                try with_reducible rfl
              simp only [Act.put, List.setIfInBounds_toArray, List.set_cons_zero, List.set_cons_succ]
              refine wpAnyH_listed (show _ = #[true, true, true, true, true, true, true, true, true, true, true, true, false, false, false] by kernel_rfl) ?_
              have z0 := SZi.out
              have z1 := SZ0.out
              have z2 := SZ1.out
              have z3 := SZ2.out
              have z4 := SZ3.out
              have zl := OL.out
              have zy := HY.out.size
              exact KY.out va vc g9 g10 y3 ⟨BG9.out, BG10.out, by omega, OW.out.weaken (by omega), fun e => (by have := zl _ e; omega), fun e => (by have := zl _ e; omega), by omega, by omega, HY.out⟩
            exact AllReadyH.nil
          exact AllReadyH.nil
        refine AllReadyH.cons (o := { dst := some 9, op := Go.Op.alloc 78, type := 0, pos := "law.go:116", after := #[], guard := none }) rfl (fun K hK => ?_) ?_
        · go_simp
          refine hK.out _ _ (HSB.out _ (bel_al HY.out _)) (fun hHeld2 => ?_)
          clear hK K
          try simp only [Act.put, List.setIfInBounds_toArray, List.set_cons_zero, List.set_cons_succ]
          obtain ⟨y1, e1, m1, D1⟩ := box1 y0 [.bool false, .int .i64 0, .int .i64 0, .int .i64 0, .int .i64 0, .int .i64 0, .int .i64 0, .slice none 0 0] 78
          obtain ⟨g9, eg1⟩ : ∃ g, y0.heap.size = g := ⟨_, rfl⟩
          simp only [e1, eg1]
          rw [eg1] at m1
          have SZ1 : Hid (y0.heap.size = g9 ∧ g9 < y1.heap.size) := ⟨eg1, m1.lt⟩
          have BG9 := hide m1
          replace BG10 := hide (BG10.out.below D1)
          replace HY := hide (chain HY.out D1)
          clear e1 eg1 m1 D1
          refine wpAnyH_ready (rs := [2]) (by kernel_rfl) (by simp) ?_
          refine AllReadyH.cons (o := { dst := some 35, op := Go.Op.call { callee := Go.Callee.value (Go.Operand.func 30), args := #[Go.Operand.tmp 34], argTypes := #[31] }, type := 78, pos := "law.go:116", after := #[{ on := 1, ground := Go.Ground.data }], guard := none }) rfl (fun K hK => ?_) ?_
          · go_simp
            go_at_call 30
            with_reducible refine Calls.mono (HTR.out y1) ?_
            rintro e y2 ⟨rfl, D2⟩
            have SZ2 : Hid (y1.heap.size ≤ y2.heap.size) := D2.size
            replace BG10 := hide (BG10.out.below D2)
            replace BG9 := hide (BG9.out.below D2)
            replace HY := hide (chain HY.out D2)
            clear D2
            try dsimp only
            refine hK.out _ _ (HSB.out _ HY.out) (fun hHeld2 => ?_)
            clear hK K
            try simp only [Act.put, List.setIfInBounds_toArray, List.set_cons_zero, List.set_cons_succ]
            refine wpAnyH_ready (rs := [5]) (by kernel_rfl) (by simp) ?_
            refine AllReadyH.cons (o := { dst := some 38, op := Go.Op.call { callee := Go.Callee.value (Go.Operand.func 29), args := #[Go.Operand.tmp 35, Go.Operand.tmp 37], argTypes := #[78, 34] }, type := 79, pos := "law.go:116", after := #[{ on := 2, ground := Go.Ground.data }, { on := 4, ground := Go.Ground.data }, { on := 2, ground := Go.Ground.chain }], guard := none }) rfl (fun K hK => ?_) ?_
            · go_simp
              go_at_call 29
              with_reducible refine Calls.mono (HTK.out y2 (chain HD.out HY.out)) ?_
              rintro e y3 ⟨v, rfl, ow, D3⟩
              obtain ⟨va, vc, rfl, -⟩ := ow.rcs
              rw [HTN.out] at ow ⊢
              have SZ3 : Hid (y2.heap.size ≤ y3.heap.size) := D3.size
              have OL : Hid (∀ j, (Value.slice va tn vc).ownBlock = some j → y2.heap.size ≤ j ∧ j < y3.heap.size) := fun j e => World.ownsRow.lt ow j e
              have OW := hide ow
              replace BG10 := hide (BG10.out.below D3)
              replace BG9 := hide (BG9.out.below D3)
              replace HY := hide (chain HY.out D3)
              clear D3 ow
              try dsimp only
              refine hK.out _ _ (HSB.out _ HY.out) (fun hHeld2 => ?_)
              clear hK K
              try simp only [Act.put, List.setIfInBounds_toArray, List.set_cons_zero, List.set_cons_succ]
              refine wpAnyH_take (i := 6) (oi := { dst := some 32, op := Go.Op.move (Go.Operand.tmp 38), type := 79, pos := "law.go:116", after := #[{ on := 5, ground := Go.Ground.data }], guard := none }) (v := ?_) rfl (by kernel_rfl) (by kernel_rfl) (by kernel_rfl) (fun _ _ _ h => h) (Or.inl ⟨by rfl, ?_⟩) (by assumption) ?_
              rotate_left
              · intro w hSw
                obtain ⟨q0, q1, q2, q3, q4, q5, q6, q7, q8, q9, q10, q11, q12, q13, q14, q15, q16, q17⟩ := hSw
                go_simp
                try with_reducible rfl
              simp only [Act.put, List.setIfInBounds_toArray, List.set_cons_zero, List.set_cons_succ]
              refine wpAnyH_take (i := 7) (oi := { dst := some 39, op := Go.Op.extract (Go.Operand.tmp 32) 0, type := 78, pos := "law.go:116", after := #[{ on := 6, ground := Go.Ground.data }], guard := none }) (v := ?_) rfl (by kernel_rfl) (by kernel_rfl) (by kernel_rfl) (fun _ _ _ h => h) (Or.inl ⟨by rfl, ?_⟩) (by assumption) ?_
              rotate_left
              · intro w hSw
                obtain ⟨q0, q1, q2, q3, q4, q5, q6, q7, q8, q9, q10, q11, q12, q13, q14, q15, q16, q17⟩ := hSw
                go_simp
                try with_reducible rfl
              simp only [Act.put, List.setIfInBounds_toArray, List.set_cons_zero, List.set_cons_succ]
              refine wpAnyH_take (i := 8) (oi := { dst := some 40, op := Go.Op.extract (Go.Operand.tmp 32) 1, type := 34, pos := "law.go:116", after := #[{ on := 6, ground := Go.Ground.data }, { on := 12, ground := Go.Ground.gcOnly Go.Departure.lateStores }], guard := none }) (v := ?_) rfl (by kernel_rfl) (by kernel_rfl) (by kernel_rfl) (fun _ _ _ h => h) (Or.inl ⟨by rfl, ?_⟩) (by assumption) ?_
              rotate_left
              · intro w hSw
                obtain ⟨q0, q1, q2, q3, q4, q5, q6, q7, q8, q9, q10, q11, q12, q13, q14, q15, q16, q17⟩ := hSw
                go_simp
                try with_reducible rfl
              simp only [Act.put, List.setIfInBounds_toArray, List.set_cons_zero, List.set_cons_succ]
              refine wpAnyH_take (i := 9) (oi := { dst := some 41, op := Go.Op.extract (Go.Operand.tmp 32) 2, type := 52, pos := "law.go:116", after := #[{ on := 6, ground := Go.Ground.data }, { on := 13, ground := Go.Ground.gcOnly Go.Departure.lateStores }], guard := none }) (v := ?_) rfl (by kernel_rfl) (by kernel_rfl) (by kernel_rfl) (fun _ _ _ h => h) (Or.inl ⟨by rfl, ?_⟩) (by assumption) ?_
              rotate_left
              · intro w hSw
                obtain ⟨q0, q1, q2, q3, q4, q5, q6, q7, q8, q9, q10, q11, q12, q13, q14, q15, q16, q17⟩ := hSw
                go_simp
                try with_reducible rfl
              simp only [Act.put, List.setIfInBounds_toArray, List.set_cons_zero, List.set_cons_succ]
              refine wpAnyH_listed (show _ = #[true, true, true, true, true, true, true, true, true, true, true, true, false, false, false] by kernel_rfl) ?_
              have z0 := SZi.out
              have z1 := SZ0.out
              have z2 := SZ1.out
              have z3 := SZ2.out
              have z4 := SZ3.out
              have zl := OL.out
              have zy := HY.out.size
              exact KY.out va vc g9 g10 y3 ⟨BG9.out, BG10.out, by omega, OW.out.weaken (by omega), fun e => (by have := zl _ e; omega), fun e => (by have := zl _ e; omega), by omega, by omega, HY.out⟩
            exact AllReadyH.nil
          exact AllReadyH.nil
        exact AllReadyH.nil
      exact AllReadyH.nil
    · --
      intro va vc g9 g10 wz hF
      simp only [Act.put, List.setIfInBounds_toArray, List.set_cons_zero, List.set_cons_succ]
      obtain ⟨B9, B10, hne, hV, ho1, ho2, hg1, hg2, hBZ⟩ := hF
      have HB9 := hide B9
      have HB10 := hide B10
      have D12 := hide (below_sets hg1 [.bool TB, .int .i64 s1, .int .i64 s2, .int .i64 s3, .int .i64 s4, .int .i64 s5, .int .i64 s6, .slice va tn vc] 0 hBZ)
      have D13 := hide (below_sets hg2 [.int .i64 n1, .int .i64 n2, .int .i64 n3, .int .i64 n4, .int .i64 n5, .int .i64 n6, .int .i64 n7, .int .i64 n8, .int .u32 n9, .string nd] 0 D12.out)
      have S12 := hide (HSB.out (World.setCells wz g9 0 [.bool TB, .int .i64 s1, .int .i64 s2, .int .i64 s3, .int .i64 s4, .int .i64 s5, .int .i64 s6, .slice va tn vc]) D12.out)
      have S13 := hide (HSB.out (World.setCells (World.setCells wz g9 0 [.bool TB, .int .i64 s1, .int .i64 s2, .int .i64 s3, .int .i64 s4, .int .i64 s5, .int .i64 s6, .slice va tn vc]) g10 0 [.int .i64 n1, .int .i64 n2, .int .i64 n3, .int .i64 n4, .int .i64 n5, .int .i64 n6, .int .i64 n7, .int .i64 n8, .int .u32 n9, .string nd]) D13.out)
      have K9 := hide (Bk.others hne [.int .i64 n1, .int .i64 n2, .int .i64 n3, .int .i64 n4, .int .i64 n5, .int .i64 n6, .int .i64 n7, .int .i64 n8, .int .u32 n9, .string nd] 0 (B9.sets [.bool TB, .int .i64 s1, .int .i64 s2, .int .i64 s3, .int .i64 s4, .int .i64 s5, .int .i64 s6, .slice va tn vc] rfl))
      have K10 := hide ((Bk.others (Ne.symm hne) [.bool TB, .int .i64 s1, .int .i64 s2, .int .i64 s3, .int .i64 s4, .int .i64 s5, .int .i64 s6, .slice va tn vc] 0 B10).sets [.int .i64 n1, .int .i64 n2, .int .i64 n3, .int .i64 n4, .int .i64 n5, .int .i64 n6, .int .i64 n7, .int .i64 n8, .int .u32 n9, .string nd] rfl)
      have KV := hide (LOwn.fars ho2 [.int .i64 n1, .int .i64 n2, .int .i64 n3, .int .i64 n4, .int .i64 n5, .int .i64 n6, .int .i64 n7, .int .i64 n8, .int .u32 n9, .string nd] 0 (LOwn.fars ho1 [.bool TB, .int .i64 s1, .int .i64 s2, .int .i64 s3, .int .i64 s4, .int .i64 s5, .int .i64 s6, .slice va tn vc] 0 hV))
      have hne2 := Ne.symm hne
      clear B9 B10 hV ho1 ho2 hg1 hg2 hBZ
      have f0 := HB9.out.frozen 0
      have f1 := HB9.out.frozen 1
      have f2 := HB9.out.frozen 2
      have f3 := HB9.out.frozen 3
      have f4 := HB9.out.frozen 4
      have f5 := HB9.out.frozen 5
      have f6 := HB9.out.frozen 6
      have f7 := HB9.out.frozen 7
      have g0 := HB9.out.cell 0 rfl
      have g1 := HB9.out.cell 1 rfl
      have g2 := HB9.out.cell 2 rfl
      have g3 := HB9.out.cell 3 rfl
      have g4 := HB9.out.cell 4 rfl
      have g5 := HB9.out.cell 5 rfl
      have g6 := HB9.out.cell 6 rfl
      have g7 := HB9.out.cell 7 rfl
      have fz0 := HB10.out.frozen 0
      have fz1 := HB10.out.frozen 1
      have fz2 := HB10.out.frozen 2
      have fz3 := HB10.out.frozen 3
      have fz4 := HB10.out.frozen 4
      have fz5 := HB10.out.frozen 5
      have fz6 := HB10.out.frozen 6
      have fz7 := HB10.out.frozen 7
      have fz8 := HB10.out.frozen 8
      have fz9 := HB10.out.frozen 9
      have gz0 := HB10.out.cell 0 rfl
      have gz1 := HB10.out.cell 1 rfl
      have gz2 := HB10.out.cell 2 rfl
      have gz3 := HB10.out.cell 3 rfl
      have gz4 := HB10.out.cell 4 rfl
      have gz5 := HB10.out.cell 5 rfl
      have gz6 := HB10.out.cell 6 rfl
      have gz7 := HB10.out.cell 7 rfl
      have gz8 := HB10.out.cell 8 rfl
      have gz9 := HB10.out.cell 9 rfl
      refine wpAnyH_ready (rs := [12]) (by kernel_rfl) (by simp) ?_
      refine AllReadyH.cons (o := { dst := none, op := Go.Op.store 78 (Go.Operand.tmp 9) (Go.Operand.tmp 39), type := 0, pos := "law.go:116", after := #[{ on := 10, ground := Go.Ground.data }, { on := 7, ground := Go.Ground.data }, { on := 5, ground := Go.Ground.chain }, { on := 0, ground := Go.Ground.phase }, { on := 1, ground := Go.Ground.phase }, { on := 2, ground := Go.Ground.phase }, { on := 3, ground := Go.Ground.phase }, { on := 4, ground := Go.Ground.phase }, { on := 5, ground := Go.Ground.phase }, { on := 6, ground := Go.Ground.phase }, { on := 7, ground := Go.Ground.phase }, { on := 8, ground := Go.Ground.textOnly Go.Departure.lateStores }, { on := 9, ground := Go.Ground.textOnly Go.Departure.lateStores }, { on := 10, ground := Go.Ground.phase }, { on := 11, ground := Go.Ground.phase }], guard := none }) rfl (fun K hK => ?_) AllReadyH.nil
      go_simp
      refine hK.out _ _ S12.out (fun hHeld2 => ?_)
      clear hK K
      refine wpAnyH_ready (rs := [13]) (by kernel_rfl) (by simp) ?_
      refine AllReadyH.cons (o := { dst := none, op := Go.Op.store 34 (Go.Operand.tmp 10) (Go.Operand.tmp 40), type := 0, pos := "law.go:116", after := #[{ on := 11, ground := Go.Ground.data }, { on := 8, ground := Go.Ground.data }, { on := 12, ground := Go.Ground.chain }, { on := 0, ground := Go.Ground.phase }, { on := 1, ground := Go.Ground.phase }, { on := 2, ground := Go.Ground.phase }, { on := 3, ground := Go.Ground.phase }, { on := 4, ground := Go.Ground.phase }, { on := 5, ground := Go.Ground.phase }, { on := 6, ground := Go.Ground.phase }, { on := 7, ground := Go.Ground.phase }, { on := 8, ground := Go.Ground.phase }, { on := 9, ground := Go.Ground.textOnly Go.Departure.lateStores }, { on := 10, ground := Go.Ground.phase }, { on := 11, ground := Go.Ground.phase }, { on := 12, ground := Go.Ground.phase }], guard := none }) rfl (fun K hK => ?_) AllReadyH.nil
      go_simp
      refine hK.out _ _ S13.out (fun hHeld3 => ?_)
      clear hK K hHeld2
      refine wpAnyH_take (i := 14) (oi := { dst := some 11, op := Go.Op.assign (Go.Operand.tmp 41), type := 52, pos := "law.go:116", after := #[{ on := 9, ground := Go.Ground.data }, { on := 13, ground := Go.Ground.chain }, { on := 0, ground := Go.Ground.phase }, { on := 1, ground := Go.Ground.phase }, { on := 2, ground := Go.Ground.phase }, { on := 3, ground := Go.Ground.phase }, { on := 4, ground := Go.Ground.phase }, { on := 5, ground := Go.Ground.phase }, { on := 6, ground := Go.Ground.phase }, { on := 7, ground := Go.Ground.phase }, { on := 8, ground := Go.Ground.phase }, { on := 9, ground := Go.Ground.phase }, { on := 10, ground := Go.Ground.phase }, { on := 11, ground := Go.Ground.phase }, { on := 12, ground := Go.Ground.phase }, { on := 13, ground := Go.Ground.phase }], guard := none }) (v := ?_) rfl (by kernel_rfl) (by kernel_rfl) (by kernel_rfl) (fun _ _ _ h => h) (Or.inl ⟨by rfl, ?_⟩) (by assumption) ?_
      rotate_left
      · intro w hSw
        obtain ⟨q0, q1, q2, q3, q4, q5, q6, q7, q8, q9, q10, q11, q12, q13, q14, q15, q16, q17⟩ := hSw
        go_simp
        try with_reducible rfl
      simp only [Act.put, List.setIfInBounds_toArray, List.set_cons_zero, List.set_cons_succ]
      refine wpAnyH_done (by kernel_rfl) ?_ _
      clear hHeld3 hne hne2 f0 g0 f1 g1 f2 g2 f3 g3 f4 g4 f5 g5 f6 g6 f7 g7 fz0 gz0 fz1 gz1 fz2 gz2 fz3 gz3 fz4 gz4 fz5 gz5 fz6 gz6 fz7 gz7 fz8 gz8 fz9 gz9 S12 S13
      go_wp2
      go_meet
      case rel => exact ⟨va, vc, g9, g10, rfl, rfl, rfl, K9.out, K10.out, KV.out, D13.out⟩
  case rest =>
    obtain ⟨va, vc, g9, g10, rfl, rfl, rfl, k9, k10, kV, kB⟩ := hcut
    obtain ⟨w6, hw6⟩ : ∃ z, z = wc := ⟨_, rfl⟩
    subst hw6
    replace HB0 := hide (HB0.out.below kB)
    replace HV := hide (HV.out.below kB)
    replace HH3 := hide (HH3.out.below kB)
    replace HH4 := hide (HH4.out.below kB)
    replace HD := hide (chain HD.out kB)
    have HK9 := hide k9
    have HK10 := hide k10
    have HKV := hide kV
    clear k9 k10 kV kB HTK
    go_upto_region 6 with fail
    go_cut [57] from 42 to 57 (fun v wz => v = .bool false ∧ Hid (Below w6.heap.size w6 wz))
    case first =>
      have G0 := hide (HK9.out.below (Below.refl _ w6).drew)
      have G1 := hide (HH3.out.below (Below.refl _ w6).drew)
      have G2 := hide (HK10.out.below (Below.refl _ w6).drew)
      have G3 := hide (HH4.out.below (Below.refl _ w6).drew)
      have DD := hide HD.out.drew
      have BD := hide ((Below.refl w6.heap.size w6).drew)
      obtain ⟨y1, y2, e1, R1⟩ := HKV.out.rcs
      obtain ⟨y3, y4, e2, R2⟩ := HV.out.rcs
      rw [HTN.out] at e1 e2 R1 R2
      injection e1 with e1a e1b e1c
      injection e2 with e2a e2b e2c
      subst e1a e1c e2a e2c
      have FA := hide (R1.below BD.out)
      have FB := hide (R2.below BD.out)
      clear R1 R2 e1b e2b
      have HNE := HNQ.out
      have hgt : Tryd.prog.eqGuardType Tryd.prog.depth 34 = false := by kernel_rfl
      go_region_held3 (fun wz => wz.cell? ⟨g9, 0, none⟩ = some (.bool TB) ∧ wz.cell? ⟨g9, 1, none⟩ = some (.int .i64 s1) ∧ wz.cell? ⟨g9, 2, none⟩ = some (.int .i64 s2) ∧ wz.cell? ⟨g9, 3, none⟩ = some (.int .i64 s3) ∧ wz.cell? ⟨g9, 4, none⟩ = some (.int .i64 s4) ∧ wz.cell? ⟨g9, 5, none⟩ = some (.int .i64 s5) ∧ wz.cell? ⟨g9, 6, none⟩ = some (.int .i64 s6) ∧ wz.cell? ⟨g9, 7, none⟩ = some (.slice va tn vc) ∧ wz.cell? ⟨h3, 0, none⟩ = some (.bool TB) ∧ wz.cell? ⟨h3, 1, none⟩ = some (.int .i64 s1) ∧ wz.cell? ⟨h3, 2, none⟩ = some (.int .i64 s2) ∧ wz.cell? ⟨h3, 3, none⟩ = some (.int .i64 s3) ∧ wz.cell? ⟨h3, 4, none⟩ = some (.int .i64 s4) ∧ wz.cell? ⟨h3, 5, none⟩ = some (.int .i64 s5) ∧ wz.cell? ⟨h3, 6, none⟩ = some (.int .i64 s6) ∧ wz.cell? ⟨h3, 7, none⟩ = some (.slice vb tn vd) ∧ wz.cell? ⟨g10, 0, none⟩ = some (.int .i64 n1) ∧ wz.cell? ⟨g10, 1, none⟩ = some (.int .i64 n2) ∧ wz.cell? ⟨g10, 2, none⟩ = some (.int .i64 n3) ∧ wz.cell? ⟨g10, 3, none⟩ = some (.int .i64 n4) ∧ wz.cell? ⟨g10, 4, none⟩ = some (.int .i64 n5) ∧ wz.cell? ⟨g10, 5, none⟩ = some (.int .i64 n6) ∧ wz.cell? ⟨g10, 6, none⟩ = some (.int .i64 n7) ∧ wz.cell? ⟨g10, 7, none⟩ = some (.int .i64 n8) ∧ wz.cell? ⟨g10, 8, none⟩ = some (.int .u32 n9) ∧ wz.cell? ⟨g10, 9, none⟩ = some (.string nd) ∧ wz.cell? ⟨h4, 0, none⟩ = some (.int .i64 n1) ∧ wz.cell? ⟨h4, 1, none⟩ = some (.int .i64 n2) ∧ wz.cell? ⟨h4, 2, none⟩ = some (.int .i64 n3) ∧ wz.cell? ⟨h4, 3, none⟩ = some (.int .i64 n4) ∧ wz.cell? ⟨h4, 4, none⟩ = some (.int .i64 n5) ∧ wz.cell? ⟨h4, 5, none⟩ = some (.int .i64 n6) ∧ wz.cell? ⟨h4, 6, none⟩ = some (.int .i64 n7) ∧ wz.cell? ⟨h4, 7, none⟩ = some (.int .i64 n8) ∧ wz.cell? ⟨h4, 8, none⟩ = some (.int .u32 n9) ∧ wz.cell? ⟨h4, 9, none⟩ = some (.string nd)) (first | exact held36 G0.out G1.out G2.out G3.out | exact held36 K0.out K1.out K2.out K3.out | exact held36 M0.out M1.out M2.out M3.out | exact held36 N0.out N1.out N2.out N3.out) (first | (go_at_call 18; refine Calls.mono (HQ1.out _ DD.out) ?_; rintro e v5 ⟨rfl, b5⟩; have X5 := hide (chain BD.out b5); have K0 := hide (G0.out.below b5); have K1 := hide (G1.out.below b5); have K2 := hide (G2.out.below b5); have K3 := hide (G3.out.below b5); have FA5 := hide (FA.out.below b5); have FB5 := hide (FB.out.below b5); clear b5) | (go_at_call 32; refine Calls.mono (HFR.out _ tn _ _) ?_; rintro e v6 ⟨rfl, b6⟩; have X6 := hide (chain X5.out b6); have M0 := hide (K0.out.below b6); have M1 := hide (K1.out.below b6); have M2 := hide (K2.out.below b6); have M3 := hide (K3.out.below b6); have FA6 := hide (FA5.out.below b6); have FB6 := hide (FB5.out.below b6); clear b6) | (go_at_call 31; refine Calls.mono (HSM.out _ _ _ tn _ _ FA6.out FB6.out HL1.out) ?_; rintro e v7 ⟨rfl, b7⟩; have X7 := hide (chain X6.out b7); have N0 := hide (M0.out.below b7); have N1 := hide (M1.out.below b7); have N2 := hide (M2.out.below b7); have N3 := hide (M3.out.below b7); clear b7) | fail)
      go_wp2
      go_meet
      case rel => exact ⟨rfl, X7.out⟩
    case rest =>
      obtain ⟨rfl, HBB⟩ := hcut
      obtain ⟨w7, hw7⟩ : ∃ z, z = wc := ⟨_, rfl⟩
      subst hw7
      replace HB0 := hide (HB0.out.below HBB.out)
      replace HD := hide (chain HD.out HBB.out)
      clear HBB HV HH3 HH4 HK9 HK10 HKV HFR HSM HQ1 HNQ
      go_upto_region 8 with fail
      have g8 := HB0.out.cell 8 rfl
      have g9 := HB0.out.cell 9 rfl
      have g10 := HB0.out.cell 10 rfl
      have g11 := HB0.out.cell 11 rfl
      have g12 := HB0.out.cell 12 rfl
      have g13 := HB0.out.cell 13 rfl
      have g14 := HB0.out.cell 14 rfl
      have g15 := HB0.out.cell 15 rfl
      go_wp2_with fail
      refine Calls.mono (HTR.out w7) ?_
      rintro e w8 ⟨rfl, b8⟩
      replace HB0 := hide (HB0.out.below b8)
      replace HD := hide (chain HD.out b8)
      clear b8 g8 g9 g10 g11 g12 g13 g14 g15
      go_wp2_with fail
      refine Calls.mono (HP2.out w8 HD.out) ?_
      rintro e w9 ⟨qa, qn, qc, rfl, hb9, b9⟩
      have HBT := hide hb9
      replace HB0 := hide (HB0.out.below b9)
      replace HD := hide (chain HD.out b9)
      clear b9 HP2 hb9
      go_upto_region 9 with fail
      go_wp2_with fail
      refine Calls.mono (HQ2.out w9 HD.out) ?_
      rintro e w10 ⟨rfl, b10⟩
      replace HBT := hide (HBT.out.below b10)
      replace HB0 := hide (HB0.out.below b10)
      replace HD := hide (chain HD.out b10)
      clear b10 HQ2
      have hcv := bts_string HBT.out
      rw [HYY.out] at hcv
      cases RF
      all_goals
        go_wp2
        go_ret
        exact ⟨rfl, HD.out⟩
end Go.Proofs.YtnopclacchoijaaDoor.xferTakes
