/-
  The walk of XferSends: every Good, Due, Round, Ack and Arrived is the document's.
-/
import Derived.Test.YtnopclacchoijaaDoorXfAwake
import Derived.Test.YtnopclacchoijaaDoorXrRound
import Derived.Test.YtnopclacchoijaaDoorXrAck
import Derived.Test.YtnopclacchoijaaDoorXrNotes
import Derived.Test.YtnopclacchoijaaDoorXrSame
import Derived.Deep.CutRange
import Derived.Deep.RegionHeld3
namespace Go.Proofs.YtnopclacchoijaaDoor.xferSends
open Go.RowKit FerryCrc
set_option linter.unusedVariables false
set_option linter.unusedSimpArgs false

theorem held8c {pt b r m st : Int} {im : ByteArray} {rd : Int} {fa : Option Addr} {fn fc : Nat} {on : Bool} {x1 x2 x3 x4 x5 x6 : Int} {pa : Option Addr} {pn pc : Nat} {k pt2 b2 r2 m2 st2 ix tt2 sm : Int} {d : ByteArray} {tr : Int} {w : World} {g : Nat} {t : TypeId} (h : Bk w g [.int .i64 pt, .int .i64 b, .int .i64 r, .int .i64 m, .int .i64 st, .string im, .slice fa fn fc, .int .i64 rd, .bool on, .int .i64 x1, .int .i64 x2, .int .i64 x3, .int .i64 x4, .int .i64 x5, .int .i64 x6, .slice pa pn pc, .int .i64 k, .int .i64 pt2, .int .i64 b2, .int .i64 r2, .int .i64 m2, .int .i64 st2, .int .i64 ix, .int .i64 tt2, .int .u32 sm, .string d, .int .i64 tr] t) : w.cell? ⟨g, 0, none⟩ = some (.int .i64 pt) ∧ w.cell? ⟨g, 1, none⟩ = some (.int .i64 b) ∧ w.cell? ⟨g, 2, none⟩ = some (.int .i64 r) ∧ w.cell? ⟨g, 3, none⟩ = some (.int .i64 m) ∧ w.cell? ⟨g, 4, none⟩ = some (.int .i64 st) ∧ w.cell? ⟨g, 5, none⟩ = some (.string im) ∧ w.cell? ⟨g, 6, none⟩ = some (.slice fa fn fc) ∧ w.cell? ⟨g, 7, none⟩ = some (.int .i64 rd) :=
  ⟨h.cell 0 rfl, h.cell 1 rfl, h.cell 2 rfl, h.cell 3 rfl, h.cell 4 rfl, h.cell 5 rfl, h.cell 6 rfl, h.cell 7 rfl⟩
theorem held9c {pt b r m st : Int} {im : ByteArray} {rd : Int} {fa : Option Addr} {fn fc : Nat} {on : Bool} {x1 x2 x3 x4 x5 x6 : Int} {pa : Option Addr} {pn pc : Nat} {k pt2 b2 r2 m2 st2 ix tt2 sm : Int} {d : ByteArray} {tr : Int} {w : World} {g : Nat} {t : TypeId} (h : Bk w g [.int .i64 pt, .int .i64 b, .int .i64 r, .int .i64 m, .int .i64 st, .string im, .slice fa fn fc, .int .i64 rd, .bool on, .int .i64 x1, .int .i64 x2, .int .i64 x3, .int .i64 x4, .int .i64 x5, .int .i64 x6, .slice pa pn pc, .int .i64 k, .int .i64 pt2, .int .i64 b2, .int .i64 r2, .int .i64 m2, .int .i64 st2, .int .i64 ix, .int .i64 tt2, .int .u32 sm, .string d, .int .i64 tr] t) : w.cell? ⟨g, 0, none⟩ = some (.int .i64 pt) ∧ w.cell? ⟨g, 1, none⟩ = some (.int .i64 b) ∧ w.cell? ⟨g, 2, none⟩ = some (.int .i64 r) ∧ w.cell? ⟨g, 3, none⟩ = some (.int .i64 m) ∧ w.cell? ⟨g, 4, none⟩ = some (.int .i64 st) ∧ w.cell? ⟨g, 5, none⟩ = some (.string im) ∧ w.cell? ⟨g, 6, none⟩ = some (.slice fa fn fc) ∧ w.cell? ⟨g, 7, none⟩ = some (.int .i64 rd) ∧ w.cell? ⟨g, 26, none⟩ = some (.int .i64 tr) :=
  ⟨h.cell 0 rfl, h.cell 1 rfl, h.cell 2 rfl, h.cell 3 rfl, h.cell 4 rfl, h.cell 5 rfl, h.cell 6 rfl, h.cell 7 rfl, h.cell 26 rfl⟩
theorem held18c {pt b r m st : Int} {im : ByteArray} {rd : Int} {fa : Option Addr} {fn fc : Nat} {on : Bool} {x1 x2 x3 x4 x5 x6 : Int} {pa : Option Addr} {pn pc : Nat} {k pt2 b2 r2 m2 st2 ix tt2 sm : Int} {d : ByteArray} {tr : Int} {w : World} {g : Nat} {t : TypeId} (h : Bk w g [.int .i64 pt, .int .i64 b, .int .i64 r, .int .i64 m, .int .i64 st, .string im, .slice fa fn fc, .int .i64 rd, .bool on, .int .i64 x1, .int .i64 x2, .int .i64 x3, .int .i64 x4, .int .i64 x5, .int .i64 x6, .slice pa pn pc, .int .i64 k, .int .i64 pt2, .int .i64 b2, .int .i64 r2, .int .i64 m2, .int .i64 st2, .int .i64 ix, .int .i64 tt2, .int .u32 sm, .string d, .int .i64 tr] t) : w.cell? ⟨g, 0, none⟩ = some (.int .i64 pt) ∧ w.cell? ⟨g, 1, none⟩ = some (.int .i64 b) ∧ w.cell? ⟨g, 2, none⟩ = some (.int .i64 r) ∧ w.cell? ⟨g, 3, none⟩ = some (.int .i64 m) ∧ w.cell? ⟨g, 4, none⟩ = some (.int .i64 st) ∧ w.cell? ⟨g, 5, none⟩ = some (.string im) ∧ w.cell? ⟨g, 6, none⟩ = some (.slice fa fn fc) ∧ w.cell? ⟨g, 7, none⟩ = some (.int .i64 rd) ∧ w.cell? ⟨g, 16, none⟩ = some (.int .i64 k) ∧ w.cell? ⟨g, 17, none⟩ = some (.int .i64 pt2) ∧ w.cell? ⟨g, 18, none⟩ = some (.int .i64 b2) ∧ w.cell? ⟨g, 19, none⟩ = some (.int .i64 r2) ∧ w.cell? ⟨g, 20, none⟩ = some (.int .i64 m2) ∧ w.cell? ⟨g, 21, none⟩ = some (.int .i64 st2) ∧ w.cell? ⟨g, 22, none⟩ = some (.int .i64 ix) ∧ w.cell? ⟨g, 23, none⟩ = some (.int .i64 tt2) ∧ w.cell? ⟨g, 24, none⟩ = some (.int .u32 sm) ∧ w.cell? ⟨g, 25, none⟩ = some (.string d) :=
  ⟨h.cell 0 rfl, h.cell 1 rfl, h.cell 2 rfl, h.cell 3 rfl, h.cell 4 rfl, h.cell 5 rfl, h.cell 6 rfl, h.cell 7 rfl, h.cell 16 rfl, h.cell 17 rfl, h.cell 18 rfl, h.cell 19 rfl, h.cell 20 rfl, h.cell 21 rfl, h.cell 22 rfl, h.cell 23 rfl, h.cell 24 rfl, h.cell 25 rfl⟩
theorem held16 {w : World} {g h : Nat} {s1 s2 s3 s4 s5 s7 : Int} {s6 : ByteArray} {fa fb : Option Addr} {fn fc fd : Nat} {t t' : TypeId} (h0 : Bk w g [.int .i64 s1, .int .i64 s2, .int .i64 s3, .int .i64 s4, .int .i64 s5, .string s6, .slice fa fn fc, .int .i64 s7] t) (h1 : Bk w h [.int .i64 s1, .int .i64 s2, .int .i64 s3, .int .i64 s4, .int .i64 s5, .string s6, .slice fb fn fd, .int .i64 s7] t') :
    w.cell? ⟨g, 0, none⟩ = some (.int .i64 s1) ∧ w.cell? ⟨g, 1, none⟩ = some (.int .i64 s2) ∧ w.cell? ⟨g, 2, none⟩ = some (.int .i64 s3) ∧ w.cell? ⟨g, 3, none⟩ = some (.int .i64 s4) ∧ w.cell? ⟨g, 4, none⟩ = some (.int .i64 s5) ∧ w.cell? ⟨g, 5, none⟩ = some (.string s6) ∧ w.cell? ⟨g, 6, none⟩ = some (.slice fa fn fc) ∧ w.cell? ⟨g, 7, none⟩ = some (.int .i64 s7) ∧ w.cell? ⟨h, 0, none⟩ = some (.int .i64 s1) ∧ w.cell? ⟨h, 1, none⟩ = some (.int .i64 s2) ∧ w.cell? ⟨h, 2, none⟩ = some (.int .i64 s3) ∧ w.cell? ⟨h, 3, none⟩ = some (.int .i64 s4) ∧ w.cell? ⟨h, 4, none⟩ = some (.int .i64 s5) ∧ w.cell? ⟨h, 5, none⟩ = some (.string s6) ∧ w.cell? ⟨h, 6, none⟩ = some (.slice fb fn fd) ∧ w.cell? ⟨h, 7, none⟩ = some (.int .i64 s7) :=
  ⟨h0.cell 0 rfl, h0.cell 1 rfl, h0.cell 2 rfl, h0.cell 3 rfl, h0.cell 4 rfl, h0.cell 5 rfl, h0.cell 6 rfl, h0.cell 7 rfl, h1.cell 0 rfl, h1.cell 1 rfl, h1.cell 2 rfl, h1.cell 3 rfl, h1.cell 4 rfl, h1.cell 5 rfl, h1.cell 6 rfl, h1.cell 7 rfl⟩
theorem wpAnyH_listed {P : Program} {md : Region.Mode} {ops : Array Oper} {Q : Exit → Act → World → Prop} {S : World → Prop} {n : Nat} {l l' : Array Bool} {a : Act} {w : World} (h : l = l') (k : wpAnyH P md ops Q S n l' a w) : wpAnyH P md ops Q S n l a w := h ▸ k
theorem by_key3 {P : Program} {md : Region.Mode} {ops : Array Oper} {Q : Exit → Act → World → Prop} {S : World → Prop} {n : Nat} {l : Array Bool} {a : Act} {w : World} (F : Option Addr → Nat → Option Addr → Nat → Nat → World → Prop) (u : Act → Option Addr → Nat → Option Addr → Nat → Nat → Act) (l3 : Array Bool) (n3 : Nat) (hm : (∀ va vc ua uc g wz, F va vc ua uc g wz → wpAnyH P md ops Q S n3 l3 (u a va vc ua uc g) wz) → wpAnyH P md ops Q S n l a w) (hk : ∀ va vc ua uc g wz, F va vc ua uc g wz → wpAnyH P md ops Q S n3 l3 (u a va vc ua uc g) wz) : wpAnyH P md ops Q S n l a w := hm hk
theorem bel_al {a w : World} (h : Below a.heap.size a w) (o : Obj) : Below a.heap.size a (w.alloc o) := h.alloc h.size o
theorem ackE_le (s : Sd) (fn : Nat) (n : Nt) : ackE s fn n ≤ 20 := by
  have hc : chk n ≤ 20 := by
    unfold chk
    repeat' split
    all_goals decide
  unfold ackE
  repeat' split
  all_goals first | decide | exact hc
theorem pieE_le (s : Sd) (fn : Nat) : pieE s fn ≤ 20 := by
  unfold pieE
  split <;> decide
theorem dueL_le {s : Sd} {F : List Bool} : (dueL s F).length ≤ 4294967296 := by
  unfold dueL
  refine Nat.le_trans (dueN_len _ _) ?_
  unfold pieL
  split
  · rename_i h
    rw [cutN_len]
    have := pieE_fn h
    unfold pieE at h
    split at h
    · rename_i h1
      rw [← h1.2.1]
      omega
    · cases h
  · simp
theorem rndN_le {s : Sd} {F : List Bool} {tr : Int} : (rndN s F tr).length ≤ 4294967296 := by
  unfold rndN
  split
  · exact dueL_le
  · simp
theorem rndA_le {s : Sd} {F : List Bool} : (rndA s F).length ≤ 4611686018427387904 := by
  unfold rndA
  split
  · rename_i h
    have := pieE_fn h
    omega
  · simp
theorem ackA_le {s : Sd} {F : List Bool} {n : Nt} : (ackA s F n).length ≤ 4611686018427387904 := by
  unfold ackA
  split
  · rename_i h
    rw [List.length_set]
    have h2 : pieE s F.length = 0 := by
      unfold ackE at h
      split at h
      · assumption
      · cases h
    have := pieE_fn h2
    omega
  · simp

set_option maxRecDepth 100000 in
set_option maxHeartbeats 4000000 in
theorem law (pt b r m st : Int) (im : ByteArray) (rd : Int) (fa : Option Addr) (fn fc : Nat) (F : List Bool) (on : Bool) (x1 x2 x3 x4 x5 x6 : Int) (pa : Option Addr) (pn pc : Nat) (k pt2 b2 r2 m2 st2 ix tt2 sm : Int) (d : ByteArray) (tr : Int) (w : World) {E : Nat → Addr} (he : Errs w E) (hF : Fls w fa fn fc F) (him : im.size ≤ 140737488351232) (hd : d.size ≤ 9223372036854775807) (h1 : -9223372036854775808 ≤ tt2) (h2 : tt2 ≤ 9223372036854775807) (htr : tr ≤ 9223372036854775807) (hrd : -9223372036854775808 ≤ rd) :
    Calls Tryd.prog 3 #[.agg #[.int .i64 pt, .int .i64 b, .int .i64 r, .int .i64 m, .int .i64 st, .string im, .slice fa fn fc, .int .i64 rd, .bool on, .int .i64 x1, .int .i64 x2, .int .i64 x3, .int .i64 x4, .int .i64 x5, .int .i64 x6, .slice pa pn pc, .int .i64 k, .int .i64 pt2, .int .i64 b2, .int .i64 r2, .int .i64 m2, .int .i64 st2, .int .i64 ix, .int .i64 tt2, .int .u32 sm, .string d, .int .i64 tr]] w fun e w' => e = .returned (.bool true) ∧ Below w.heap.size w w' := by
  have hFs := hF.size
  obtain ⟨W, hW, B0, D0⟩ := box1 w [.int .i64 pt, .int .i64 b, .int .i64 r, .int .i64 m, .int .i64 st, .string im, .slice fa fn fc, .int .i64 rd, .bool on, .int .i64 x1, .int .i64 x2, .int .i64 x3, .int .i64 x4, .int .i64 x5, .int .i64 x6, .slice pa pn pc, .int .i64 k, .int .i64 pt2, .int .i64 b2, .int .i64 r2, .int .i64 m2, .int .i64 st2, .int .i64 ix, .int .i64 tt2, .int .u32 sm, .string d, .int .i64 tr] 36
  have HB0 := hide B0
  have HD := hide D0
  have HWD := hide hW
  have HAW := hide (awake_any (he.below D0).er7)
  have HC1 := hide (fun (w' : World) (D : Below w.heap.size w w') => rdue_any ⟨pt, b, r, m, st, im, rd⟩ fa fn fc F him (hF.below D))
  have HC2 := hide (fun (w' : World) (D : Below w.heap.size w w') => rround_any ⟨pt, b, r, m, st, im, rd⟩ fa fn fc F tr him (hF.below D) htr)
  have HC3 := hide (fun (w' : World) (D : Below w.heap.size w w') => rack_any pt b r m st im rd fa fn fc F k pt2 b2 r2 m2 st2 ix tt2 sm d him (hF.below D) hd h1 h2)
  have HC4 := hide (fun (w' : World) (D : Below w.heap.size w w') => rarrived_any ⟨pt, b, r, m, st, im, rd⟩ fa fn fc F him (hF.below D))
  have HC5 := hide (fun (w' : World) => rgood_any (w := w') ⟨pt, b, r, m, st, im, rd⟩ fa fn fc him)
  have HP1 := hide (fun (w' : World) (D : Below w.heap.size w w') => xgood_any ⟨pt, b, r, m, st, im, rd⟩ fa fn fc (he.below D).er7 him)
  have HP2 := hide (fun (w' : World) (D : Below w.heap.size w w') => due_any ⟨pt, b, r, m, st, im, rd⟩ fa fn fc F (he.below D).er7 him (hF.below D))
  have HP3 := hide (fun (w' : World) (D : Below w.heap.size w w') => round_any ⟨pt, b, r, m, st, im, rd⟩ fa fn fc F tr (he.below D).er7 him (hF.below D) htr hrd)
  have HP4 := hide (fun (w' : World) (D : Below w.heap.size w w') => ack_any pt b r m st im rd fa fn fc F k pt2 b2 r2 m2 st2 ix tt2 sm d (he.below D).er7 him (hF.below D) hd h1 h2)
  have HP5 := hide (fun (w' : World) (D : Below w.heap.size w w') => arrived_any ⟨pt, b, r, m, st, im, rd⟩ fa fn fc F (he.below D).er7 him (hF.below D))
  have HTO := hide (fun (w' : World) => to_any ⟨pt, b, r, m, st, im, rd⟩ fa fn fc w')
  have HQ1 := hide (fun (w' : World) (D : Below w.heap.size w w') => plain_any (he.below D) (pieE ⟨pt, b, r, m, st, im, rd⟩ fn) (pieE_le _ _))
  have HQ2 := hide (fun (w' : World) (D : Below w.heap.size w w') => plain_any (he.below D) (ackE ⟨pt, b, r, m, st, im, rd⟩ fn ⟨k, pt2, b2, r2, m2, st2, ix, tt2, sm, d⟩) (ackE_le _ _ _))
  have HFR1 := hide (fun (a : Option Addr) (n c : Nat) (w' : World) => from_any (rndS ⟨pt, b, r, m, st, im, rd⟩ fn tr) a n c w')
  have HFR2 := hide (fun (a : Option Addr) (n c : Nat) (w' : World) => from_any (ackS ⟨pt, b, r, m, st, im, rd⟩ fn ⟨k, pt2, b2, r2, m2, st2, ix, tt2, sm, d⟩) a n c w')
  have HSM1 := hide (fun (w' : World) (a a' : Option Addr) (n c c' : Nat) (h1 : Fls w' a n c (rndA ⟨pt, b, r, m, st, im, rd⟩ F)) (h2 : Fls w' a' n c' (rndA ⟨pt, b, r, m, st, im, rd⟩ F)) (h3 : n ≤ 4611686018427387904) => rsame_any (rndS ⟨pt, b, r, m, st, im, rd⟩ fn tr) a a' n c c' _ h1 h2 h3)
  have HSM2 := hide (fun (w' : World) (a a' : Option Addr) (n c c' : Nat) (h1 : Fls w' a n c (ackA ⟨pt, b, r, m, st, im, rd⟩ F ⟨k, pt2, b2, r2, m2, st2, ix, tt2, sm, d⟩)) (h2 : Fls w' a' n c' (ackA ⟨pt, b, r, m, st, im, rd⟩ F ⟨k, pt2, b2, r2, m2, st2, ix, tt2, sm, d⟩)) (h3 : n ≤ 4611686018427387904) => rsame_any (ackS ⟨pt, b, r, m, st, im, rd⟩ fn ⟨k, pt2, b2, r2, m2, st2, ix, tt2, sm, d⟩) a a' n c c' _ h1 h2 h3)
  have HSN := hide (fun (w' : World) (a a' : Option Addr) (n c c' : Nat) (N : List Nt) (h1 : Nts w' a n c N) (h2 : Nts w' a' n c' N) (h3 : n ≤ 4294967296) => rsameNotes_any a a' n c c' N h1 h2 h3)
  have HL1 : Hid ((dueL ⟨pt, b, r, m, st, im, rd⟩ F).length ≤ 4294967296) := dueL_le
  have HL2 : Hid ((rndN ⟨pt, b, r, m, st, im, rd⟩ F tr).length ≤ 4294967296) := rndN_le
  have HL3 : Hid ((rndA ⟨pt, b, r, m, st, im, rd⟩ F).length ≤ 4611686018427387904) := rndA_le
  have HL4 : Hid ((ackA ⟨pt, b, r, m, st, im, rd⟩ F ⟨k, pt2, b2, r2, m2, st2, ix, tt2, sm, d⟩).length ≤ 4611686018427387904) := ackA_le
  obtain ⟨P, hP⟩ : ∃ P, pieE ⟨pt, b, r, m, st, im, rd⟩ fn = P := ⟨_, rfl⟩
  obtain ⟨DL, hDL⟩ : ∃ X, dueL ⟨pt, b, r, m, st, im, rd⟩ F = X := ⟨_, rfl⟩
  obtain ⟨XS, hXS⟩ : ∃ X, rndS ⟨pt, b, r, m, st, im, rd⟩ fn tr = X := ⟨_, rfl⟩
  obtain ⟨XA, hXA⟩ : ∃ X, rndA ⟨pt, b, r, m, st, im, rd⟩ F = X := ⟨_, rfl⟩
  obtain ⟨XN, hXN⟩ : ∃ X, rndN ⟨pt, b, r, m, st, im, rd⟩ F tr = X := ⟨_, rfl⟩
  obtain ⟨XK, hXK⟩ : ∃ X, rndK ⟨pt, b, r, m, st, im, rd⟩ fn tr = X := ⟨_, rfl⟩
  obtain ⟨AE, hAE⟩ : ∃ X, ackE ⟨pt, b, r, m, st, im, rd⟩ fn ⟨k, pt2, b2, r2, m2, st2, ix, tt2, sm, d⟩ = X := ⟨_, rfl⟩
  obtain ⟨AS, hAS⟩ : ∃ X, ackS ⟨pt, b, r, m, st, im, rd⟩ fn ⟨k, pt2, b2, r2, m2, st2, ix, tt2, sm, d⟩ = X := ⟨_, rfl⟩
  obtain ⟨AA, hAA⟩ : ∃ X, ackA ⟨pt, b, r, m, st, im, rd⟩ F ⟨k, pt2, b2, r2, m2, st2, ix, tt2, sm, d⟩ = X := ⟨_, rfl⟩
  obtain ⟨AF, hAF⟩ : ∃ X, ackF ⟨pt, b, r, m, st, im, rd⟩ F ⟨k, pt2, b2, r2, m2, st2, ix, tt2, sm, d⟩ = X := ⟨_, rfl⟩
  rw [hP] at HC1 HC2 HC4 HC5 HP1 HP2 HP3 HP5 HQ1
  rw [hDL] at HC1 HP2 HL1
  rw [hXS] at HC2 HP3 HFR1 HSM1
  rw [hXA] at HC2 HP3 HSM1 HL3
  rw [hXN] at HC2 HP3 HL2
  rw [hXK] at HC2 HP3
  rw [hAE] at HC3 HP4 HQ2
  rw [hAS] at HC3 HP4 HFR2 HSM2
  rw [hAA] at HC3 HP4 HSM2 HL4
  rw [hAF] at HC3 HP4
  obtain ⟨KP, hKP⟩ : ∃ X, erv E P = X := ⟨_, rfl⟩
  obtain ⟨KA, hKA⟩ : ∃ X, erv E AE = X := ⟨_, rfl⟩
  rw [hKP] at HP2 HP3 HP5 HQ1
  rw [hKA] at HP4 HQ2
  obtain ⟨GG, hGG⟩ : ∃ X, decide (P = 0) = X := ⟨_, rfl⟩
  obtain ⟨RR, hRR⟩ : ∃ X, (GG && !anyN F) = X := ⟨_, rfl⟩
  rw [hGG] at HC4 HC5 HP1 HP5
  rw [hRR] at HC4 HP5
  obtain ⟨s1, s2, s3, s4, s5, s6, s7⟩ := XS
  obtain ⟨a1, a2, a3, a4, a5, a6, a7⟩ := AS
  unfold Sd.cells at HC1 HC2 HC3 HC4 HC5 HP1 HP2 HP3 HP4 HP5 HTO HFR1 HFR2 HSM1 HSM2
  simp only at HC1 HC2 HC3 HC4 HC5 HP1 HP2 HP3 HP4 HP5 HTO HFR1 HFR2 HSM1 HSM2
  obtain ⟨p, hp⟩ : ∃ p, w.heap.size = p := ⟨_, rfl⟩
  have HPP := hide hp
  rw [hp] at HB0
  clear B0 D0 hW he hF him hd h1 h2 htr hrd hP hDL hXS hXA hXN hXK hAE hAS hAA hAF hKP hKA hGG hRR hFs hp
  go_enter Tryd.func3, Tryd.ntmps3
  go_upto_region 1 with fail
  have hW := HWD.out
  have hp := HPP.out
  simp only [hW, hp]
  clear hW HWD hp
  go_wp2_with fail
  refine Calls.mono HAW.out ?_
  rintro e w1 ⟨rfl, b1⟩
  replace HB0 := hide (HB0.out.below b1)
  replace HD := hide (chain HD.out b1)
  clear b1 HAW
  go_upto_region 3 with fail
  have g0 := HB0.out.cell 0 rfl
  have g1 := HB0.out.cell 1 rfl
  have g2 := HB0.out.cell 2 rfl
  have g3 := HB0.out.cell 3 rfl
  have g4 := HB0.out.cell 4 rfl
  have g5 := HB0.out.cell 5 rfl
  have g6 := HB0.out.cell 6 rfl
  have g7 := HB0.out.cell 7 rfl
  go_wp2_with fail
  refine Calls.mono (HC1.out w1 HD.out) ?_
  rintro e w2 ⟨v, rfl, o2, b2⟩
  obtain ⟨na, nc, rfl, -⟩ := o2.rcs
  obtain ⟨dn, hdn⟩ : ∃ n, DL.length = n := ⟨_, rfl⟩
  rw [hdn] at o2 HL1 ⊢
  have HDN := hide hdn
  have HO1 := hide o2
  replace HB0 := hide (HB0.out.below b2)
  replace HD := hide (chain HD.out b2)
  clear b2 o2 HC1 hdn g0 g1 g2 g3 g4 g5 g6 g7
  go_upto_region 4 with fail
  have g0 := HB0.out.cell 0 rfl
  have g1 := HB0.out.cell 1 rfl
  have g2 := HB0.out.cell 2 rfl
  have g3 := HB0.out.cell 3 rfl
  have g4 := HB0.out.cell 4 rfl
  have g5 := HB0.out.cell 5 rfl
  have g6 := HB0.out.cell 6 rfl
  have g7 := HB0.out.cell 7 rfl
  have g26 := HB0.out.cell 26 rfl
  go_wp2_with fail
  refine Calls.mono (HC2.out w2 HD.out) ?_
  rintro e w3 ⟨v, u, rfl, o3, q3, b3⟩
  obtain ⟨vb, vd, rfl, -⟩ := o3.rcs
  obtain ⟨ub, ud, rfl, -⟩ := q3.rcs
  obtain ⟨rn, hrn⟩ : ∃ n, XA.length = n := ⟨_, rfl⟩
  obtain ⟨un, hun⟩ : ∃ n, XN.length = n := ⟨_, rfl⟩
  rw [hrn] at o3 HL3 ⊢
  rw [hun] at q3 HL2 ⊢
  have HRN := hide hrn
  have HUN := hide hun
  obtain ⟨W4, hW4, B4, D4⟩ := box1 w3 [.int .i64 s1, .int .i64 s2, .int .i64 s3, .int .i64 s4, .int .i64 s5, .string s6, .slice vb rn vd, .int .i64 s7] 26
  obtain ⟨h5, hh5⟩ : ∃ h, w3.heap.size = h := ⟨_, rfl⟩
  rw [hh5] at B4
  have HW4 := hide hW4
  have HHE := hide hh5
  have HV2 := hide (o3.below D4)
  have HU2 := hide (q3.below D4)
  have HH5 := hide B4
  have BB := chain b3 D4
  replace HB0 := hide (HB0.out.below BB)
  replace HO1 := hide (HO1.out.below BB)
  replace HD := hide (chain HD.out BB)
  clear b3 o3 q3 D4 B4 hW4 hh5 hrn hun BB HC2 g0 g1 g2 g3 g4 g5 g6 g7 g26
  go_upto_region 5 with fail
  have hW4 := HW4.out
  have hh5 := HHE.out
  simp only [hW4, hh5]
  clear HW4 HHE hW4 hh5
  have g0 := HB0.out.cell 0 rfl
  have g1 := HB0.out.cell 1 rfl
  have g2 := HB0.out.cell 2 rfl
  have g3 := HB0.out.cell 3 rfl
  have g4 := HB0.out.cell 4 rfl
  have g5 := HB0.out.cell 5 rfl
  have g6 := HB0.out.cell 6 rfl
  have g7 := HB0.out.cell 7 rfl
  have g16 := HB0.out.cell 16 rfl
  have g17 := HB0.out.cell 17 rfl
  have g18 := HB0.out.cell 18 rfl
  have g19 := HB0.out.cell 19 rfl
  have g20 := HB0.out.cell 20 rfl
  have g21 := HB0.out.cell 21 rfl
  have g22 := HB0.out.cell 22 rfl
  have g23 := HB0.out.cell 23 rfl
  have g24 := HB0.out.cell 24 rfl
  have g25 := HB0.out.cell 25 rfl
  go_wp2_with fail
  refine Calls.mono (HC3.out W4 HD.out) ?_
  rintro e w5 ⟨v, rfl, o5, b5⟩
  obtain ⟨xb, xd, rfl, -⟩ := o5.rcs
  obtain ⟨an, han⟩ : ∃ n, AA.length = n := ⟨_, rfl⟩
  rw [han] at o5 HL4 ⊢
  have HAN := hide han
  obtain ⟨W6, hW6, B6, D6⟩ := box1 w5 [.int .i64 a1, .int .i64 a2, .int .i64 a3, .int .i64 a4, .int .i64 a5, .string a6, .slice xb an xd, .int .i64 a7] 26
  obtain ⟨h9, hh9⟩ : ∃ h, w5.heap.size = h := ⟨_, rfl⟩
  rw [hh9] at B6
  have HW6 := hide hW6
  have HHE := hide hh9
  have HV3 := hide (o5.below D6)
  have HVB : Hid (p ≤ W4.heap.size) := Nat.le_of_lt HB0.out.lt
  have HH9 := hide B6
  have BB := chain b5 D6
  replace HB0 := hide (HB0.out.below BB)
  replace HO1 := hide (HO1.out.below BB)
  replace HV2 := hide (HV2.out.below BB)
  replace HU2 := hide (HU2.out.below BB)
  replace HH5 := hide (HH5.out.below BB)
  replace HD := hide (chain HD.out BB)
  clear b5 o5 D6 B6 hW6 hh9 han BB HC3 g0 g1 g2 g3 g4 g5 g6 g7 g16 g17 g18 g19 g20 g21 g22 g23 g24 g25
  go_upto_region 6 with fail
  have hW6 := HW6.out
  have hh9 := HHE.out
  simp only [hW6, hh9]
  clear HW6 HHE hW6 hh9
  have g0 := HB0.out.cell 0 rfl
  have g1 := HB0.out.cell 1 rfl
  have g2 := HB0.out.cell 2 rfl
  have g3 := HB0.out.cell 3 rfl
  have g4 := HB0.out.cell 4 rfl
  have g5 := HB0.out.cell 5 rfl
  have g6 := HB0.out.cell 6 rfl
  have g7 := HB0.out.cell 7 rfl
  go_wp2_with fail
  refine Calls.mono (HC4.out W6 HD.out) ?_
  rintro e w7 ⟨rfl, b7⟩
  replace HB0 := hide (HB0.out.below b7)
  replace HO1 := hide (HO1.out.below b7)
  replace HV2 := hide (HV2.out.below b7)
  replace HU2 := hide (HU2.out.below b7)
  replace HH5 := hide (HH5.out.below b7)
  replace HV3 := hide (HV3.out.below b7)
  replace HH9 := hide (HH9.out.below b7)
  replace HD := hide (chain HD.out b7)
  clear b7 HC4 g0 g1 g2 g3 g4 g5 g6 g7
  go_upto_region 7 with fail
  go_cut [58] from 51 to 58 (fun v wz => v = .bool false ∧ Hid (Below w7.heap.size w7 wz))
  case first =>
    have G0 := hide (HB0.out.below (Below.refl _ w7).drew)
    have DD := hide HD.out.drew
    have BD := hide ((Below.refl w7.heap.size w7).drew)
    cases GG with
    | true =>
      go_region_held3 (fun wz => wz.cell? ⟨p, 0, none⟩ = some (.int .i64 pt) ∧ wz.cell? ⟨p, 1, none⟩ = some (.int .i64 b) ∧ wz.cell? ⟨p, 2, none⟩ = some (.int .i64 r) ∧ wz.cell? ⟨p, 3, none⟩ = some (.int .i64 m) ∧ wz.cell? ⟨p, 4, none⟩ = some (.int .i64 st) ∧ wz.cell? ⟨p, 5, none⟩ = some (.string im) ∧ wz.cell? ⟨p, 6, none⟩ = some (.slice fa fn fc) ∧ wz.cell? ⟨p, 7, none⟩ = some (.int .i64 rd)) (first | exact held8c G0.out | exact held8c K0.out | exact held8c M0.out | exact held8c N0.out) (first | (go_at_call 15; refine Calls.mono (HTO.out _) ?_; rintro e v5 ⟨rfl, b5⟩; have D5 := hide (chain DD.out b5); have X5 := hide (chain BD.out b5); have K0 := hide (G0.out.below b5); clear b5) | (go_at_call 14; refine Calls.mono (HP1.out _ D5.out) ?_; rintro e v6 ⟨rfl, b6⟩; have X6 := hide (chain X5.out b6); have M0 := hide (K0.out.below b6); clear b6) | (go_at_call 16; refine Calls.mono (HC5.out _) ?_; rintro e v7 ⟨rfl, b7⟩; have X7 := hide (chain X6.out b7); have N0 := hide (M0.out.below b7); clear b7) | fail)
      go_wp2
      go_meet
      case rel => exact ⟨rfl, X7.out⟩
    | false =>
      go_region_held3 (fun wz => wz.cell? ⟨p, 0, none⟩ = some (.int .i64 pt) ∧ wz.cell? ⟨p, 1, none⟩ = some (.int .i64 b) ∧ wz.cell? ⟨p, 2, none⟩ = some (.int .i64 r) ∧ wz.cell? ⟨p, 3, none⟩ = some (.int .i64 m) ∧ wz.cell? ⟨p, 4, none⟩ = some (.int .i64 st) ∧ wz.cell? ⟨p, 5, none⟩ = some (.string im) ∧ wz.cell? ⟨p, 6, none⟩ = some (.slice fa fn fc) ∧ wz.cell? ⟨p, 7, none⟩ = some (.int .i64 rd)) (first | exact held8c G0.out | exact held8c K0.out | exact held8c M0.out | exact held8c N0.out) (first | (go_at_call 15; refine Calls.mono (HTO.out _) ?_; rintro e v5 ⟨rfl, b5⟩; have D5 := hide (chain DD.out b5); have X5 := hide (chain BD.out b5); have K0 := hide (G0.out.below b5); clear b5) | (go_at_call 14; refine Calls.mono (HP1.out _ D5.out) ?_; rintro e v6 ⟨rfl, b6⟩; have X6 := hide (chain X5.out b6); have M0 := hide (K0.out.below b6); clear b6) | (go_at_call 16; refine Calls.mono (HC5.out _) ?_; rintro e v7 ⟨rfl, b7⟩; have X7 := hide (chain X6.out b7); have N0 := hide (M0.out.below b7); clear b7) | fail)
      go_wp2
      go_meet
      case rel => exact ⟨rfl, X7.out⟩
  case rest =>
    obtain ⟨rfl, HBB⟩ := hcut
    obtain ⟨w8, hw8⟩ : ∃ z, z = wc := ⟨_, rfl⟩
    subst hw8
    replace HB0 := hide (HB0.out.below HBB.out)
    replace HO1 := hide (HO1.out.below HBB.out)
    replace HV2 := hide (HV2.out.below HBB.out)
    replace HU2 := hide (HU2.out.below HBB.out)
    replace HH5 := hide (HH5.out.below HBB.out)
    replace HV3 := hide (HV3.out.below HBB.out)
    replace HH9 := hide (HH9.out.below HBB.out)
    replace HD := hide (chain HD.out HBB.out)
    clear HBB HP1 HC5
    go_upto_region 9 with fail
    have g0 := HB0.out.cell 0 rfl
    have g1 := HB0.out.cell 1 rfl
    have g2 := HB0.out.cell 2 rfl
    have g3 := HB0.out.cell 3 rfl
    have g4 := HB0.out.cell 4 rfl
    have g5 := HB0.out.cell 5 rfl
    have g6 := HB0.out.cell 6 rfl
    have g7 := HB0.out.cell 7 rfl
    go_wp2_with fail
    refine Calls.mono (HTO.out w8) ?_
    rintro e w9 ⟨rfl, b9⟩
    replace HB0 := hide (HB0.out.below b9)
    replace HO1 := hide (HO1.out.below b9)
    replace HV2 := hide (HV2.out.below b9)
    replace HU2 := hide (HU2.out.below b9)
    replace HH5 := hide (HH5.out.below b9)
    replace HV3 := hide (HV3.out.below b9)
    replace HH9 := hide (HH9.out.below b9)
    replace HD := hide (chain HD.out b9)
    clear b9 g0 g1 g2 g3 g4 g5 g6 g7
    go_wp2_with fail
    refine Calls.mono (HP2.out w9 HD.out) ?_
    rintro e w10 ⟨v, rfl, o10, b10⟩
    obtain ⟨ma, mc, rfl, -⟩ := o10.rcs
    rw [HDN.out] at o10 ⊢
    have HO2 := hide o10
    replace HB0 := hide (HB0.out.below b10)
    replace HO1 := hide (HO1.out.below b10)
    replace HV2 := hide (HV2.out.below b10)
    replace HU2 := hide (HU2.out.below b10)
    replace HH5 := hide (HH5.out.below b10)
    replace HV3 := hide (HV3.out.below b10)
    replace HH9 := hide (HH9.out.below b10)
    replace HD := hide (chain HD.out b10)
    clear b10 o10 HP2
    go_upto_region 10 with fail
    go_wp2_with fail
    refine Calls.mono (HQ1.out w10 HD.out) ?_
    rintro e w11 ⟨rfl, b11⟩
    replace HB0 := hide (HB0.out.below b11)
    replace HO1 := hide (HO1.out.below b11)
    replace HV2 := hide (HV2.out.below b11)
    replace HU2 := hide (HU2.out.below b11)
    replace HH5 := hide (HH5.out.below b11)
    replace HV3 := hide (HV3.out.below b11)
    replace HH9 := hide (HH9.out.below b11)
    replace HO2 := hide (HO2.out.below b11)
    replace HD := hide (chain HD.out b11)
    clear b11
    go_wp2_with fail
    have R1 := HO2.out.rcs
    have R2 := HO1.out.rcs
    obtain ⟨y1, y2, e1, R1⟩ := R1
    obtain ⟨y3, y4, e2, R2⟩ := R2
    rw [HDN.out] at e1 e2 R1 R2
    injection e1 with e1a e1b e1c
    injection e2 with e2a e2b e2c
    subst e1a e1c e2a e2c
    refine Calls.mono (HSN.out w11 _ _ dn _ _ DL R1 R2 HL1.out) ?_
    rintro e w12 ⟨rfl, b12⟩
    replace HB0 := hide (HB0.out.below b12)
    replace HO1 := hide (HO1.out.below b12)
    replace HV2 := hide (HV2.out.below b12)
    replace HU2 := hide (HU2.out.below b12)
    replace HH5 := hide (HH5.out.below b12)
    replace HV3 := hide (HV3.out.below b12)
    replace HH9 := hide (HH9.out.below b12)
    replace HD := hide (chain HD.out b12)
    clear b12 R1 R2 e1b e2b HO2
    go_upto_region 12 with fail
    obtain ⟨wt, hwt⟩ : ∃ z, z = w12 := ⟨_, rfl⟩
    subst hwt
    go_cut [14, 15, 16, 17] from 76 to 86 (fun v14 v15 v16 v17 wz => ∃ va vc ua uc g, v14 = .slice ua un uc ∧ v15 = KP ∧ v16 = .pointer (some ⟨g, 0, none⟩) ∧ v17 = .bool XK ∧ Bk wz g [.int .i64 s1, .int .i64 s2, .int .i64 s3, .int .i64 s4, .int .i64 s5, .string s6, .slice va rn vc, .int .i64 s7] 48 ∧ FlOwn wz wt.heap.size (.slice va rn vc) XA ∧ NOwn wz wt.heap.size (.slice ua un uc) XN ∧ (wt.heap.size ≤ g ∧ (Value.slice va rn vc).ownBlock ≠ some g ∧ (Value.slice ua un uc).ownBlock ≠ some g) ∧ Below wt.heap.size wt wz)
    case first =>
      have HSB : Hid (∀ wz, Below wt.heap.size wt wz → wz.cell? ⟨p, 0, none⟩ = some (.int .i64 pt) ∧ wz.cell? ⟨p, 1, none⟩ = some (.int .i64 b) ∧ wz.cell? ⟨p, 2, none⟩ = some (.int .i64 r) ∧ wz.cell? ⟨p, 3, none⟩ = some (.int .i64 m) ∧ wz.cell? ⟨p, 4, none⟩ = some (.int .i64 st) ∧ wz.cell? ⟨p, 5, none⟩ = some (.string im) ∧ wz.cell? ⟨p, 6, none⟩ = some (.slice fa fn fc) ∧ wz.cell? ⟨p, 7, none⟩ = some (.int .i64 rd) ∧ wz.cell? ⟨p, 26, none⟩ = some (.int .i64 tr)) := fun wz h => held9c (HB0.out.below h)
      have HTOW : Hid (∀ wX, Below wt.heap.size wt wX → Calls Tryd.prog 15 #[.agg #[.int .i64 pt, .int .i64 b, .int .i64 r, .int .i64 m, .int .i64 st, .string im, .slice fa fn fc, .int .i64 rd]] wX fun e w' => e = .returned (.agg #[.int .i64 pt, .int .i64 b, .int .i64 r, .int .i64 m, .int .i64 st, .string im, .slice fa fn fc, .int .i64 rd]) ∧ Below wt.heap.size wt w' ∧ (∀ g cs t, Bk wX g cs t → Bk w' g cs t)) := fun wX hX => by
        refine Calls.mono (HTO.out wX) ?_
        rintro e w' ⟨rfl, hb⟩
        exact ⟨rfl, chain hX hb, fun g cs t hk => hk.below hb⟩
      have HRDW : Hid (∀ wX, Below wt.heap.size wt wX → Calls Tryd.prog 20 #[.agg #[.int .i64 pt, .int .i64 b, .int .i64 r, .int .i64 m, .int .i64 st, .string im, .slice fa fn fc, .int .i64 rd], .int .i64 tr] wX fun e w' => ∃ va vc ua uc, e = .returned (.tuple #[.agg #[.int .i64 s1, .int .i64 s2, .int .i64 s3, .int .i64 s4, .int .i64 s5, .string s6, .slice va rn vc, .int .i64 s7], .slice ua un uc, .bool XK, KP]) ∧ FlOwn w' wt.heap.size (.slice va rn vc) XA ∧ NOwn w' wt.heap.size (.slice ua un uc) XN ∧ (∀ j, (Value.slice va rn vc).ownBlock = some j → wX.heap.size ≤ j ∧ j < w'.heap.size) ∧ (∀ j, (Value.slice ua un uc).ownBlock = some j → wX.heap.size ≤ j ∧ j < w'.heap.size) ∧ Below wt.heap.size wt w' ∧ (∀ g cs t, Bk wX g cs t → Bk w' g cs t)) := fun wX hX => by
        refine Calls.mono (HP3.out wX (chain HD.out hX)) ?_
        rintro e w' ⟨v, u, rfl, ho, hu, hb⟩
        obtain ⟨va, vc, rfl, -⟩ := ho.rcs
        obtain ⟨ua, uc, rfl, -⟩ := hu.rcs
        rw [HRN.out] at ho ⊢
        rw [HUN.out] at hu ⊢
        exact ⟨va, vc, ua, uc, rfl, ho.weaken hX.size, hu.weaken hX.size, fun j e => World.ownsRow.lt ho j e, fun j e => World.ownsRow.lt hu j e, chain hX hb, fun g cs t hk => hk.below hb⟩
      have N1 : Hid (Bk (wt.alloc (.cells #[.int .i64 0, .int .i64 0, .int .i64 0, .int .i64 0, .int .i64 0, .string ⟨#[]⟩, .slice none 0 0, .int .i64 0] 48)).drew wt.heap.size [.int .i64 0, .int .i64 0, .int .i64 0, .int .i64 0, .int .i64 0, .string ⟨#[]⟩, .slice none 0 0, .int .i64 0] 48) := Bk.below (Bk.new wt [.int .i64 0, .int .i64 0, .int .i64 0, .int .i64 0, .int .i64 0, .string ⟨#[]⟩, .slice none 0 0, .int .i64 0] 48) (Below.refl _ _).drew
      refine wp_region_held_drew (S := fun wz => wz.cell? ⟨p, 0, none⟩ = some (.int .i64 pt) ∧ wz.cell? ⟨p, 1, none⟩ = some (.int .i64 b) ∧ wz.cell? ⟨p, 2, none⟩ = some (.int .i64 r) ∧ wz.cell? ⟨p, 3, none⟩ = some (.int .i64 m) ∧ wz.cell? ⟨p, 4, none⟩ = some (.int .i64 st) ∧ wz.cell? ⟨p, 5, none⟩ = some (.string im) ∧ wz.cell? ⟨p, 6, none⟩ = some (.slice fa fn fc) ∧ wz.cell? ⟨p, 7, none⟩ = some (.int .i64 rd) ∧ wz.cell? ⟨p, 26, none⟩ = some (.int .i64 tr)) (by kernel_rfl) (HSB.out _ (Below.refl _ _).drew) (fun hHeld => ?_)
      refine wpAnyH_take (i := 0) (oi := { dst := some 77, op := Go.Op.fieldAddr 36 (Go.Operand.tmp 1) 0, type := 0, pos := "law.go:87", after := #[], guard := none }) (v := ?_) rfl (by kernel_rfl) (by kernel_rfl) (by kernel_rfl) (fun _ _ _ h => h) (Or.inl ⟨by rfl, ?_⟩) (by assumption) ?_
      rotate_left
      · intro w hSw
        obtain ⟨q0, q1, q2, q3, q4, q5, q6, q7, q8⟩ := hSw
        go_simp
        try with_reducible rfl
      simp only [Act.put, List.setIfInBounds_toArray, List.set_cons_zero, List.set_cons_succ]
      refine wpAnyH_take (i := 1) (oi := { dst := some 78, op := Go.Op.load 26 (Go.Operand.tmp 77), type := 26, pos := "law.go:87", after := #[{ on := 0, ground := Go.Ground.data }], guard := none }) (v := ?_) rfl (by kernel_rfl) (by kernel_rfl) (by kernel_rfl) (fun _ _ _ h => h) (Or.inl ⟨by rfl, ?_⟩) (by assumption) ?_
      rotate_left
      · intro w hSw
        obtain ⟨q0, q1, q2, q3, q4, q5, q6, q7, q8⟩ := hSw
        go_simp
        try with_reducible rfl
      simp only [Act.put, List.setIfInBounds_toArray, List.set_cons_zero, List.set_cons_succ]
      refine wpAnyH_take (i := 3) (oi := { dst := some 80, op := Go.Op.fieldAddr 36 (Go.Operand.tmp 1) 3, type := 0, pos := "law.go:87", after := #[], guard := none }) (v := ?_) rfl (by kernel_rfl) (by kernel_rfl) (by kernel_rfl) (fun _ _ _ h => h) (Or.inl ⟨by rfl, ?_⟩) (by assumption) ?_
      rotate_left
      · intro w hSw
        obtain ⟨q0, q1, q2, q3, q4, q5, q6, q7, q8⟩ := hSw
        go_simp
        try with_reducible rfl
      simp only [Act.put, List.setIfInBounds_toArray, List.set_cons_zero, List.set_cons_succ]
      refine wpAnyH_take (i := 4) (oi := { dst := some 81, op := Go.Op.load 3 (Go.Operand.tmp 80), type := 3, pos := "law.go:87", after := #[{ on := 3, ground := Go.Ground.data }], guard := none }) (v := ?_) rfl (by kernel_rfl) (by kernel_rfl) (by kernel_rfl) (fun _ _ _ h => h) (Or.inl ⟨by rfl, ?_⟩) (by assumption) ?_
      rotate_left
      · intro w hSw
        obtain ⟨q0, q1, q2, q3, q4, q5, q6, q7, q8⟩ := hSw
        go_simp
        try with_reducible rfl
      simp only [Act.put, List.setIfInBounds_toArray, List.set_cons_zero, List.set_cons_succ]
      refine by_key3 (fun va vc ua uc g wz => Bk wz g [.int .i64 0, .int .i64 0, .int .i64 0, .int .i64 0, .int .i64 0, .string ⟨#[]⟩, .slice none 0 0, .int .i64 0] 48 ∧ FlOwn wz wt.heap.size (.slice va rn vc) XA ∧ NOwn wz wt.heap.size (.slice ua un uc) XN ∧ (Value.slice va rn vc).ownBlock ≠ some g ∧ (Value.slice ua un uc).ownBlock ≠ some g ∧ wt.heap.size ≤ g ∧ Below wt.heap.size wt wz) (fun (a : Act) (va : Option Addr) (vc : Nat) (ua : Option Addr) (uc g : Nat) => (((((((a.put (some 79) (.agg #[.int .i64 pt, .int .i64 b, .int .i64 r, .int .i64 m, .int .i64 st, .string im, .slice fa fn fc, .int .i64 rd])).put (some 82) (.tuple #[.agg #[.int .i64 s1, .int .i64 s2, .int .i64 s3, .int .i64 s4, .int .i64 s5, .string s6, .slice va rn vc, .int .i64 s7], .slice ua un uc, .bool XK, KP])).put (some 76) (.tuple #[.agg #[.int .i64 s1, .int .i64 s2, .int .i64 s3, .int .i64 s4, .int .i64 s5, .string s6, .slice va rn vc, .int .i64 s7], .slice ua un uc, .bool XK, KP])).put (some 83) (.agg #[.int .i64 s1, .int .i64 s2, .int .i64 s3, .int .i64 s4, .int .i64 s5, .string s6, .slice va rn vc, .int .i64 s7])).put (some 84) (.slice ua un uc)).put (some 85) (.bool XK)).put (some 86) KP).put (some 16) (.pointer (some ⟨g, 0, none⟩))) #[true, true, true, true, true, true, true, true, true, true, true, true, false, false, false, false] 4 ?_ ?_
      · intro key0
        simp only [Act.put, List.setIfInBounds_toArray, List.set_cons_zero, List.set_cons_succ] at key0
        have KY := hide key0
        clear key0
        refine wpAnyH_ready (rs := [2, 11]) (by kernel_rfl) (by simp) ?_
        refine AllReadyH.cons (o := { dst := some 79, op := Go.Op.call { callee := Go.Callee.value (Go.Operand.func 15), args := #[Go.Operand.tmp 78], argTypes := #[26] }, type := 48, pos := "law.go:87", after := #[{ on := 1, ground := Go.Ground.data }], guard := none }) rfl (fun K hK => ?_) ?_
        · go_simp
          go_at_call 15
          with_reducible refine Calls.mono (HTOW.out _ (by repeat (first | with_reducible exact Below.refl _ _ | with_reducible refine Below.drew ?_ | with_reducible refine bel_al ?_ _))) ?_
          rintro e w5 ⟨rfl, b5, pc5⟩
          have Y5 := hide b5
          have PC := hide pc5
          clear b5 pc5
          try dsimp only
          refine hK.out _ _ (HSB.out _ (by repeat (first | with_reducible exact Below.refl _ _ | with_reducible exact Y5.out | with_reducible refine Below.drew ?_ | with_reducible refine bel_al ?_ _))) (fun hHeld2 => ?_)
          clear hK K
          try simp only [Act.put, List.setIfInBounds_toArray, List.set_cons_zero, List.set_cons_succ]
          refine wpAnyH_ready (rs := [5, 11]) (by kernel_rfl) (by simp) ?_
          refine AllReadyH.cons (o := { dst := some 82, op := Go.Op.call { callee := Go.Callee.value (Go.Operand.func 20), args := #[Go.Operand.tmp 79, Go.Operand.tmp 81], argTypes := #[48, 3] }, type := 57, pos := "law.go:87", after := #[{ on := 2, ground := Go.Ground.data }, { on := 4, ground := Go.Ground.data }, { on := 2, ground := Go.Ground.chain }], guard := none }) rfl (fun K hK => ?_) ?_
          · go_simp
            go_at_call 20
            with_reducible refine Calls.mono (HRDW.out _ (by repeat (first | with_reducible exact Below.refl _ _ | with_reducible exact Y5.out | with_reducible refine Below.drew ?_ | with_reducible refine bel_al ?_ _))) ?_
            rintro e w7 ⟨va, vc, ua, uc, rfl, o7, p7, l7, l8, b7, pb7⟩
            have Q7 := hide o7
            have U7 := hide p7
            have L7 := hide l7
            have L8 := hide l8
            have Y7 := hide b7
            have PB := hide pb7
            clear o7 p7 l7 l8 b7 pb7
            try dsimp only
            refine hK.out _ _ (HSB.out _ (by repeat (first | with_reducible exact Below.refl _ _ | with_reducible exact Y7.out | with_reducible refine Below.drew ?_ | with_reducible refine bel_al ?_ _))) (fun hHeld2 => ?_)
            clear hK K
            try simp only [Act.put, List.setIfInBounds_toArray, List.set_cons_zero, List.set_cons_succ]
            refine wpAnyH_take (i := 6) (oi := { dst := some 76, op := Go.Op.move (Go.Operand.tmp 82), type := 57, pos := "law.go:87", after := #[{ on := 5, ground := Go.Ground.data }], guard := none }) (v := ?_) rfl (by kernel_rfl) (by kernel_rfl) (by kernel_rfl) (fun _ _ _ h => h) (Or.inl ⟨by rfl, ?_⟩) (by assumption) ?_
            rotate_left
            · intro w hSw
              obtain ⟨q0, q1, q2, q3, q4, q5, q6, q7, q8⟩ := hSw
              go_simp
              try with_reducible rfl
            simp only [Act.put, List.setIfInBounds_toArray, List.set_cons_zero, List.set_cons_succ]
            refine wpAnyH_take (i := 7) (oi := { dst := some 83, op := Go.Op.extract (Go.Operand.tmp 76) 0, type := 48, pos := "law.go:87", after := #[{ on := 6, ground := Go.Ground.data }], guard := none }) (v := ?_) rfl (by kernel_rfl) (by kernel_rfl) (by kernel_rfl) (fun _ _ _ h => h) (Or.inl ⟨by rfl, ?_⟩) (by assumption) ?_
            rotate_left
            · intro w hSw
              obtain ⟨q0, q1, q2, q3, q4, q5, q6, q7, q8⟩ := hSw
              go_simp
              try with_reducible rfl
            simp only [Act.put, List.setIfInBounds_toArray, List.set_cons_zero, List.set_cons_succ]
            refine wpAnyH_take (i := 8) (oi := { dst := some 84, op := Go.Op.extract (Go.Operand.tmp 76) 1, type := 38, pos := "law.go:87", after := #[{ on := 6, ground := Go.Ground.data }, { on := 12, ground := Go.Ground.gcOnly Go.Departure.lateStores }], guard := none }) (v := ?_) rfl (by kernel_rfl) (by kernel_rfl) (by kernel_rfl) (fun _ _ _ h => h) (Or.inl ⟨by rfl, ?_⟩) (by assumption) ?_
            rotate_left
            · intro w hSw
              obtain ⟨q0, q1, q2, q3, q4, q5, q6, q7, q8⟩ := hSw
              go_simp
              try with_reducible rfl
            simp only [Act.put, List.setIfInBounds_toArray, List.set_cons_zero, List.set_cons_succ]
            refine wpAnyH_take (i := 9) (oi := { dst := some 85, op := Go.Op.extract (Go.Operand.tmp 76) 2, type := 4, pos := "law.go:87", after := #[{ on := 6, ground := Go.Ground.data }, { on := 13, ground := Go.Ground.gcOnly Go.Departure.lateStores }], guard := none }) (v := ?_) rfl (by kernel_rfl) (by kernel_rfl) (by kernel_rfl) (fun _ _ _ h => h) (Or.inl ⟨by rfl, ?_⟩) (by assumption) ?_
            rotate_left
            · intro w hSw
              obtain ⟨q0, q1, q2, q3, q4, q5, q6, q7, q8⟩ := hSw
              go_simp
              try with_reducible rfl
            simp only [Act.put, List.setIfInBounds_toArray, List.set_cons_zero, List.set_cons_succ]
            refine wpAnyH_take (i := 10) (oi := { dst := some 86, op := Go.Op.extract (Go.Operand.tmp 76) 3, type := 52, pos := "law.go:87", after := #[{ on := 6, ground := Go.Ground.data }, { on := 14, ground := Go.Ground.gcOnly Go.Departure.lateStores }], guard := none }) (v := ?_) rfl (by kernel_rfl) (by kernel_rfl) (by kernel_rfl) (fun _ _ _ h => h) (Or.inl ⟨by rfl, ?_⟩) (by assumption) ?_
            rotate_left
            · intro w hSw
              obtain ⟨q0, q1, q2, q3, q4, q5, q6, q7, q8⟩ := hSw
              go_simp
              try with_reducible rfl
            simp only [Act.put, List.setIfInBounds_toArray, List.set_cons_zero, List.set_cons_succ]
            refine wpAnyH_ready (rs := [11]) (by kernel_rfl) (by simp) ?_
            refine AllReadyH.cons (o := { dst := some 16, op := Go.Op.alloc 48, type := 0, pos := "law.go:87", after := #[], guard := none }) rfl (fun K hK => ?_) ?_
            · go_simp
              refine hK.out _ _ (HSB.out _ (by repeat (first | with_reducible exact Below.refl _ _ | with_reducible exact Y7.out | with_reducible refine Below.drew ?_ | with_reducible refine bel_al ?_ _))) (fun hHeld2 => ?_)
              clear hK K
              try simp only [Act.put, List.setIfInBounds_toArray, List.set_cons_zero, List.set_cons_succ]
              refine wpAnyH_listed (show _ = #[true, true, true, true, true, true, true, true, true, true, true, true, false, false, false, false] by kernel_rfl) ?_
              have hb7 := Y7.out.size
              have hl7 := L7.out
              have hm7 := L8.out
              obtain ⟨W9, e9, M1, D9⟩ := box1 w7 [.int .i64 0, .int .i64 0, .int .i64 0, .int .i64 0, .int .i64 0, .string ⟨#[]⟩, .slice none 0 0, .int .i64 0] 48
              simp only [e9]
              exact KY.out va vc ua uc w7.heap.size W9 ⟨M1, Q7.out.below D9, U7.out.below D9, fun e => (by have := hl7 _ e; omega), fun e => (by have := hm7 _ e; omega), hb7, Y7.out.trans (D9.mono hb7)⟩
            exact AllReadyH.nil
          refine AllReadyH.cons (o := { dst := some 16, op := Go.Op.alloc 48, type := 0, pos := "law.go:87", after := #[], guard := none }) rfl (fun K hK => ?_) ?_
          · go_simp
            refine hK.out _ _ (HSB.out _ (by repeat (first | with_reducible exact Below.refl _ _ | with_reducible exact Y5.out | with_reducible refine Below.drew ?_ | with_reducible refine bel_al ?_ _))) (fun hHeld2 => ?_)
            clear hK K
            try simp only [Act.put, List.setIfInBounds_toArray, List.set_cons_zero, List.set_cons_succ]
            refine wpAnyH_ready (rs := [5]) (by kernel_rfl) (by simp) ?_
            refine AllReadyH.cons (o := { dst := some 82, op := Go.Op.call { callee := Go.Callee.value (Go.Operand.func 20), args := #[Go.Operand.tmp 79, Go.Operand.tmp 81], argTypes := #[48, 3] }, type := 57, pos := "law.go:87", after := #[{ on := 2, ground := Go.Ground.data }, { on := 4, ground := Go.Ground.data }, { on := 2, ground := Go.Ground.chain }], guard := none }) rfl (fun K hK => ?_) ?_
            · go_simp
              go_at_call 20
              with_reducible refine Calls.mono (HRDW.out _ (by repeat (first | with_reducible exact Below.refl _ _ | with_reducible exact Y5.out | with_reducible refine Below.drew ?_ | with_reducible refine bel_al ?_ _))) ?_
              rintro e w7 ⟨va, vc, ua, uc, rfl, o7, p7, l7, l8, b7, pb7⟩
              have Q7 := hide o7
              have U7 := hide p7
              have L7 := hide l7
              have L8 := hide l8
              have Y7 := hide b7
              have PB := hide pb7
              clear o7 p7 l7 l8 b7 pb7
              try dsimp only
              refine hK.out _ _ (HSB.out _ (by repeat (first | with_reducible exact Below.refl _ _ | with_reducible exact Y7.out | with_reducible refine Below.drew ?_ | with_reducible refine bel_al ?_ _))) (fun hHeld2 => ?_)
              clear hK K
              try simp only [Act.put, List.setIfInBounds_toArray, List.set_cons_zero, List.set_cons_succ]
              refine wpAnyH_take (i := 6) (oi := { dst := some 76, op := Go.Op.move (Go.Operand.tmp 82), type := 57, pos := "law.go:87", after := #[{ on := 5, ground := Go.Ground.data }], guard := none }) (v := ?_) rfl (by kernel_rfl) (by kernel_rfl) (by kernel_rfl) (fun _ _ _ h => h) (Or.inl ⟨by rfl, ?_⟩) (by assumption) ?_
              rotate_left
              · intro w hSw
                obtain ⟨q0, q1, q2, q3, q4, q5, q6, q7, q8⟩ := hSw
                go_simp
                try with_reducible rfl
              simp only [Act.put, List.setIfInBounds_toArray, List.set_cons_zero, List.set_cons_succ]
              refine wpAnyH_take (i := 7) (oi := { dst := some 83, op := Go.Op.extract (Go.Operand.tmp 76) 0, type := 48, pos := "law.go:87", after := #[{ on := 6, ground := Go.Ground.data }], guard := none }) (v := ?_) rfl (by kernel_rfl) (by kernel_rfl) (by kernel_rfl) (fun _ _ _ h => h) (Or.inl ⟨by rfl, ?_⟩) (by assumption) ?_
              rotate_left
              · intro w hSw
                obtain ⟨q0, q1, q2, q3, q4, q5, q6, q7, q8⟩ := hSw
                go_simp
                try with_reducible rfl
              simp only [Act.put, List.setIfInBounds_toArray, List.set_cons_zero, List.set_cons_succ]
              refine wpAnyH_take (i := 8) (oi := { dst := some 84, op := Go.Op.extract (Go.Operand.tmp 76) 1, type := 38, pos := "law.go:87", after := #[{ on := 6, ground := Go.Ground.data }, { on := 12, ground := Go.Ground.gcOnly Go.Departure.lateStores }], guard := none }) (v := ?_) rfl (by kernel_rfl) (by kernel_rfl) (by kernel_rfl) (fun _ _ _ h => h) (Or.inl ⟨by rfl, ?_⟩) (by assumption) ?_
              rotate_left
              · intro w hSw
                obtain ⟨q0, q1, q2, q3, q4, q5, q6, q7, q8⟩ := hSw
                go_simp
                try with_reducible rfl
              simp only [Act.put, List.setIfInBounds_toArray, List.set_cons_zero, List.set_cons_succ]
              refine wpAnyH_take (i := 9) (oi := { dst := some 85, op := Go.Op.extract (Go.Operand.tmp 76) 2, type := 4, pos := "law.go:87", after := #[{ on := 6, ground := Go.Ground.data }, { on := 13, ground := Go.Ground.gcOnly Go.Departure.lateStores }], guard := none }) (v := ?_) rfl (by kernel_rfl) (by kernel_rfl) (by kernel_rfl) (fun _ _ _ h => h) (Or.inl ⟨by rfl, ?_⟩) (by assumption) ?_
              rotate_left
              · intro w hSw
                obtain ⟨q0, q1, q2, q3, q4, q5, q6, q7, q8⟩ := hSw
                go_simp
                try with_reducible rfl
              simp only [Act.put, List.setIfInBounds_toArray, List.set_cons_zero, List.set_cons_succ]
              refine wpAnyH_take (i := 10) (oi := { dst := some 86, op := Go.Op.extract (Go.Operand.tmp 76) 3, type := 52, pos := "law.go:87", after := #[{ on := 6, ground := Go.Ground.data }, { on := 14, ground := Go.Ground.gcOnly Go.Departure.lateStores }], guard := none }) (v := ?_) rfl (by kernel_rfl) (by kernel_rfl) (by kernel_rfl) (fun _ _ _ h => h) (Or.inl ⟨by rfl, ?_⟩) (by assumption) ?_
              rotate_left
              · intro w hSw
                obtain ⟨q0, q1, q2, q3, q4, q5, q6, q7, q8⟩ := hSw
                go_simp
                try with_reducible rfl
              simp only [Act.put, List.setIfInBounds_toArray, List.set_cons_zero, List.set_cons_succ]
              refine wpAnyH_listed (show _ = #[true, true, true, true, true, true, true, true, true, true, true, true, false, false, false, false] by kernel_rfl) ?_
              have hb7 := Y7.out.size
              have hl7 := L7.out
              have hm7 := L8.out
              have hx : (w5.alloc (.cells #[.int .i64 0, .int .i64 0, .int .i64 0, .int .i64 0, .int .i64 0, .string ⟨#[]⟩, .slice none 0 0, .int .i64 0] 48)).heap.size = w5.heap.size + 1 := Array.size_push _
              rw [hx] at hl7 hm7
              have M0 := PB.out _ _ _ (Bk.new w5 [.int .i64 0, .int .i64 0, .int .i64 0, .int .i64 0, .int .i64 0, .string ⟨#[]⟩, .slice none 0 0, .int .i64 0] 48)
              have hb5 := Y5.out.size
              exact KY.out va vc ua uc w5.heap.size w7 ⟨M0, Q7.out, U7.out, fun e => (by have := hl7 _ e; omega), fun e => (by have := hm7 _ e; omega), hb5, Y7.out⟩
            exact AllReadyH.nil
          exact AllReadyH.nil
        refine AllReadyH.cons (o := { dst := some 16, op := Go.Op.alloc 48, type := 0, pos := "law.go:87", after := #[], guard := none }) rfl (fun K hK => ?_) ?_
        · go_simp
          refine hK.out _ _ (HSB.out _ (by repeat (first | with_reducible exact Below.refl _ _ | with_reducible refine Below.drew ?_ | with_reducible refine bel_al ?_ _))) (fun hHeld2 => ?_)
          clear hK K
          try simp only [Act.put, List.setIfInBounds_toArray, List.set_cons_zero, List.set_cons_succ]
          refine wpAnyH_ready (rs := [2]) (by kernel_rfl) (by simp) ?_
          refine AllReadyH.cons (o := { dst := some 79, op := Go.Op.call { callee := Go.Callee.value (Go.Operand.func 15), args := #[Go.Operand.tmp 78], argTypes := #[26] }, type := 48, pos := "law.go:87", after := #[{ on := 1, ground := Go.Ground.data }], guard := none }) rfl (fun K hK => ?_) ?_
          · go_simp
            go_at_call 15
            with_reducible refine Calls.mono (HTOW.out _ (by repeat (first | with_reducible exact Below.refl _ _ | with_reducible refine Below.drew ?_ | with_reducible refine bel_al ?_ _))) ?_
            rintro e w5 ⟨rfl, b5, pc5⟩
            have Y5 := hide b5
            have PC := hide pc5
            clear b5 pc5
            try dsimp only
            refine hK.out _ _ (HSB.out _ (by repeat (first | with_reducible exact Below.refl _ _ | with_reducible exact Y5.out | with_reducible refine Below.drew ?_ | with_reducible refine bel_al ?_ _))) (fun hHeld2 => ?_)
            clear hK K
            try simp only [Act.put, List.setIfInBounds_toArray, List.set_cons_zero, List.set_cons_succ]
            refine wpAnyH_ready (rs := [5]) (by kernel_rfl) (by simp) ?_
            refine AllReadyH.cons (o := { dst := some 82, op := Go.Op.call { callee := Go.Callee.value (Go.Operand.func 20), args := #[Go.Operand.tmp 79, Go.Operand.tmp 81], argTypes := #[48, 3] }, type := 57, pos := "law.go:87", after := #[{ on := 2, ground := Go.Ground.data }, { on := 4, ground := Go.Ground.data }, { on := 2, ground := Go.Ground.chain }], guard := none }) rfl (fun K hK => ?_) ?_
            · go_simp
              go_at_call 20
              with_reducible refine Calls.mono (HRDW.out _ (by repeat (first | with_reducible exact Below.refl _ _ | with_reducible exact Y5.out | with_reducible refine Below.drew ?_ | with_reducible refine bel_al ?_ _))) ?_
              rintro e w7 ⟨va, vc, ua, uc, rfl, o7, p7, l7, l8, b7, pb7⟩
              have Q7 := hide o7
              have U7 := hide p7
              have L7 := hide l7
              have L8 := hide l8
              have Y7 := hide b7
              have PB := hide pb7
              clear o7 p7 l7 l8 b7 pb7
              try dsimp only
              refine hK.out _ _ (HSB.out _ (by repeat (first | with_reducible exact Below.refl _ _ | with_reducible exact Y7.out | with_reducible refine Below.drew ?_ | with_reducible refine bel_al ?_ _))) (fun hHeld2 => ?_)
              clear hK K
              try simp only [Act.put, List.setIfInBounds_toArray, List.set_cons_zero, List.set_cons_succ]
              refine wpAnyH_take (i := 6) (oi := { dst := some 76, op := Go.Op.move (Go.Operand.tmp 82), type := 57, pos := "law.go:87", after := #[{ on := 5, ground := Go.Ground.data }], guard := none }) (v := ?_) rfl (by kernel_rfl) (by kernel_rfl) (by kernel_rfl) (fun _ _ _ h => h) (Or.inl ⟨by rfl, ?_⟩) (by assumption) ?_
              rotate_left
              · intro w hSw
                obtain ⟨q0, q1, q2, q3, q4, q5, q6, q7, q8⟩ := hSw
                go_simp
                try with_reducible rfl
              simp only [Act.put, List.setIfInBounds_toArray, List.set_cons_zero, List.set_cons_succ]
              refine wpAnyH_take (i := 7) (oi := { dst := some 83, op := Go.Op.extract (Go.Operand.tmp 76) 0, type := 48, pos := "law.go:87", after := #[{ on := 6, ground := Go.Ground.data }], guard := none }) (v := ?_) rfl (by kernel_rfl) (by kernel_rfl) (by kernel_rfl) (fun _ _ _ h => h) (Or.inl ⟨by rfl, ?_⟩) (by assumption) ?_
              rotate_left
              · intro w hSw
                obtain ⟨q0, q1, q2, q3, q4, q5, q6, q7, q8⟩ := hSw
                go_simp
                try with_reducible rfl
              simp only [Act.put, List.setIfInBounds_toArray, List.set_cons_zero, List.set_cons_succ]
              refine wpAnyH_take (i := 8) (oi := { dst := some 84, op := Go.Op.extract (Go.Operand.tmp 76) 1, type := 38, pos := "law.go:87", after := #[{ on := 6, ground := Go.Ground.data }, { on := 12, ground := Go.Ground.gcOnly Go.Departure.lateStores }], guard := none }) (v := ?_) rfl (by kernel_rfl) (by kernel_rfl) (by kernel_rfl) (fun _ _ _ h => h) (Or.inl ⟨by rfl, ?_⟩) (by assumption) ?_
              rotate_left
              · intro w hSw
                obtain ⟨q0, q1, q2, q3, q4, q5, q6, q7, q8⟩ := hSw
                go_simp
                try with_reducible rfl
              simp only [Act.put, List.setIfInBounds_toArray, List.set_cons_zero, List.set_cons_succ]
              refine wpAnyH_take (i := 9) (oi := { dst := some 85, op := Go.Op.extract (Go.Operand.tmp 76) 2, type := 4, pos := "law.go:87", after := #[{ on := 6, ground := Go.Ground.data }, { on := 13, ground := Go.Ground.gcOnly Go.Departure.lateStores }], guard := none }) (v := ?_) rfl (by kernel_rfl) (by kernel_rfl) (by kernel_rfl) (fun _ _ _ h => h) (Or.inl ⟨by rfl, ?_⟩) (by assumption) ?_
              rotate_left
              · intro w hSw
                obtain ⟨q0, q1, q2, q3, q4, q5, q6, q7, q8⟩ := hSw
                go_simp
                try with_reducible rfl
              simp only [Act.put, List.setIfInBounds_toArray, List.set_cons_zero, List.set_cons_succ]
              refine wpAnyH_take (i := 10) (oi := { dst := some 86, op := Go.Op.extract (Go.Operand.tmp 76) 3, type := 52, pos := "law.go:87", after := #[{ on := 6, ground := Go.Ground.data }, { on := 14, ground := Go.Ground.gcOnly Go.Departure.lateStores }], guard := none }) (v := ?_) rfl (by kernel_rfl) (by kernel_rfl) (by kernel_rfl) (fun _ _ _ h => h) (Or.inl ⟨by rfl, ?_⟩) (by assumption) ?_
              rotate_left
              · intro w hSw
                obtain ⟨q0, q1, q2, q3, q4, q5, q6, q7, q8⟩ := hSw
                go_simp
                try with_reducible rfl
              simp only [Act.put, List.setIfInBounds_toArray, List.set_cons_zero, List.set_cons_succ]
              refine wpAnyH_listed (show _ = #[true, true, true, true, true, true, true, true, true, true, true, true, false, false, false, false] by kernel_rfl) ?_
              have hb7 := Y7.out.size
              have hl7 := L7.out
              have hm7 := L8.out
              have M5 := PC.out _ _ _ N1.out
              have M0 := PB.out _ _ _ M5
              have h5 := M5.lt
              exact KY.out va vc ua uc wt.heap.size w7 ⟨M0, Q7.out, U7.out, fun e => (by have := hl7 _ e; omega), fun e => (by have := hm7 _ e; omega), Nat.le_refl _, Y7.out⟩
            exact AllReadyH.nil
          exact AllReadyH.nil
        exact AllReadyH.nil
      · --
        intro va vc ua uc g wz hF
        simp only [Act.put, List.setIfInBounds_toArray, List.set_cons_zero, List.set_cons_succ]
        obtain ⟨B16, hV, hU, ho1, ho2, hge, hBZ⟩ := hF
        have HB16 := hide B16
        have D12 := hide (below_sets hge [.int .i64 s1, .int .i64 s2, .int .i64 s3, .int .i64 s4, .int .i64 s5, .string s6, .slice va rn vc, .int .i64 s7] 0 hBZ)
        have S12 := hide (HSB.out (World.setCells wz g 0 [.int .i64 s1, .int .i64 s2, .int .i64 s3, .int .i64 s4, .int .i64 s5, .string s6, .slice va rn vc, .int .i64 s7]) D12.out)
        have K16 := hide (B16.sets [.int .i64 s1, .int .i64 s2, .int .i64 s3, .int .i64 s4, .int .i64 s5, .string s6, .slice va rn vc, .int .i64 s7] rfl)
        have KV := hide (LOwn.fars ho1 [.int .i64 s1, .int .i64 s2, .int .i64 s3, .int .i64 s4, .int .i64 s5, .string s6, .slice va rn vc, .int .i64 s7] 0 hV)
        have KU := hide (LOwn.fars ho2 [.int .i64 s1, .int .i64 s2, .int .i64 s3, .int .i64 s4, .int .i64 s5, .string s6, .slice va rn vc, .int .i64 s7] 0 hU)
        have HG := hide (And.intro hge (And.intro ho1 ho2))
        clear B16 hV hU ho1 ho2 hge hBZ
        have f0 := HB16.out.frozen 0
        have f1 := HB16.out.frozen 1
        have f2 := HB16.out.frozen 2
        have f3 := HB16.out.frozen 3
        have f4 := HB16.out.frozen 4
        have f5 := HB16.out.frozen 5
        have f6 := HB16.out.frozen 6
        have f7 := HB16.out.frozen 7
        have g0 := HB16.out.cell 0 rfl
        have g1 := HB16.out.cell 1 rfl
        have g2 := HB16.out.cell 2 rfl
        have g3 := HB16.out.cell 3 rfl
        have g4 := HB16.out.cell 4 rfl
        have g5 := HB16.out.cell 5 rfl
        have g6 := HB16.out.cell 6 rfl
        have g7 := HB16.out.cell 7 rfl
        refine wpAnyH_ready (rs := [12]) (by kernel_rfl) (by simp) ?_
        refine AllReadyH.cons (o := { dst := none, op := Go.Op.store 48 (Go.Operand.tmp 16) (Go.Operand.tmp 83), type := 0, pos := "law.go:87", after := #[{ on := 11, ground := Go.Ground.data }, { on := 7, ground := Go.Ground.data }, { on := 5, ground := Go.Ground.chain }, { on := 0, ground := Go.Ground.phase }, { on := 1, ground := Go.Ground.phase }, { on := 2, ground := Go.Ground.phase }, { on := 3, ground := Go.Ground.phase }, { on := 4, ground := Go.Ground.phase }, { on := 5, ground := Go.Ground.phase }, { on := 6, ground := Go.Ground.phase }, { on := 7, ground := Go.Ground.phase }, { on := 8, ground := Go.Ground.textOnly Go.Departure.lateStores }, { on := 9, ground := Go.Ground.textOnly Go.Departure.lateStores }, { on := 10, ground := Go.Ground.textOnly Go.Departure.lateStores }, { on := 11, ground := Go.Ground.phase }], guard := none }) rfl (fun K hK => ?_) AllReadyH.nil
        go_simp
        refine hK.out _ _ S12.out (fun hHeld2 => ?_)
        clear hK K
        refine wpAnyH_take (i := 13) (oi := { dst := some 14, op := Go.Op.assign (Go.Operand.tmp 84), type := 38, pos := "law.go:87", after := #[{ on := 8, ground := Go.Ground.data }, { on := 12, ground := Go.Ground.chain }, { on := 0, ground := Go.Ground.phase }, { on := 1, ground := Go.Ground.phase }, { on := 2, ground := Go.Ground.phase }, { on := 3, ground := Go.Ground.phase }, { on := 4, ground := Go.Ground.phase }, { on := 5, ground := Go.Ground.phase }, { on := 6, ground := Go.Ground.phase }, { on := 7, ground := Go.Ground.phase }, { on := 8, ground := Go.Ground.phase }, { on := 9, ground := Go.Ground.textOnly Go.Departure.lateStores }, { on := 10, ground := Go.Ground.textOnly Go.Departure.lateStores }, { on := 11, ground := Go.Ground.phase }, { on := 12, ground := Go.Ground.phase }], guard := none }) (v := ?_) rfl (by kernel_rfl) (by kernel_rfl) (by kernel_rfl) (fun _ _ _ h => h) (Or.inl ⟨by rfl, ?_⟩) (by assumption) ?_
        rotate_left
        · intro w hSw
          obtain ⟨q0, q1, q2, q3, q4, q5, q6, q7, q8⟩ := hSw
          go_simp
          try with_reducible rfl
        simp only [Act.put, List.setIfInBounds_toArray, List.set_cons_zero, List.set_cons_succ]
        refine wpAnyH_take (i := 14) (oi := { dst := some 17, op := Go.Op.assign (Go.Operand.tmp 85), type := 4, pos := "law.go:87", after := #[{ on := 9, ground := Go.Ground.data }, { on := 13, ground := Go.Ground.chain }, { on := 0, ground := Go.Ground.phase }, { on := 1, ground := Go.Ground.phase }, { on := 2, ground := Go.Ground.phase }, { on := 3, ground := Go.Ground.phase }, { on := 4, ground := Go.Ground.phase }, { on := 5, ground := Go.Ground.phase }, { on := 6, ground := Go.Ground.phase }, { on := 7, ground := Go.Ground.phase }, { on := 8, ground := Go.Ground.phase }, { on := 9, ground := Go.Ground.phase }, { on := 10, ground := Go.Ground.textOnly Go.Departure.lateStores }, { on := 11, ground := Go.Ground.phase }, { on := 12, ground := Go.Ground.phase }, { on := 13, ground := Go.Ground.phase }], guard := none }) (v := ?_) rfl (by kernel_rfl) (by kernel_rfl) (by kernel_rfl) (fun _ _ _ h => h) (Or.inl ⟨by rfl, ?_⟩) (by assumption) ?_
        rotate_left
        · intro w hSw
          obtain ⟨q0, q1, q2, q3, q4, q5, q6, q7, q8⟩ := hSw
          go_simp
          try with_reducible rfl
        simp only [Act.put, List.setIfInBounds_toArray, List.set_cons_zero, List.set_cons_succ]
        refine wpAnyH_take (i := 15) (oi := { dst := some 15, op := Go.Op.assign (Go.Operand.tmp 86), type := 52, pos := "law.go:87", after := #[{ on := 10, ground := Go.Ground.data }, { on := 14, ground := Go.Ground.chain }, { on := 0, ground := Go.Ground.phase }, { on := 1, ground := Go.Ground.phase }, { on := 2, ground := Go.Ground.phase }, { on := 3, ground := Go.Ground.phase }, { on := 4, ground := Go.Ground.phase }, { on := 5, ground := Go.Ground.phase }, { on := 6, ground := Go.Ground.phase }, { on := 7, ground := Go.Ground.phase }, { on := 8, ground := Go.Ground.phase }, { on := 9, ground := Go.Ground.phase }, { on := 10, ground := Go.Ground.phase }, { on := 11, ground := Go.Ground.phase }, { on := 12, ground := Go.Ground.phase }, { on := 13, ground := Go.Ground.phase }, { on := 14, ground := Go.Ground.phase }], guard := none }) (v := ?_) rfl (by kernel_rfl) (by kernel_rfl) (by kernel_rfl) (fun _ _ _ h => h) (Or.inl ⟨by rfl, ?_⟩) (by assumption) ?_
        rotate_left
        · intro w hSw
          obtain ⟨q0, q1, q2, q3, q4, q5, q6, q7, q8⟩ := hSw
          go_simp
          try with_reducible rfl
        simp only [Act.put, List.setIfInBounds_toArray, List.set_cons_zero, List.set_cons_succ]
        refine wpAnyH_done (by kernel_rfl) ?_ _
        clear hHeld2 f0 g0 f1 g1 f2 g2 f3 g3 f4 g4 f5 g5 f6 g6 f7 g7 S12
        go_wp2
        go_meet
        case rel => exact ⟨va, vc, ua, uc, g, rfl, rfl, rfl, rfl, K16.out, KV.out, KU.out, HG.out, D12.out⟩
    case rest =>
      obtain ⟨va, vc, ua, uc, g, rfl, rfl, rfl, rfl, k16, kV, kU, kG, kB⟩ := hcut
      obtain ⟨w13, hw13⟩ : ∃ z, z = wc := ⟨_, rfl⟩
      subst hw13
      have HK5 : Hid (h5 ≠ g ∧ h9 ≠ g ∧ p ≠ g) := by
        have q5 := HH5.out.lt
        have q9 := HH9.out.lt
        have qp := HB0.out.lt
        have qg := kG.1
        exact ⟨by omega, by omega, by omega⟩
      have HXG : Hid ((Value.slice xb an xd).ownBlock ≠ some g) := fun e => by
        have q1 := (World.ownsRow.lt HV3.out g e).2
        have qg := kG.1
        omega
      have HGW : Hid (w.heap.size ≤ g) := by
        have q1 := HD.out.size
        have qg := kG.1
        unfold Hid
        omega
      replace HV3 := hide (HV3.out.weaken HVB.out)
      replace HB0 := hide (HB0.out.below kB)
      replace HO1 := hide (HO1.out.below kB)
      replace HV2 := hide (HV2.out.below kB)
      replace HU2 := hide (HU2.out.below kB)
      replace HH5 := hide (HH5.out.below kB)
      replace HV3 := hide (HV3.out.below kB)
      replace HH9 := hide (HH9.out.below kB)
      replace HD := hide (chain HD.out kB)
      have HK := hide k16
      have HKV := hide kV
      have HKU := hide kU
      have HKG := hide kG
      clear k16 kV kU kG kB HP3
      go_upto_region 13 with fail
      go_cut [108] from 87 to 108 (fun v wz => v = .bool false ∧ Hid (Below w13.heap.size w13 wz))
      case first =>
        have G0 := hide (HK.out.below (Below.refl _ w13).drew)
        have G1 := hide (HH5.out.below (Below.refl _ w13).drew)
        have DD := hide HD.out.drew
        have BD := hide ((Below.refl w13.heap.size w13).drew)
        obtain ⟨y1, y2, e1, R1⟩ := HKV.out.rcs
        obtain ⟨y3, y4, e2, R2⟩ := HV2.out.rcs
        obtain ⟨y5, y6, e3, R3⟩ := HKU.out.rcs
        obtain ⟨y7, y8, e4, R4⟩ := HU2.out.rcs
        rw [HRN.out] at e1 e2 R1 R2
        rw [HUN.out] at e3 e4 R3 R4
        injection e1 with e1a e1b e1c
        injection e2 with e2a e2b e2c
        injection e3 with e3a e3b e3c
        injection e4 with e4a e4b e4c
        subst e1a e1c e2a e2c e3a e3c e4a e4c
        have FA := hide (R1.below BD.out)
        have FB := hide (R2.below BD.out)
        have FU := hide (R3.below BD.out)
        have FW := hide (R4.below BD.out)
        clear R1 R2 R3 R4 e1b e2b e3b e4b
        cases XK
        all_goals
          go_region_held3 (fun wz => wz.cell? ⟨g, 0, none⟩ = some (.int .i64 s1) ∧ wz.cell? ⟨g, 1, none⟩ = some (.int .i64 s2) ∧ wz.cell? ⟨g, 2, none⟩ = some (.int .i64 s3) ∧ wz.cell? ⟨g, 3, none⟩ = some (.int .i64 s4) ∧ wz.cell? ⟨g, 4, none⟩ = some (.int .i64 s5) ∧ wz.cell? ⟨g, 5, none⟩ = some (.string s6) ∧ wz.cell? ⟨g, 6, none⟩ = some (.slice va rn vc) ∧ wz.cell? ⟨g, 7, none⟩ = some (.int .i64 s7) ∧ wz.cell? ⟨h5, 0, none⟩ = some (.int .i64 s1) ∧ wz.cell? ⟨h5, 1, none⟩ = some (.int .i64 s2) ∧ wz.cell? ⟨h5, 2, none⟩ = some (.int .i64 s3) ∧ wz.cell? ⟨h5, 3, none⟩ = some (.int .i64 s4) ∧ wz.cell? ⟨h5, 4, none⟩ = some (.int .i64 s5) ∧ wz.cell? ⟨h5, 5, none⟩ = some (.string s6) ∧ wz.cell? ⟨h5, 6, none⟩ = some (.slice vb rn vd) ∧ wz.cell? ⟨h5, 7, none⟩ = some (.int .i64 s7)) (first | exact held16 G0.out G1.out | exact held16 K0.out K1.out | exact held16 M0.out M1.out | exact held16 N0.out N1.out | exact held16 T0.out T1.out) (first | (go_at_call 18; refine Calls.mono (HQ1.out _ DD.out) ?_; rintro e v5 ⟨rfl, b5⟩; have X5 := hide (chain BD.out b5); have K0 := hide (G0.out.below b5); have K1 := hide (G1.out.below b5); have FA5 := hide (FA.out.below b5); have FB5 := hide (FB.out.below b5); have FU5 := hide (FU.out.below b5); have FW5 := hide (FW.out.below b5); clear b5) | (go_at_call 22; refine Calls.mono (HFR1.out _ rn _ _) ?_; rintro e v6 ⟨rfl, b6⟩; have X6 := hide (chain X5.out b6); have M0 := hide (K0.out.below b6); have M1 := hide (K1.out.below b6); have FA6 := hide (FA5.out.below b6); have FB6 := hide (FB5.out.below b6); have FU6 := hide (FU5.out.below b6); have FW6 := hide (FW5.out.below b6); clear b6) | (go_at_call 21; refine Calls.mono (HSM1.out _ _ _ rn _ _ FA6.out FB6.out HL3.out) ?_; rintro e v7 ⟨rfl, b7⟩; have X7 := hide (chain X6.out b7); have N0 := hide (M0.out.below b7); have N1 := hide (M1.out.below b7); have FU7 := hide (FU6.out.below b7); have FW7 := hide (FW6.out.below b7); clear b7) | (go_at_call 19; refine Calls.mono (HSN.out _ _ _ un _ _ XN FU7.out FW7.out HL2.out) ?_; rintro e v8 ⟨rfl, b8⟩; have X8 := hide (chain X7.out b8); have T0 := hide (N0.out.below b8); have T1 := hide (N1.out.below b8); clear b8) | fail)
          go_wp2
          go_meet
          case rel => exact ⟨rfl, X8.out⟩
      case rest =>
        obtain ⟨rfl, HBB⟩ := hcut
        obtain ⟨w14, hw14⟩ : ∃ z, z = wc := ⟨_, rfl⟩
        subst hw14
        replace HB0 := hide (HB0.out.below HBB.out)
        replace HV3 := hide (HV3.out.below HBB.out)
        replace HH9 := hide (HH9.out.below HBB.out)
        replace HK := hide (HK.out.below HBB.out)
        replace HD := hide (chain HD.out HBB.out)
        clear HBB HO1 HV2 HU2 HH5 HKV HKU HKG HFR1 HSM1
        go_upto_region 15 with fail
        obtain ⟨wu, hwu⟩ : ∃ z, z = w14 := ⟨_, rfl⟩
        subst hwu
        go_cut [15, 17] from 109 to 118 (fun v15 v17 wz => ∃ qa qc, v15 = KA ∧ v17 = .bool AF ∧ Bk wz g [.int .i64 a1, .int .i64 a2, .int .i64 a3, .int .i64 a4, .int .i64 a5, .string a6, .slice qa an qc, .int .i64 a7] 48 ∧ FlOwn wz wu.heap.size (.slice qa an qc) AA ∧ Bk wz p [.int .i64 pt, .int .i64 b, .int .i64 r, .int .i64 m, .int .i64 st, .string im, .slice fa fn fc, .int .i64 rd, .bool on, .int .i64 x1, .int .i64 x2, .int .i64 x3, .int .i64 x4, .int .i64 x5, .int .i64 x6, .slice pa pn pc, .int .i64 k, .int .i64 pt2, .int .i64 b2, .int .i64 r2, .int .i64 m2, .int .i64 st2, .int .i64 ix, .int .i64 tt2, .int .u32 sm, .string d, .int .i64 tr] 36 ∧ Bk wz h9 [.int .i64 a1, .int .i64 a2, .int .i64 a3, .int .i64 a4, .int .i64 a5, .string a6, .slice xb an xd, .int .i64 a7] 26 ∧ FlOwn wz p (.slice xb an xd) AA ∧ Below w.heap.size w wz)
        case first =>
          have HSB : Hid (∀ wz, Bk wz p [.int .i64 pt, .int .i64 b, .int .i64 r, .int .i64 m, .int .i64 st, .string im, .slice fa fn fc, .int .i64 rd, .bool on, .int .i64 x1, .int .i64 x2, .int .i64 x3, .int .i64 x4, .int .i64 x5, .int .i64 x6, .slice pa pn pc, .int .i64 k, .int .i64 pt2, .int .i64 b2, .int .i64 r2, .int .i64 m2, .int .i64 st2, .int .i64 ix, .int .i64 tt2, .int .u32 sm, .string d, .int .i64 tr] 36 → wz.cell? ⟨p, 0, none⟩ = some (.int .i64 pt) ∧ wz.cell? ⟨p, 1, none⟩ = some (.int .i64 b) ∧ wz.cell? ⟨p, 2, none⟩ = some (.int .i64 r) ∧ wz.cell? ⟨p, 3, none⟩ = some (.int .i64 m) ∧ wz.cell? ⟨p, 4, none⟩ = some (.int .i64 st) ∧ wz.cell? ⟨p, 5, none⟩ = some (.string im) ∧ wz.cell? ⟨p, 6, none⟩ = some (.slice fa fn fc) ∧ wz.cell? ⟨p, 7, none⟩ = some (.int .i64 rd) ∧ wz.cell? ⟨p, 16, none⟩ = some (.int .i64 k) ∧ wz.cell? ⟨p, 17, none⟩ = some (.int .i64 pt2) ∧ wz.cell? ⟨p, 18, none⟩ = some (.int .i64 b2) ∧ wz.cell? ⟨p, 19, none⟩ = some (.int .i64 r2) ∧ wz.cell? ⟨p, 20, none⟩ = some (.int .i64 m2) ∧ wz.cell? ⟨p, 21, none⟩ = some (.int .i64 st2) ∧ wz.cell? ⟨p, 22, none⟩ = some (.int .i64 ix) ∧ wz.cell? ⟨p, 23, none⟩ = some (.int .i64 tt2) ∧ wz.cell? ⟨p, 24, none⟩ = some (.int .u32 sm) ∧ wz.cell? ⟨p, 25, none⟩ = some (.string d)) := fun wz h => held18c h
          refine wp_region_held_drew (S := fun wz => wz.cell? ⟨p, 0, none⟩ = some (.int .i64 pt) ∧ wz.cell? ⟨p, 1, none⟩ = some (.int .i64 b) ∧ wz.cell? ⟨p, 2, none⟩ = some (.int .i64 r) ∧ wz.cell? ⟨p, 3, none⟩ = some (.int .i64 m) ∧ wz.cell? ⟨p, 4, none⟩ = some (.int .i64 st) ∧ wz.cell? ⟨p, 5, none⟩ = some (.string im) ∧ wz.cell? ⟨p, 6, none⟩ = some (.slice fa fn fc) ∧ wz.cell? ⟨p, 7, none⟩ = some (.int .i64 rd) ∧ wz.cell? ⟨p, 16, none⟩ = some (.int .i64 k) ∧ wz.cell? ⟨p, 17, none⟩ = some (.int .i64 pt2) ∧ wz.cell? ⟨p, 18, none⟩ = some (.int .i64 b2) ∧ wz.cell? ⟨p, 19, none⟩ = some (.int .i64 r2) ∧ wz.cell? ⟨p, 20, none⟩ = some (.int .i64 m2) ∧ wz.cell? ⟨p, 21, none⟩ = some (.int .i64 st2) ∧ wz.cell? ⟨p, 22, none⟩ = some (.int .i64 ix) ∧ wz.cell? ⟨p, 23, none⟩ = some (.int .i64 tt2) ∧ wz.cell? ⟨p, 24, none⟩ = some (.int .u32 sm) ∧ wz.cell? ⟨p, 25, none⟩ = some (.string d)) (by kernel_rfl) (HSB.out _ (HB0.out.below (Below.refl _ _).drew)) (fun hHeld => ?_)
          refine wpAnyH_take (i := 0) (oi := { dst := some 110, op := Go.Op.fieldAddr 36 (Go.Operand.tmp 1) 0, type := 0, pos := "law.go:91", after := #[], guard := none }) (v := ?_) rfl (by kernel_rfl) (by kernel_rfl) (by kernel_rfl) (fun _ _ _ h => h) (Or.inl ⟨by rfl, ?_⟩) (by assumption) ?_
          rotate_left
          · intro w hSw
            obtain ⟨q0, q1, q2, q3, q4, q5, q6, q7, q8, q9, q10, q11, q12, q13, q14, q15, q16, q17⟩ := hSw
            go_simp
            try with_reducible rfl
          simp only [Act.put, List.setIfInBounds_toArray, List.set_cons_zero, List.set_cons_succ]
          refine wpAnyH_take (i := 1) (oi := { dst := some 111, op := Go.Op.load 26 (Go.Operand.tmp 110), type := 26, pos := "law.go:91", after := #[{ on := 0, ground := Go.Ground.data }], guard := none }) (v := ?_) rfl (by kernel_rfl) (by kernel_rfl) (by kernel_rfl) (fun _ _ _ h => h) (Or.inl ⟨by rfl, ?_⟩) (by assumption) ?_
          rotate_left
          · intro w hSw
            obtain ⟨q0, q1, q2, q3, q4, q5, q6, q7, q8, q9, q10, q11, q12, q13, q14, q15, q16, q17⟩ := hSw
            go_simp
            try with_reducible rfl
          simp only [Act.put, List.setIfInBounds_toArray, List.set_cons_zero, List.set_cons_succ]
          refine wpAnyH_take (i := 3) (oi := { dst := some 113, op := Go.Op.fieldAddr 36 (Go.Operand.tmp 1) 2, type := 0, pos := "law.go:91", after := #[], guard := none }) (v := ?_) rfl (by kernel_rfl) (by kernel_rfl) (by kernel_rfl) (fun _ _ _ h => h) (Or.inl ⟨by rfl, ?_⟩) (by assumption) ?_
          rotate_left
          · intro w hSw
            obtain ⟨q0, q1, q2, q3, q4, q5, q6, q7, q8, q9, q10, q11, q12, q13, q14, q15, q16, q17⟩ := hSw
            go_simp
            try with_reducible rfl
          simp only [Act.put, List.setIfInBounds_toArray, List.set_cons_zero, List.set_cons_succ]
          refine wpAnyH_take (i := 4) (oi := { dst := some 114, op := Go.Op.load 34 (Go.Operand.tmp 113), type := 34, pos := "law.go:91", after := #[{ on := 3, ground := Go.Ground.data }], guard := none }) (v := ?_) rfl (by kernel_rfl) (by kernel_rfl) (by kernel_rfl) (fun _ _ _ h => h) (Or.inl ⟨by rfl, ?_⟩) (by assumption) ?_
          rotate_left
          · intro w hSw
            obtain ⟨q0, q1, q2, q3, q4, q5, q6, q7, q8, q9, q10, q11, q12, q13, q14, q15, q16, q17⟩ := hSw
            go_simp
            try with_reducible rfl
          simp only [Act.put, List.setIfInBounds_toArray, List.set_cons_zero, List.set_cons_succ]
          refine wpAnyH_ready (rs := [2]) (by kernel_rfl) (by simp) ?_
          refine AllReadyH.cons (o := { dst := some 112, op := Go.Op.call { callee := Go.Callee.value (Go.Operand.func 15), args := #[Go.Operand.tmp 111], argTypes := #[26] }, type := 48, pos := "law.go:91", after := #[{ on := 1, ground := Go.Ground.data }], guard := none }) rfl (fun K hK => ?_) AllReadyH.nil
          go_simp
          go_at_call 15
          with_reducible refine Calls.mono (HTO.out _) ?_
          rintro e v5 ⟨rfl, b5⟩
          have X5 := hide (chain (Below.refl _ wu).drew b5)
          clear b5
          try dsimp only
          refine hK.out _ _ (HSB.out _ (HB0.out.below X5.out)) (fun hHeld2 => ?_)
          clear hK K hHeld
          try simp only [Act.put, List.setIfInBounds_toArray, List.set_cons_zero, List.set_cons_succ]
          refine wpAnyH_ready (rs := [5]) (by kernel_rfl) (by simp) ?_
          refine AllReadyH.cons (o := { dst := some 115, op := Go.Op.call { callee := Go.Callee.value (Go.Operand.func 23), args := #[Go.Operand.tmp 112, Go.Operand.tmp 114], argTypes := #[48, 34] }, type := 61, pos := "law.go:91", after := #[{ on := 2, ground := Go.Ground.data }, { on := 4, ground := Go.Ground.data }, { on := 2, ground := Go.Ground.chain }], guard := none }) rfl (fun K hK => ?_) AllReadyH.nil
          go_simp
          go_at_call 23
          with_reducible refine Calls.mono (HP4.out _ (chain HD.out X5.out)) ?_
          rintro e v6 ⟨v, rfl, o6, b6⟩
          obtain ⟨qa, qc, rfl, -⟩ := o6.rcs
          rw [HAN.out] at o6 ⊢
          have X6 := hide (chain X5.out b6)
          have HQ := hide o6
          have HQB := hide X5.out.size
          clear b6 o6
          try dsimp only
          refine hK.out _ _ (HSB.out _ (HB0.out.below X6.out)) (fun hHeld3 => ?_)
          clear hK K hHeld2
          try simp only [Act.put, List.setIfInBounds_toArray, List.set_cons_zero, List.set_cons_succ]
          refine wpAnyH_take (i := 6) (oi := { dst := some 109, op := Go.Op.move (Go.Operand.tmp 115), type := 61, pos := "law.go:91", after := #[{ on := 5, ground := Go.Ground.data }], guard := none }) (v := ?_) rfl (by kernel_rfl) (by kernel_rfl) (by kernel_rfl) (fun _ _ _ h => h) (Or.inl ⟨by rfl, ?_⟩) (by assumption) ?_
          rotate_left
          · intro w hSw
            obtain ⟨q0, q1, q2, q3, q4, q5, q6, q7, q8, q9, q10, q11, q12, q13, q14, q15, q16, q17⟩ := hSw
            go_simp
            try with_reducible rfl
          simp only [Act.put, List.setIfInBounds_toArray, List.set_cons_zero, List.set_cons_succ]
          refine wpAnyH_take (i := 7) (oi := { dst := some 116, op := Go.Op.extract (Go.Operand.tmp 109) 0, type := 48, pos := "law.go:91", after := #[{ on := 6, ground := Go.Ground.data }], guard := none }) (v := ?_) rfl (by kernel_rfl) (by kernel_rfl) (by kernel_rfl) (fun _ _ _ h => h) (Or.inl ⟨by rfl, ?_⟩) (by assumption) ?_
          rotate_left
          · intro w hSw
            obtain ⟨q0, q1, q2, q3, q4, q5, q6, q7, q8, q9, q10, q11, q12, q13, q14, q15, q16, q17⟩ := hSw
            go_simp
            try with_reducible rfl
          simp only [Act.put, List.setIfInBounds_toArray, List.set_cons_zero, List.set_cons_succ]
          refine wpAnyH_take (i := 8) (oi := { dst := some 117, op := Go.Op.extract (Go.Operand.tmp 109) 1, type := 4, pos := "law.go:91", after := #[{ on := 6, ground := Go.Ground.data }, { on := 10, ground := Go.Ground.gcOnly Go.Departure.lateStores }], guard := none }) (v := ?_) rfl (by kernel_rfl) (by kernel_rfl) (by kernel_rfl) (fun _ _ _ h => h) (Or.inl ⟨by rfl, ?_⟩) (by assumption) ?_
          rotate_left
          · intro w hSw
            obtain ⟨q0, q1, q2, q3, q4, q5, q6, q7, q8, q9, q10, q11, q12, q13, q14, q15, q16, q17⟩ := hSw
            go_simp
            try with_reducible rfl
          simp only [Act.put, List.setIfInBounds_toArray, List.set_cons_zero, List.set_cons_succ]
          refine wpAnyH_take (i := 9) (oi := { dst := some 118, op := Go.Op.extract (Go.Operand.tmp 109) 2, type := 52, pos := "law.go:91", after := #[{ on := 6, ground := Go.Ground.data }, { on := 11, ground := Go.Ground.gcOnly Go.Departure.lateStores }], guard := none }) (v := ?_) rfl (by kernel_rfl) (by kernel_rfl) (by kernel_rfl) (fun _ _ _ h => h) (Or.inl ⟨by rfl, ?_⟩) (by assumption) ?_
          rotate_left
          · intro w hSw
            obtain ⟨q0, q1, q2, q3, q4, q5, q6, q7, q8, q9, q10, q11, q12, q13, q14, q15, q16, q17⟩ := hSw
            go_simp
            try with_reducible rfl
          simp only [Act.put, List.setIfInBounds_toArray, List.set_cons_zero, List.set_cons_succ]
          have Kg := hide (HK.out.below X6.out)
          have Kp := hide (HB0.out.below X6.out)
          have K9 := hide (HH9.out.below X6.out)
          have Kx := hide (HV3.out.below X6.out)
          have Kd := hide (chain HD.out X6.out)
          have hoq : (Value.slice qa an qc).ownBlock ≠ some g := by
            have hg := HK.out.lt
            have hs := X5.out.size
            exact HQ.out.off (by omega)
          have hox : (Value.slice xb an xd).ownBlock ≠ some g := HXG.out
          have M1 := hide (Kg.out.sets [.int .i64 a1, .int .i64 a2, .int .i64 a3, .int .i64 a4, .int .i64 a5, .string a6, .slice qa an qc, .int .i64 a7] rfl)
          have M2 := hide (LOwn.fars hoq [.int .i64 a1, .int .i64 a2, .int .i64 a3, .int .i64 a4, .int .i64 a5, .string a6, .slice qa an qc, .int .i64 a7] 0 HQ.out)
          have M3 := hide (Bk.others HK5.out.2.2 [.int .i64 a1, .int .i64 a2, .int .i64 a3, .int .i64 a4, .int .i64 a5, .string a6, .slice qa an qc, .int .i64 a7] 0 Kp.out)
          have M4 := hide (Bk.others HK5.out.2.1 [.int .i64 a1, .int .i64 a2, .int .i64 a3, .int .i64 a4, .int .i64 a5, .string a6, .slice qa an qc, .int .i64 a7] 0 K9.out)
          have M5 := hide (LOwn.fars hox [.int .i64 a1, .int .i64 a2, .int .i64 a3, .int .i64 a4, .int .i64 a5, .string a6, .slice qa an qc, .int .i64 a7] 0 Kx.out)
          have M6 := hide (below_sets HGW.out [.int .i64 a1, .int .i64 a2, .int .i64 a3, .int .i64 a4, .int .i64 a5, .string a6, .slice qa an qc, .int .i64 a7] 0 Kd.out)
          have S12 := hide (HSB.out (World.setCells v6 g 0 [.int .i64 a1, .int .i64 a2, .int .i64 a3, .int .i64 a4, .int .i64 a5, .string a6, .slice qa an qc, .int .i64 a7]) M3.out)
          clear hoq hox
          have f0 := Kg.out.frozen 0
          have f1 := Kg.out.frozen 1
          have f2 := Kg.out.frozen 2
          have f3 := Kg.out.frozen 3
          have f4 := Kg.out.frozen 4
          have f5 := Kg.out.frozen 5
          have f6 := Kg.out.frozen 6
          have f7 := Kg.out.frozen 7
          have g0 := Kg.out.cell 0 rfl
          have g1 := Kg.out.cell 1 rfl
          have g2 := Kg.out.cell 2 rfl
          have g3 := Kg.out.cell 3 rfl
          have g4 := Kg.out.cell 4 rfl
          have g5 := Kg.out.cell 5 rfl
          have g6 := Kg.out.cell 6 rfl
          have g7 := Kg.out.cell 7 rfl
          refine wpAnyH_ready (rs := [10]) (by kernel_rfl) (by simp) ?_
          refine AllReadyH.cons (o := { dst := none, op := Go.Op.store 48 (Go.Operand.tmp 16) (Go.Operand.tmp 116), type := 0, pos := "law.go:91", after := #[{ on := 7, ground := Go.Ground.data }, { on := 5, ground := Go.Ground.chain }, { on := 0, ground := Go.Ground.phase }, { on := 1, ground := Go.Ground.phase }, { on := 2, ground := Go.Ground.phase }, { on := 3, ground := Go.Ground.phase }, { on := 4, ground := Go.Ground.phase }, { on := 5, ground := Go.Ground.phase }, { on := 6, ground := Go.Ground.phase }, { on := 7, ground := Go.Ground.phase }, { on := 8, ground := Go.Ground.textOnly Go.Departure.lateStores }, { on := 9, ground := Go.Ground.textOnly Go.Departure.lateStores }], guard := none }) rfl (fun K hK => ?_) AllReadyH.nil
          go_simp
          refine hK.out _ _ S12.out (fun hHeld4 => ?_)
          clear hK K hHeld3
          refine wpAnyH_take (i := 11) (oi := { dst := some 17, op := Go.Op.assign (Go.Operand.tmp 117), type := 4, pos := "law.go:91", after := #[{ on := 8, ground := Go.Ground.data }, { on := 10, ground := Go.Ground.chain }, { on := 0, ground := Go.Ground.phase }, { on := 1, ground := Go.Ground.phase }, { on := 2, ground := Go.Ground.phase }, { on := 3, ground := Go.Ground.phase }, { on := 4, ground := Go.Ground.phase }, { on := 5, ground := Go.Ground.phase }, { on := 6, ground := Go.Ground.phase }, { on := 7, ground := Go.Ground.phase }, { on := 8, ground := Go.Ground.phase }, { on := 9, ground := Go.Ground.textOnly Go.Departure.lateStores }, { on := 10, ground := Go.Ground.phase }], guard := none }) (v := ?_) rfl (by kernel_rfl) (by kernel_rfl) (by kernel_rfl) (fun _ _ _ h => h) (Or.inl ⟨by rfl, ?_⟩) (by assumption) ?_
          rotate_left
          · intro w hSw
            obtain ⟨q0, q1, q2, q3, q4, q5, q6, q7, q8, q9, q10, q11, q12, q13, q14, q15, q16, q17⟩ := hSw
            go_simp
            try with_reducible rfl
          simp only [Act.put, List.setIfInBounds_toArray, List.set_cons_zero, List.set_cons_succ]
          refine wpAnyH_take (i := 12) (oi := { dst := some 15, op := Go.Op.assign (Go.Operand.tmp 118), type := 52, pos := "law.go:91", after := #[{ on := 9, ground := Go.Ground.data }, { on := 11, ground := Go.Ground.chain }, { on := 0, ground := Go.Ground.phase }, { on := 1, ground := Go.Ground.phase }, { on := 2, ground := Go.Ground.phase }, { on := 3, ground := Go.Ground.phase }, { on := 4, ground := Go.Ground.phase }, { on := 5, ground := Go.Ground.phase }, { on := 6, ground := Go.Ground.phase }, { on := 7, ground := Go.Ground.phase }, { on := 8, ground := Go.Ground.phase }, { on := 9, ground := Go.Ground.phase }, { on := 10, ground := Go.Ground.phase }, { on := 11, ground := Go.Ground.phase }], guard := none }) (v := ?_) rfl (by kernel_rfl) (by kernel_rfl) (by kernel_rfl) (fun _ _ _ h => h) (Or.inl ⟨by rfl, ?_⟩) (by assumption) ?_
          rotate_left
          · intro w hSw
            obtain ⟨q0, q1, q2, q3, q4, q5, q6, q7, q8, q9, q10, q11, q12, q13, q14, q15, q16, q17⟩ := hSw
            go_simp
            try with_reducible rfl
          simp only [Act.put, List.setIfInBounds_toArray, List.set_cons_zero, List.set_cons_succ]
          refine wpAnyH_done (by kernel_rfl) ?_ _
          clear hHeld4 f0 g0 f1 g1 f2 g2 f3 g3 f4 g4 f5 g5 f6 g6 f7 g7 S12
          go_wp2
          go_meet
          case rel => exact ⟨qa, qc, rfl, rfl, M1.out, M2.out.weaken HQB.out, M3.out, M4.out, M5.out, M6.out⟩
        case rest =>
          obtain ⟨qa, qc, rfl, rfl, k1, k2, k3, k4, k5, k6⟩ := hcut
          obtain ⟨w15, hw15⟩ : ∃ z, z = wc := ⟨_, rfl⟩
          subst hw15
          have HK := hide k1
          have HKV := hide k2
          have HB0 := hide k3
          have HH9 := hide k4
          have HV3 := hide k5
          have HD := hide k6
          clear k1 k2 k3 k4 k5 k6
          go_upto_region 16 with fail
          go_cut [134] from 119 to 134 (fun v wz => v = .bool false ∧ Hid (Below w15.heap.size w15 wz))
          case first =>
            have G0 := hide (HK.out.below (Below.refl _ w15).drew)
            have G1 := hide (HH9.out.below (Below.refl _ w15).drew)
            have DD := hide HD.out.drew
            have BD := hide ((Below.refl w15.heap.size w15).drew)
            obtain ⟨y1, y2, e1, R1⟩ := HKV.out.rcs
            obtain ⟨y3, y4, e2, R2⟩ := HV3.out.rcs
            rw [HAN.out] at e1 e2 R1 R2
            injection e1 with e1a e1b e1c
            injection e2 with e2a e2b e2c
            subst e1a e1c e2a e2c
            have FA := hide (R1.below BD.out)
            have FB := hide (R2.below BD.out)
            clear R1 R2 e1b e2b
            cases AF
            all_goals
              go_region_held3 (fun wz => wz.cell? ⟨g, 0, none⟩ = some (.int .i64 a1) ∧ wz.cell? ⟨g, 1, none⟩ = some (.int .i64 a2) ∧ wz.cell? ⟨g, 2, none⟩ = some (.int .i64 a3) ∧ wz.cell? ⟨g, 3, none⟩ = some (.int .i64 a4) ∧ wz.cell? ⟨g, 4, none⟩ = some (.int .i64 a5) ∧ wz.cell? ⟨g, 5, none⟩ = some (.string a6) ∧ wz.cell? ⟨g, 6, none⟩ = some (.slice qa an qc) ∧ wz.cell? ⟨g, 7, none⟩ = some (.int .i64 a7) ∧ wz.cell? ⟨h9, 0, none⟩ = some (.int .i64 a1) ∧ wz.cell? ⟨h9, 1, none⟩ = some (.int .i64 a2) ∧ wz.cell? ⟨h9, 2, none⟩ = some (.int .i64 a3) ∧ wz.cell? ⟨h9, 3, none⟩ = some (.int .i64 a4) ∧ wz.cell? ⟨h9, 4, none⟩ = some (.int .i64 a5) ∧ wz.cell? ⟨h9, 5, none⟩ = some (.string a6) ∧ wz.cell? ⟨h9, 6, none⟩ = some (.slice xb an xd) ∧ wz.cell? ⟨h9, 7, none⟩ = some (.int .i64 a7)) (first | exact held16 G0.out G1.out | exact held16 K0.out K1.out | exact held16 M0.out M1.out | exact held16 N0.out N1.out) (first | (go_at_call 18; refine Calls.mono (HQ2.out _ DD.out) ?_; rintro e v5 ⟨rfl, b5⟩; have X5 := hide (chain BD.out b5); have K0 := hide (G0.out.below b5); have K1 := hide (G1.out.below b5); have FA5 := hide (FA.out.below b5); have FB5 := hide (FB.out.below b5); clear b5) | (go_at_call 22; refine Calls.mono (HFR2.out _ an _ _) ?_; rintro e v6 ⟨rfl, b6⟩; have X6 := hide (chain X5.out b6); have M0 := hide (K0.out.below b6); have M1 := hide (K1.out.below b6); have FA6 := hide (FA5.out.below b6); have FB6 := hide (FB5.out.below b6); clear b6) | (go_at_call 21; refine Calls.mono (HSM2.out _ _ _ an _ _ FA6.out FB6.out HL4.out) ?_; rintro e v7 ⟨rfl, b7⟩; have X7 := hide (chain X6.out b7); have N0 := hide (M0.out.below b7); have N1 := hide (M1.out.below b7); clear b7) | fail)
              go_wp2
              go_meet
              case rel => exact ⟨rfl, X7.out⟩
          case rest =>
            obtain ⟨rfl, HBB⟩ := hcut
            obtain ⟨w16, hw16⟩ : ∃ z, z = wc := ⟨_, rfl⟩
            subst hw16
            replace HB0 := hide (HB0.out.below HBB.out)
            replace HD := hide (chain HD.out HBB.out)
            clear HBB HV3 HH9 HK HKV HFR2 HSM2 HQ2
            go_upto_region 18 with fail
            have g0 := HB0.out.cell 0 rfl
            have g1 := HB0.out.cell 1 rfl
            have g2 := HB0.out.cell 2 rfl
            have g3 := HB0.out.cell 3 rfl
            have g4 := HB0.out.cell 4 rfl
            have g5 := HB0.out.cell 5 rfl
            have g6 := HB0.out.cell 6 rfl
            have g7 := HB0.out.cell 7 rfl
            go_wp2_with fail
            refine Calls.mono (HTO.out w16) ?_
            rintro e w17 ⟨rfl, b17⟩
            replace HB0 := hide (HB0.out.below b17)
            replace HD := hide (chain HD.out b17)
            clear b17 g0 g1 g2 g3 g4 g5 g6 g7
            go_wp2_with fail
            refine Calls.mono (HP5.out w17 HD.out) ?_
            rintro e w18 ⟨rfl, b18⟩
            replace HB0 := hide (HB0.out.below b18)
            replace HD := hide (chain HD.out b18)
            clear b18 HP5
            go_upto_region 19 with fail
            go_wp2_with fail
            refine Calls.mono (HQ1.out w18 HD.out) ?_
            rintro e w19 ⟨rfl, b19⟩
            replace HB0 := hide (HB0.out.below b19)
            replace HD := hide (chain HD.out b19)
            clear b19 HQ1
            cases RR
            all_goals
              go_wp2
              go_ret
              exact ⟨rfl, HD.out⟩
end Go.Proofs.YtnopclacchoijaaDoor.xferSends
