/-
  The program's form of notes: isStaged, isCounted, isFilled, Check.
-/
import Derived.Test.YtdbciciljeainaaGreatDoorXfSmall
import Derived.Test.YtdbciciljeainaaGreatDoorErrHitQ
import Derived.Laws.Closers25
namespace Go.Proofs.YtdbciciljeainaaGreatDoor
open Go.RowKit
set_option linter.unusedVariables false
set_option linter.unusedSimpArgs false

theorem toList_ne {d : ByteArray} (h : ¬ d.size = 0) : ¬ d.toList = [] := by
  rw [ByteArray.toList_eq]
  intro e
  exact h (by show d.data.size = 0; rw [← Array.length_toList, e]; rfl)
/-- A note in a block. -/
structure Nb (w : World) (g : Nat) (k pt b r m st ix tt sm : Int) (d : ByteArray) : Prop where
  c0 : w.cell? ⟨g, 0, none⟩ = some (.int .i64 k)
  c1 : w.cell? ⟨g, 1, none⟩ = some (.int .i64 pt)
  c2 : w.cell? ⟨g, 2, none⟩ = some (.int .i64 b)
  c3 : w.cell? ⟨g, 3, none⟩ = some (.int .i64 r)
  c4 : w.cell? ⟨g, 4, none⟩ = some (.int .i64 m)
  c5 : w.cell? ⟨g, 5, none⟩ = some (.int .i64 st)
  c6 : w.cell? ⟨g, 6, none⟩ = some (.int .i64 ix)
  c7 : w.cell? ⟨g, 7, none⟩ = some (.int .i64 tt)
  c8 : w.cell? ⟨g, 8, none⟩ = some (.int .u32 sm)
  c9 : w.cell? ⟨g, 9, none⟩ = some (.string d)
theorem Nb.below {w w' : World} {g : Nat} {k pt b r m st ix tt sm : Int} {d : ByteArray} (h : Nb w g k pt b r m st ix tt sm d) (hb : Below w.heap.size w w') : Nb w' g k pt b r m st ix tt sm d := ⟨cell_below h.c0 hb, cell_below h.c1 hb, cell_below h.c2 hb, cell_below h.c3 hb, cell_below h.c4 hb, cell_below h.c5 hb, cell_below h.c6 hb, cell_below h.c7 hb, cell_below h.c8 hb, cell_below h.c9 hb⟩
theorem nb_new (w : World) (k pt b r m st ix tt sm : Int) (d : ByteArray) : Nb (w.alloc (.cells #[.int .i64 k, .int .i64 pt, .int .i64 b, .int .i64 r, .int .i64 m, .int .i64 st, .int .i64 ix, .int .i64 tt, .int .u32 sm, .string d] 33)) w.heap.size k pt b r m st ix tt sm d := ⟨by rw [World.cell?_alloc_at _ _ _ _ rfl]; rfl, by rw [World.cell?_alloc_at _ _ _ _ rfl]; rfl, by rw [World.cell?_alloc_at _ _ _ _ rfl]; rfl, by rw [World.cell?_alloc_at _ _ _ _ rfl]; rfl, by rw [World.cell?_alloc_at _ _ _ _ rfl]; rfl, by rw [World.cell?_alloc_at _ _ _ _ rfl]; rfl, by rw [World.cell?_alloc_at _ _ _ _ rfl]; rfl, by rw [World.cell?_alloc_at _ _ _ _ rfl]; rfl, by rw [World.cell?_alloc_at _ _ _ _ rfl]; rfl, by rw [World.cell?_alloc_at _ _ _ _ rfl]; rfl⟩
set_option maxRecDepth 100000 in
theorem isStaged_any (k pt b r m st ix tt sm : Int) (d : ByteArray) (w : World) : Calls Tryz.prog 51 #[.agg #[.int .i64 k, .int .i64 pt, .int .i64 b, .int .i64 r, .int .i64 m, .int .i64 st, .int .i64 ix, .int .i64 tt, .int .u32 sm, .string d]] w fun e w' => e = .returned (.bool (stagedN ⟨k, pt, b, r, m, st, ix, tt, sm, d⟩)) ∧ Below w.heap.size w w' := by
  have NB := hide (nb_new w k pt b r m st ix tt sm d)
  have D0 := hide (xnew w (.cells #[.int .i64 k, .int .i64 pt, .int .i64 b, .int .i64 r, .int .i64 m, .int .i64 st, .int .i64 ix, .int .i64 tt, .int .u32 sm, .string d] 33))
  obtain ⟨R, hR⟩ : ∃ R, stagedN ⟨k, pt, b, r, m, st, ix, tt, sm, d⟩ = R := ⟨_, rfl⟩
  rw [hR]
  have HR := hide hR
  clear hR
  go_enter Tryz.func51, Tryz.ntmps51
  go_upto_region 1 with fail
  generalize w.alloc (.cells #[.int .i64 k, .int .i64 pt, .int .i64 b, .int .i64 r, .int .i64 m, .int .i64 st, .int .i64 ix, .int .i64 tt, .int .u32 sm, .string d] 33) = W0 at *
  have t0 := NB.out.c0
  have t5 := NB.out.c5
  have HS := hide isStage_any
  clear NB
  by_cases hk : k = 1 ∨ k = 7 ∨ k = 2 ∨ k = 3
  · have HE : Hid (R = okSt st) := by rw [← HR.out]; unfold stagedN; exact if_pos hk
    rcases hk with rfl | rfl | rfl | rfl
    all_goals
      go_wp2_with (refine Calls.mono (HS.out _ _) ?_; rintro e w' ⟨rfl, rfl⟩)
      go_ret
      exact ⟨ret_b HE.out.symm, D0.out⟩
  · have HE : Hid (R = (st == 0)) := by rw [← HR.out]; unfold stagedN; exact if_neg hk
    have e1 : (k == 1) = false := by simp; omega
    have e7 : (k == 7) = false := by simp; omega
    have e2 : (k == 2) = false := by simp; omega
    have e3 : (k == 3) = false := by simp; omega
    clear hk
    go_wp2
    all_goals go_ret
    all_goals refine ⟨ret_b ?_, D0.out⟩
    all_goals (rw [HE.out]; try simp_all)
set_option maxRecDepth 100000 in
theorem isCounted_any (k pt b r m st ix tt sm : Int) (d : ByteArray) (w : World) : Calls Tryz.prog 52 #[.agg #[.int .i64 k, .int .i64 pt, .int .i64 b, .int .i64 r, .int .i64 m, .int .i64 st, .int .i64 ix, .int .i64 tt, .int .u32 sm, .string d]] w fun e w' => e = .returned (.bool (countedN ⟨k, pt, b, r, m, st, ix, tt, sm, d⟩)) ∧ Below w.heap.size w w' := by
  have NB := hide (nb_new w k pt b r m st ix tt sm d)
  have D0 := hide (xnew w (.cells #[.int .i64 k, .int .i64 pt, .int .i64 b, .int .i64 r, .int .i64 m, .int .i64 st, .int .i64 ix, .int .i64 tt, .int .u32 sm, .string d] 33))
  obtain ⟨R, hR⟩ : ∃ R, countedN ⟨k, pt, b, r, m, st, ix, tt, sm, d⟩ = R := ⟨_, rfl⟩
  rw [hR]
  have HR := hide hR
  clear hR
  go_enter Tryz.func52, Tryz.ntmps52
  go_upto_region 1 with fail
  generalize w.alloc (.cells #[.int .i64 k, .int .i64 pt, .int .i64 b, .int .i64 r, .int .i64 m, .int .i64 st, .int .i64 ix, .int .i64 tt, .int .u32 sm, .string d] 33) = W0 at *
  have t0 := NB.out.c0
  have t6 := NB.out.c6
  have t7 := NB.out.c7
  have HT := hide isTotal_any
  clear NB
  by_cases hk : k = 1 ∨ k = 7
  · have HE : Hid (R = (okTot tt && decide (0 ≤ ix) && decide (ix < tt))) := by rw [← HR.out]; unfold countedN; exact if_pos hk
    clear HR
    cases ht : okTot tt with
    | false =>
      rw [ht] at HE
      rcases hk with rfl | rfl
      all_goals
        go_wp2_with (refine Calls.mono (HT.out _ _) ?_; rintro e w' ⟨rfl, rfl⟩; rw [ht])
        go_ret
        exact ⟨ret_b (by rw [HE.out]; rfl), D0.out⟩
    | true =>
      rw [ht] at HE
      by_cases h0 : 0 ≤ ix
      · by_cases h1 : ix < tt
        · rcases hk with rfl | rfl
          all_goals
            go_wp2_with (refine Calls.mono (HT.out _ _) ?_; rintro e w' ⟨rfl, rfl⟩; rw [ht])
            go_ret
            exact ⟨ret_b (by rw [HE.out, decide_eq_true h0, decide_eq_true h1]; rfl), D0.out⟩
        · rcases hk with rfl | rfl
          all_goals
            go_wp2_with (refine Calls.mono (HT.out _ _) ?_; rintro e w' ⟨rfl, rfl⟩; rw [ht])
            go_ret
            exact ⟨ret_b (by rw [HE.out, decide_eq_false (show ¬ ix < tt by omega)]; simp), D0.out⟩
      · rcases hk with rfl | rfl
        all_goals
          go_wp2_with (refine Calls.mono (HT.out _ _) ?_; rintro e w' ⟨rfl, rfl⟩; rw [ht])
          go_ret
          exact ⟨ret_b (by rw [HE.out, decide_eq_false (show ¬ 0 ≤ ix by omega)]; simp), D0.out⟩
  · have HE : Hid (R = (ix == 0 && tt == 0)) := by rw [← HR.out]; unfold countedN; exact if_neg hk
    have e1 : (k == 1) = false := by simp; omega
    have e7 : (k == 7) = false := by simp; omega
    clear hk HR
    by_cases h0 : ix = 0
    · subst h0
      go_wp2
      all_goals go_ret
      all_goals refine ⟨ret_b ?_, D0.out⟩
      all_goals (rw [HE.out]; try simp_all)
    · have h9 : (ix == 0) = false := by simpa using h0
      go_wp2
      go_ret
      exact ⟨ret_b (by rw [HE.out, h9]; rfl), D0.out⟩
set_option maxRecDepth 100000 in
theorem isFilled_any (k pt b r m st ix tt sm : Int) (d : ByteArray) (w : World) (hd : d.size ≤ 9223372036854775807) (h1 : -9223372036854775807 ≤ tt) (h2 : tt ≤ 9223372036854775807) : Calls Tryz.prog 53 #[.agg #[.int .i64 k, .int .i64 pt, .int .i64 b, .int .i64 r, .int .i64 m, .int .i64 st, .int .i64 ix, .int .i64 tt, .int .u32 sm, .string d]] w fun e w' => e = .returned (.bool (filledN ⟨k, pt, b, r, m, st, ix, tt, sm, d⟩)) ∧ Below w.heap.size w w' := by
  have NB := hide (nb_new w k pt b r m st ix tt sm d)
  have D0 := hide (xnew w (.cells #[.int .i64 k, .int .i64 pt, .int .i64 b, .int .i64 r, .int .i64 m, .int .i64 st, .int .i64 ix, .int .i64 tt, .int .u32 sm, .string d] 33))
  obtain ⟨R, hR⟩ : ∃ R, filledN ⟨k, pt, b, r, m, st, ix, tt, sm, d⟩ = R := ⟨_, rfl⟩
  rw [hR]
  have HR := hide hR
  clear hR
  go_enter Tryz.func53, Tryz.ntmps53
  go_upto_region 1 with fail
  generalize w.alloc (.cells #[.int .i64 k, .int .i64 pt, .int .i64 b, .int .i64 r, .int .i64 m, .int .i64 st, .int .i64 ix, .int .i64 tt, .int .u32 sm, .string d] 33) = W0 at *
  have t0 := NB.out.c0
  have t6 := NB.out.c6
  have t7 := NB.out.c7
  have t8 := NB.out.c8
  have t9 := NB.out.c9
  have HP := hide (fun i w => isPiece_any d i tt w hd h1 h2)
  clear NB h1 h2
  by_cases hk : k = 1
  · subst hk
    have HE : Hid (R = (sm == 0 && pieceOk d ix tt)) := by rw [← HR.out]; unfold filledN; exact if_pos rfl
    clear HR
    by_cases hs : sm = 0
    · subst hs
      go_wp2_with (refine Calls.mono (HP.out _ _) ?_; rintro e w' ⟨rfl, rfl⟩)
      go_ret
      exact ⟨ret_b (by rw [HE.out]; rfl), D0.out⟩
    · have h9 : (sm == 0) = false := by simpa using hs
      go_wp2
      go_ret
      exact ⟨ret_b (by rw [HE.out, h9]; rfl), D0.out⟩
  · have HE : Hid (R = (decide (d.size = 0) && (sm == 0 || k == 2))) := by rw [← HR.out]; unfold filledN; exact if_neg hk
    have e1 : (k == 1) = false := by simpa using hk
    clear hk HR
    by_cases hs : d.size = 0
    · have hd0 : d = ByteArray.empty := by
        apply ByteArray.ext
        exact Array.eq_empty_of_size_eq_zero hs
      subst hd0
      by_cases hm : sm = 0
      · subst hm
        go_wp2
        go_ret
        exact ⟨ret_b (by rw [HE.out]; rfl), D0.out⟩
      · have h9 : (sm == 0) = false := by simpa using hm
        by_cases h2 : k = 2
        · subst h2
          go_wp2
          go_ret
          exact ⟨ret_b (by rw [HE.out, h9]; rfl), D0.out⟩
        · have h8 : (k == 2) = false := by simpa using h2
          go_wp2
          go_ret
          exact ⟨ret_b (by rw [HE.out, h9, h8]; rfl), D0.out⟩
    · have hde : decide (d = ByteArray.empty) = false := decide_eq_false (fun e => hs (by rw [e]; rfl))
      have hdt := toList_ne hs
      have hdn : ¬ d = ByteArray.empty := fun e => hs (by rw [e]; rfl)
      go_wp2
      go_ret
      exact ⟨ret_b (by rw [HE.out, decide_eq_false hs]; rfl), D0.out⟩
/-- The seven errors that chunk and xfer tell. -/
structure Er7 (w : World) (E : Nat → Addr) : Prop where
  v4 : w.cell? ⟨8, 0, none⟩ = some (sent (E 4))
  v7 : w.cell? ⟨3, 0, none⟩ = some (sent (E 7))
  v11 : w.cell? ⟨7, 0, none⟩ = some (sent (E 11))
  v12 : w.cell? ⟨6, 0, none⟩ = some (sent (E 12))
theorem Er7.below {w w' : World} {E : Nat → Addr} (h : Er7 w E) (hb : Below w.heap.size w w') : Er7 w' E := ⟨cell_below h.v4 hb, cell_below h.v7 hb, cell_below h.v11 hb, cell_below h.v12 hb⟩
theorem Errs.er7 {w : World} {E : Nat → Addr} (h : Errs w E) : Er7 w E := ⟨h.v4, h.v7, h.v11, h.v12⟩
/-- The errors of stages besides. -/
structure Er7x (w : World) (E : Nat → Addr) : Prop where
  e7 : Er7 w E
  v9 : w.cell? ⟨0, 0, none⟩ = some (sent (E 9))
  v10 : w.cell? ⟨1, 0, none⟩ = some (sent (E 10))
  v14 : w.cell? ⟨2, 0, none⟩ = some (sent (E 14))
theorem Er7x.below {w w' : World} {E : Nat → Addr} (h : Er7x w E) (hb : Below w.heap.size w w') : Er7x w' E := ⟨h.e7.below hb, cell_below h.v9 hb, cell_below h.v10 hb, cell_below h.v14 hb⟩
theorem Errs.er7x {w : World} {E : Nat → Addr} (h : Errs w E) : Er7x w E := ⟨h.er7, h.v9, h.v10, h.v14⟩
/-- An error of that number; 0: none. -/
def erv (E : Nat → Addr) (k : Nat) : Value := if k = 0 then .nilIface else sent (E k)
theorem erv_bare (E : Nat → Addr) (k : Nat) (h : k ≤ 20) : Bare E (erv E k) k := by
  unfold erv
  split
  · rename_i h0
    rw [h0]
    exact bare_nil E
  · exact bare_sent E k (by omega) h
set_option maxRecDepth 100000 in
set_option maxHeartbeats 1000000 in
theorem check_any (k pt b r m st ix tt sm : Int) (d : ByteArray) {w : World} {E : Nat → Addr} (he : Er7 w E) (hd : d.size ≤ 9223372036854775807) (h1 : -9223372036854775808 ≤ tt) (h2 : tt ≤ 9223372036854775807) : Calls Tryz.prog 27 #[.agg #[.int .i64 k, .int .i64 pt, .int .i64 b, .int .i64 r, .int .i64 m, .int .i64 st, .int .i64 ix, .int .i64 tt, .int .u32 sm, .string d]] w fun e w' => e = .returned (erv E (chk ⟨k, pt, b, r, m, st, ix, tt, sm, d⟩)) ∧ Below w.heap.size w w' := by
  have NB := hide (nb_new w k pt b r m st ix tt sm d)
  have D0 := hide (xnew w (.cells #[.int .i64 k, .int .i64 pt, .int .i64 b, .int .i64 r, .int .i64 m, .int .i64 st, .int .i64 ix, .int .i64 tt, .int .u32 sm, .string d] 33))
  have HE := hide (he.below D0.out)
  clear he
  obtain ⟨R, hR⟩ : ∃ R, chk ⟨k, pt, b, r, m, st, ix, tt, sm, d⟩ = R := ⟨_, rfl⟩
  rw [hR]
  have HR := hide hR
  clear hR
  have HF : Hid (∀ w, countedN ⟨k, pt, b, r, m, st, ix, tt, sm, d⟩ = true → Calls Tryz.prog 53 #[.agg #[.int .i64 k, .int .i64 pt, .int .i64 b, .int .i64 r, .int .i64 m, .int .i64 st, .int .i64 ix, .int .i64 tt, .int .u32 sm, .string d]] w fun e w' => e = .returned (.bool (filledN ⟨k, pt, b, r, m, st, ix, tt, sm, d⟩)) ∧ Below w.heap.size w w') := fun w hc => isFilled_any k pt b r m st ix tt sm d w hd (by
    unfold countedN at hc
    simp only at hc
    split at hc
    · simp [okTot] at hc; omega
    · simp at hc; omega) h2
  have H1 := hide (isName_any pt b r m)
  have H2 := hide (isStaged_any k pt b r m st ix tt sm d)
  have H3 := hide (isCounted_any k pt b r m st ix tt sm d)
  clear hd h1 h2
  go_enter Tryz.func27, Tryz.ntmps27
  go_upto_region 1 with fail
  generalize w.alloc (.cells #[.int .i64 k, .int .i64 pt, .int .i64 b, .int .i64 r, .int .i64 m, .int .i64 st, .int .i64 ix, .int .i64 tt, .int .u32 sm, .string d] 33) = W0 at *
  have e7 := HE.out.v7
  have e4 := HE.out.v4
  unfold sent at e7 e4
  have t0 := NB.out.c0
  by_cases hk : k < 1 ∨ 7 < k
  · have HC : Hid (R = 7) := by rw [← HR.out]; unfold chk; exact if_pos hk
    clear HR
    by_cases hk1 : k < 1
    · go_wp2
      go_ret
      exact ⟨by rw [HC.out]; rfl, D0.out⟩
    · have hk7 : 7 < k := by omega
      have hk1' : 1 ≤ k := by omega
      clear hk hk1
      go_wp2
      go_ret
      exact ⟨by rw [HC.out]; rfl, D0.out⟩
  · have HC : Hid (R = if nmN ⟨k, pt, b, r, m, st, ix, tt, sm, d⟩ && stagedN ⟨k, pt, b, r, m, st, ix, tt, sm, d⟩ && countedN ⟨k, pt, b, r, m, st, ix, tt, sm, d⟩ && filledN ⟨k, pt, b, r, m, st, ix, tt, sm, d⟩ then 0 else 4) := by rw [← HR.out]; unfold chk; exact if_neg hk
    have hk1 : 1 ≤ k := by omega
    have hk7 : k ≤ 7 := by omega
    clear HR hk
    go_upto_region 3 with fail
    have t1 := NB.out.c1
    have t2 := NB.out.c2
    have t3 := NB.out.c3
    have t4 := NB.out.c4
    go_wp2_with fail
    refine Calls.mono (H1.out _) ?_
    rintro e w1 ⟨rfl, b1⟩
    have NB1 := hide (NB.out.below b1)
    have D1 := hide (chain D0.out b1)
    have HE1 := hide (HE.out.below b1)
    clear b1 NB D0 HE t0 t1 t2 t3 t4 e7 e4
    have e4 := HE1.out.v4
    unfold sent at e4
    cases hn : okNm pt b r m with
    | false =>
      go_wp2
      go_ret
      exact ⟨by rw [HC.out]; unfold nmN; simp only; rw [hn]; rfl, D1.out⟩
    | true =>
      have t0 := NB1.out.c0
      have t1 := NB1.out.c1
      have t2 := NB1.out.c2
      have t3 := NB1.out.c3
      have t4 := NB1.out.c4
      have t5 := NB1.out.c5
      have t6 := NB1.out.c6
      have t7 := NB1.out.c7
      have t8 := NB1.out.c8
      have t9 := NB1.out.c9
      go_wp2_with fail
      refine Calls.mono (H2.out _) ?_
      rintro e w2 ⟨rfl, b1⟩
      have NB2 := hide (NB1.out.below b1)
      have D2 := hide (chain D1.out b1)
      have HE2 := hide (HE1.out.below b1)
      clear b1 NB1 D1 HE1 t0 t1 t2 t3 t4 t5 t6 t7 t8 t9 e4
      have e4 := HE2.out.v4
      unfold sent at e4
      cases hs : stagedN ⟨k, pt, b, r, m, st, ix, tt, sm, d⟩ with
      | false =>
        go_wp2
        go_ret
        exact ⟨by rw [HC.out]; unfold nmN; simp only; rw [hn, hs]; rfl, D2.out⟩
      | true =>
        have t0 := NB2.out.c0
        have t1 := NB2.out.c1
        have t2 := NB2.out.c2
        have t3 := NB2.out.c3
        have t4 := NB2.out.c4
        have t5 := NB2.out.c5
        have t6 := NB2.out.c6
        have t7 := NB2.out.c7
        have t8 := NB2.out.c8
        have t9 := NB2.out.c9
        go_wp2_with fail
        refine Calls.mono (H3.out _) ?_
        rintro e w3 ⟨rfl, b1⟩
        have NB3 := hide (NB2.out.below b1)
        have D3 := hide (chain D2.out b1)
        have HE3 := hide (HE2.out.below b1)
        clear b1 NB2 D2 HE2 t0 t1 t2 t3 t4 t5 t6 t7 t8 t9 e4
        have e4 := HE3.out.v4
        unfold sent at e4
        cases hc : countedN ⟨k, pt, b, r, m, st, ix, tt, sm, d⟩ with
        | false =>
          go_wp2
          go_ret
          exact ⟨by rw [HC.out]; unfold nmN; simp only; rw [hn, hs, hc]; rfl, D3.out⟩
        | true =>
          have t0 := NB3.out.c0
          have t1 := NB3.out.c1
          have t2 := NB3.out.c2
          have t3 := NB3.out.c3
          have t4 := NB3.out.c4
          have t5 := NB3.out.c5
          have t6 := NB3.out.c6
          have t7 := NB3.out.c7
          have t8 := NB3.out.c8
          have t9 := NB3.out.c9
          go_wp2_with fail
          refine Calls.mono (HF.out _ hc) ?_
          rintro e w4 ⟨rfl, b1⟩
          have D4 := hide (chain D3.out b1)
          have HE4 := hide (HE3.out.below b1)
          clear b1 NB3 D3 HE3 t0 t1 t2 t3 t4 t5 t6 t7 t8 t9 e4
          have e4 := HE4.out.v4
          unfold sent at e4
          cases hf : filledN ⟨k, pt, b, r, m, st, ix, tt, sm, d⟩ with
          | false =>
            go_wp2
            go_ret
            exact ⟨by rw [HC.out]; unfold nmN; simp only; rw [hn, hs, hc, hf]; rfl, D4.out⟩
          | true =>
            go_wp2
            go_ret
            exact ⟨by rw [HC.out]; unfold nmN; simp only; rw [hn, hs, hc, hf]; rfl, D4.out⟩
end Go.Proofs.YtdbciciljeainaaGreatDoor
