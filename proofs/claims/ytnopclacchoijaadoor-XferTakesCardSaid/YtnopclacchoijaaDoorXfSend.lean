/-
  The program's Start, pieces and Due.
-/
import Derived.Test.YtnopclacchoijaaDoorXfCut
namespace Go.Proofs.YtnopclacchoijaaDoor
open Go.RowKit FerryCrc
set_option linter.unusedVariables false
set_option linter.unusedSimpArgs false

/-- A block that holds these cells. -/
def Bk (w : World) (b : Nat) (cs : List Value) (t : TypeId) : Prop := w.heap[b]? = some (.cells cs.toArray t (0, 0))
theorem Bk.lt {w : World} {b : Nat} {cs : List Value} {t : TypeId} (h : Bk w b cs t) : b < w.heap.size := (Array.getElem?_eq_some_iff.1 h).1
theorem Bk.below {w w' : World} {b : Nat} {cs : List Value} {t : TypeId} (h : Bk w b cs t) (hb : Below w.heap.size w w') : Bk w' b cs t := by
  have h1 := h.lt
  unfold Bk at *
  rw [hb.block b h1]
  exact h
theorem Bk.cell {w : World} {b : Nat} {cs : List Value} {t : TypeId} (h : Bk w b cs t) (i : Nat) {v : Value} (hi : cs[i]? = some v) : w.cell? ⟨b, i, none⟩ = some v := by
  rw [cell_of_row w b i _ _ _ h]
  simpa using hi
theorem Bk.frozen {w : World} {b : Nat} {cs : List Value} {t : TypeId} (h : Bk w b cs t) (i : Nat) : w.frozen? ⟨b, i, none⟩ = false := frozen_of_row w b i _ _ h
theorem Bk.new (w : World) (cs : List Value) (t : TypeId) : Bk (w.alloc (.cells cs.toArray t)) w.heap.size cs t := by
  unfold Bk World.alloc
  simp
theorem Bk.set {w : World} {b : Nat} {cs : List Value} {t : TypeId} (h : Bk w b cs t) (i : Nat) (v : Value) : Bk (w.setCell ⟨b, i, none⟩ v) b (cs.set i v) t := by
  unfold Bk at *
  rw [heap_setCell_same w b i _ _ _ h]
  simp
theorem Bk.other {w : World} {b : Nat} {cs : List Value} {t : TypeId} (h : Bk w b cs t) (a : Addr) (v : Value) (hg : b ≠ a.block) : Bk (w.setCell a v) b cs t := by
  unfold Bk at *
  rw [heap_setCell_other w a b v hg]
  exact h
theorem ownsRow_far {w : World} {base : Nat} {e : TypeId} {sz : Nat} {v : Value} {n : Nat} {cs : List Value} (h : w.ownsRow base e sz v n cs) {p : Addr} (hne : v.ownBlock ≠ some p.block) (u : Value) : (w.setCell p u).ownsRow base e sz v n cs := by
  refine ⟨h.1, ?_⟩
  rcases h.2 with hn | ⟨g, cap, cur, rfl, hb, hgg, rest⟩
  · exact .inl hn
  · refine .inr ⟨g, cap, cur, rfl, hb, ?_, rest⟩
    rw [heap_setCell_other w p g u (fun e => hne (by simp [Value.ownBlock, e]))]
    exact hgg
theorem LOwn.far {α : Type} {f : α → List Value} {sz : Nat} {e : TypeId} {w : World} {base : Nat} {v : Value} {l : List α} (h : LOwn f sz e w base v l) {p : Addr} (hne : v.ownBlock ≠ some p.block) (u : Value) : LOwn f sz e (w.setCell p u) base v l := ownsRow_far h hne u
/-- make of n records, as a run. -/
theorem made_recs {α : Type} {f : α → List Value} {sz byt : Nat} (hf : ∀ x, (f x).length = sz) (h0 : 0 < sz) (z : α) {t e : TypeId} (ht : Tryd.prog.underlying t = some (.slice e)) (hinfo : (Tryd.prog.info? e).map (fun i => (i.size, i.bytes, i.zero.map (·.cells))) = some (sz, byt, some (f z).toArray))
    (w : World) (n : Nat) (hn : n * byt ≤ 140737488355328) (hn2 : n ≤ 140737488355328) :
    ∃ w', (Instr.makeSlice t (.int .i64 (n : Int)) (.int .i64 (n : Int))).run Tryd.prog w = .ok (.slice (some ⟨w.heap.size, 0, none⟩) n n) w' ∧ LOwn f sz e w' w.heap.size (.slice (some ⟨w.heap.size, 0, none⟩) n n) (List.replicate n z) ∧ Below w.heap.size w w' := by
  obtain ⟨i, zz, hi, hz, hsz, hby, hzc⟩ := info_open hinfo
  obtain ⟨w', hrun, h1, h2⟩ := run_make_full (P := Tryd.prog) w w.heap.size t e i zz sz ht hi hz hsz .i64 .i64 n (by rw [hby, Nat.mul_comm]; exact Nat.le_trans hn (by decide)) (by unfold maxLen; omega) (Nat.le_refl _)
  refine ⟨w', hrun, ?_, (Below.refl _ _).grown h2 (Nat.le_refl _) (by intro k e; cases e)⟩
  unfold LOwn
  rw [made_flat hf h0 z hzc] at h1
  rw [List.length_replicate]
  exact h1
/-- A Send, as its cells; v is the list Acked. -/
structure Sd where
  (part boot peer num stage : Int) (image : ByteArray) (rounds : Int)
def Sd.cells (s : Sd) (v : Value) : List Value := [.int .i64 s.part, .int .i64 s.boot, .int .i64 s.peer, .int .i64 s.num, .int .i64 s.stage, .string s.image, v, .int .i64 s.rounds]
def zSd : Sd := ⟨0, 0, 0, 0, 0, ⟨#[]⟩, 0⟩
def startS (pt b r m st : Int) (L : List Nat) : Sd := if cutE pt b r m st L.length = 0 then ⟨pt, b, r, m, st, str L, 0⟩ else zSd
def startA (pt b r m st : Int) (L : List Nat) : List Bool := if cutE pt b r m st L.length = 0 then List.replicate (tot L) false else []
theorem cutN_len (pt b r m st : Int) (L : List Nat) : (cutN pt b r m st L).length = tot L := by simp [cutN]
theorem cutL_len {pt b r m st : Int} {L : List Nat} (h : cutE pt b r m st L.length = 0) : (cutL pt b r m st L).length = tot L := by
  unfold cutL
  rw [if_pos h, cutN_len]
theorem cutE_ok {pt b r m st : Int} {n : Nat} (h : cutE pt b r m st n = 0) : 1 ≤ n ∧ n ≤ 4096 := by
  unfold cutE at h
  split at h
  · split at h
    · cases h
    · omega
  · cases h
theorem cutE_cases (pt b r m st : Int) (n : Nat) : cutE pt b r m st n = 0 ∨ cutE pt b r m st n = 11 ∨ cutE pt b r m st n = 12 := by
  unfold cutE
  split
  · split
    · exact .inr (.inl rfl)
    · exact .inl rfl
  · exact .inr (.inr rfl)

set_option maxRecDepth 100000 in
set_option maxHeartbeats 2000000 in
theorem start_any (pt b r m st : Int) (a : Option Addr) (n c : Nat) (L : List Nat) {w : World} {E : Nat → Addr} (he : Er7 w E) (hs : Bts w a n c L) :
    Calls Tryd.prog 26 #[.int .i64 pt, .agg #[.int .i64 b, .int .i64 r, .int .i64 m], .int .i64 st, .slice a n c] w fun e w' => ∃ v, e = .returned (.tuple #[.agg ((startS pt b r m st L).cells v).toArray, erv E (cutE pt b r m st n)]) ∧ FlOwn w' w.heap.size v (startA pt b r m st L) ∧ Below w.heap.size w w' := by
  have hl := hs.size
  have HE := hide he
  have HS := hide hs
  obtain ⟨k, hk⟩ : ∃ k, cutE pt b r m st n = k := ⟨_, rfl⟩
  have HK := hide hk
  rw [hk]
  have HC := hide (cutE_cases pt b r m st n)
  clear he hs hk
  obtain ⟨W, hW⟩ : ∃ W, (w.alloc (.cells #[.int .i64 b, .int .i64 r, .int .i64 m] 23)).alloc (.cells #[.int .i64 0, .int .i64 0, .int .i64 0, .int .i64 0, .int .i64 0, .string ⟨#[]⟩, .slice none 0 0, .int .i64 0] 48) = W := ⟨_, rfl⟩
  have hsz : (w.alloc (.cells #[.int .i64 b, .int .i64 r, .int .i64 m] 23)).heap.size = w.heap.size + 1 := Array.size_push _
  have D0 := (Below.refl w.heap.size w).alloc (Nat.le_refl _) (.cells #[.int .i64 b, .int .i64 r, .int .i64 m] 23)
  have D1 := (Below.refl _ (w.alloc (.cells #[.int .i64 b, .int .i64 r, .int .i64 m] 23))).alloc (Nat.le_refl _) (.cells #[.int .i64 0, .int .i64 0, .int .i64 0, .int .i64 0, .int .i64 0, .string ⟨#[]⟩, .slice none 0 0, .int .i64 0] 48)
  have B0 := (Bk.new w [.int .i64 b, .int .i64 r, .int .i64 m] 23).below D1
  have B1 := Bk.new (w.alloc (.cells #[.int .i64 b, .int .i64 r, .int .i64 m] 23)) [.int .i64 0, .int .i64 0, .int .i64 0, .int .i64 0, .int .i64 0, .string ⟨#[]⟩, .slice none 0 0, .int .i64 0] 48
  have D2 := chain D0 D1
  rw [hW] at B0 B1 D2
  rw [hsz] at B1
  have HB0 := hide B0
  have HB1 := hide B1
  have HD := hide D2
  have HWD := hide hW
  clear B0 B1 D0 D1 D2 hsz hW
  have HC1 := hide cut_any
  go_enter Tryd.func26, Tryd.ntmps26
  go_wp2_with fail
  have hW := HWD.out
  clear HWD
  simp only [hW]
  refine Calls.mono (HC1.out pt b r m st a n c L (HE.out.below HD.out) (HS.out.below HD.out)) ?_
  rintro e w1 ⟨v, rfl, o1, b1⟩
  have HO := hide o1
  have HB0 := hide (HB0.out.below b1)
  have HB1 := hide (HB1.out.below b1)
  have HD := hide (chain HD.out b1)
  have HE := hide (HE.out.below HD.out)
  have HS := hide (HS.out.below HD.out)
  clear b1 o1 hW HC1
  have f0 := HB1.out.frozen 0
  have f1 := HB1.out.frozen 1
  have f2 := HB1.out.frozen 2
  have f3 := HB1.out.frozen 3
  have f4 := HB1.out.frozen 4
  have f5 := HB1.out.frozen 5
  have f6 := HB1.out.frozen 6
  have f7 := HB1.out.frozen 7
  have g0 := HB1.out.cell 0 rfl
  have g1 := HB1.out.cell 1 rfl
  have g2 := HB1.out.cell 2 rfl
  have g3 := HB1.out.cell 3 rfl
  have g4 := HB1.out.cell 4 rfl
  have g5 := HB1.out.cell 5 rfl
  have g6 := HB1.out.cell 6 rfl
  have g7 := HB1.out.cell 7 rfl
  by_cases hk0 : k = 0
  · have HN : Hid (erv E (cutE pt b r m st n) = .nilIface) := by
      unfold Hid
      rw [HK.out]
      unfold erv
      exact if_pos hk0
    have h0 : cutE pt b r m st L.length = 0 := by rw [hl, HK.out]; exact hk0
    have HV : Hid (startS pt b r m st L = ⟨pt, b, r, m, st, str L, 0⟩ ∧ startA pt b r m st L = List.replicate (tot L) false) := ⟨if_pos h0, if_pos h0⟩
    have HT := hide (cutL_len h0)
    have hn4 := (cutE_ok h0).2
    obtain ⟨t, ht⟩ : ∃ t, tot L = t := ⟨_, rfl⟩
    have ht32 : t ≤ 32 := by rw [← ht]; unfold tot; omega
    obtain ⟨av, cv, rfl, -⟩ := HO.out.rcs
    rw [HN.out]
    rw [HT.out, ht]
    obtain ⟨w2, hrun, o2, b2⟩ := made_recs (f := bvl) (sz := 1) bvl1 (by decide) false Tryd.underlying24 infoFl w1.drew t (by omega) (by omega)
    have B2 := (HB1.out.below (Below.refl _ _).drew).below b2
    have D2 := chain HD.out.drew b2
    have c0 := HB0.out.cell 0 rfl
    have c1 := HB0.out.cell 1 rfl
    have c2 := HB0.out.cell 2 rfl
    have B02 := (HB0.out.below (Below.refl _ _).drew).below b2
    have c0' := B02.cell 0 rfl
    have c1' := B02.cell 1 rfl
    have c2' := B02.cell 2 rfl
    have hcv := bts_string (HS.out.below (Below.refl _ _).drew)
    have hcv' := bts_string ((HS.out.below (Below.refl _ _).drew).below b2)
    have f0' := B2.frozen 0
    have f1' := B2.frozen 1
    have f2' := B2.frozen 2
    have f3' := B2.frozen 3
    have f4' := B2.frozen 4
    have f5' := B2.frozen 5
    have f6' := B2.frozen 6
    have f7' := B2.frozen 7
    have g0' := B2.cell 0 rfl
    have g1' := B2.cell 1 rfl
    have g2' := B2.cell 2 rfl
    have g3' := B2.cell 3 rfl
    have g4' := B2.cell 4 rfl
    have g5' := B2.cell 5 rfl
    have g6' := B2.cell 6 rfl
    have g7' := B2.cell 7 rfl
    clear f0 f1 f2 f3 f4 f5 f6 f7 g0 g1 g2 g3 g4 g5 g6 g7
    have HO2 := hide o2
    have HB2 := hide B2
    have HD2 := hide D2
    clear o2 B2 B02 b2 D2 h0
    go_upto_region 4 with fail
    go_region
    have hge : w.heap.size ≤ w.heap.size + 1 := Nat.le_succ _
    have hne : (Value.slice (some ⟨w1.heap.size, 0, none⟩) t t).ownBlock ≠ some (w.heap.size + 1) := by
      have h1 := HB1.out.lt
      intro h2
      have h3 : w1.heap.size = w.heap.size + 1 := by simpa [Value.ownBlock] using h2
      omega
    have HB3 := hide (((((((((HB2.out.set 0 (.int .i64 pt)).set 1 (.int .i64 b)).set 2 (.int .i64 r)).set 3 (.int .i64 m)).set 4 (.int .i64 st)).set 5 (.string (str L))).set 6 (.slice (some ⟨w1.heap.size, 0, none⟩) t t)).set 7 (.int .i64 0)))
    have HD3 := hide (((((((((HD2.out.setCell (p := ⟨w.heap.size + 1, 0, none⟩) hge (.int .i64 pt)).setCell (p := ⟨w.heap.size + 1, 1, none⟩) hge (.int .i64 b)).setCell (p := ⟨w.heap.size + 1, 2, none⟩) hge (.int .i64 r)).setCell (p := ⟨w.heap.size + 1, 3, none⟩) hge (.int .i64 m)).setCell (p := ⟨w.heap.size + 1, 4, none⟩) hge (.int .i64 st)).setCell (p := ⟨w.heap.size + 1, 5, none⟩) hge (.string (str L))).setCell (p := ⟨w.heap.size + 1, 6, none⟩) hge (.slice (some ⟨w1.heap.size, 0, none⟩) t t)).setCell (p := ⟨w.heap.size + 1, 7, none⟩) hge (.int .i64 0)))
    have HO3 := hide (((((((((HO2.out.far (p := ⟨w.heap.size + 1, 0, none⟩) hne (.int .i64 pt)).far (p := ⟨w.heap.size + 1, 1, none⟩) hne (.int .i64 b)).far (p := ⟨w.heap.size + 1, 2, none⟩) hne (.int .i64 r)).far (p := ⟨w.heap.size + 1, 3, none⟩) hne (.int .i64 m)).far (p := ⟨w.heap.size + 1, 4, none⟩) hne (.int .i64 st)).far (p := ⟨w.heap.size + 1, 5, none⟩) hne (.string (str L))).far (p := ⟨w.heap.size + 1, 6, none⟩) hne (.slice (some ⟨w1.heap.size, 0, none⟩) t t)).far (p := ⟨w.heap.size + 1, 7, none⟩) hne (.int .i64 0)))
    clear hge hne
    generalize ((((((((w2.setCell ⟨w.heap.size + 1, 0, none⟩ (.int .i64 pt)).setCell ⟨w.heap.size + 1, 1, none⟩ (.int .i64 b)).setCell ⟨w.heap.size + 1, 2, none⟩ (.int .i64 r)).setCell ⟨w.heap.size + 1, 3, none⟩ (.int .i64 m)).setCell ⟨w.heap.size + 1, 4, none⟩ (.int .i64 st)).setCell ⟨w.heap.size + 1, 5, none⟩ (.string (str L))).setCell ⟨w.heap.size + 1, 6, none⟩ (.slice (some ⟨w1.heap.size, 0, none⟩) t t)).setCell ⟨w.heap.size + 1, 7, none⟩ (.int .i64 0)) = W9 at *
    go_wp2
    have e0 := HB3.out.cell 0 rfl
    have e1 := HB3.out.cell 1 rfl
    have e2 := HB3.out.cell 2 rfl
    have e3 := HB3.out.cell 3 rfl
    have e4 := HB3.out.cell 4 rfl
    have e5 := HB3.out.cell 5 rfl
    have e6 := HB3.out.cell 6 rfl
    have e7 := HB3.out.cell 7 rfl
    refine bodyPost_ret (v := .tuple #[.agg #[.int .i64 pt, .int .i64 b, .int .i64 r, .int .i64 m, .int .i64 st, .string (str L), .slice (some ⟨w1.heap.size, 0, none⟩) t t, .int .i64 0], .nilIface]) (by simp [results, Tryd.results26, go_sem, e0, e1, e2, e3, e4, e5, e6, e7]) rfl ?_
    refine ⟨.slice (some ⟨w1.heap.size, 0, none⟩) t t, ?_, ?_, HD3.out⟩
    · rw [HV.out.1]
      unfold erv
      rw [if_pos hk0]
      rfl
    · rw [HV.out.2, ht]
      exact HO3.out.weaken (Nat.le_of_lt (Nat.lt_of_succ_lt HB1.out.lt))
  · have HN : Hid (erv E (cutE pt b r m st n) = sent (E k)) := by
      unfold Hid
      rw [HK.out]
      unfold erv
      exact if_neg hk0
    have HV : Hid (startS pt b r m st L = zSd ∧ startA pt b r m st L = []) := by
      have h1 : ¬ cutE pt b r m st L.length = 0 := by rw [hl, HK.out]; exact hk0
      exact ⟨if_neg h1, if_neg h1⟩
    rw [HN.out]
    unfold sent
    have B2 := hide ((((((((HB1.out.set 0 (.int .i64 0)).set 1 (.int .i64 0)).set 2 (.int .i64 0)).set 3 (.int .i64 0)).set 4 (.int .i64 0)).set 5 (.string ⟨#[]⟩)).set 6 (.slice none 0 0)).set 7 (.int .i64 0))
    have hge : w.heap.size ≤ w.heap.size + 1 := Nat.le_succ _
    have D2 := hide ((((((((HD.out.setCell (p := ⟨w.heap.size + 1, 0, none⟩) hge (.int .i64 0)).setCell (p := ⟨w.heap.size + 1, 1, none⟩) hge (.int .i64 0)).setCell (p := ⟨w.heap.size + 1, 2, none⟩) hge (.int .i64 0)).setCell (p := ⟨w.heap.size + 1, 3, none⟩) hge (.int .i64 0)).setCell (p := ⟨w.heap.size + 1, 4, none⟩) hge (.int .i64 0)).setCell (p := ⟨w.heap.size + 1, 5, none⟩) hge (.string ⟨#[]⟩)).setCell (p := ⟨w.heap.size + 1, 6, none⟩) hge (.slice none 0 0)).setCell (p := ⟨w.heap.size + 1, 7, none⟩) hge (.int .i64 0))
    clear hge
    go_wp2
    generalize (((((((w1.setCell ⟨w.heap.size + 1, 0, none⟩ (.int .i64 0)).setCell ⟨w.heap.size + 1, 1, none⟩ (.int .i64 0)).setCell ⟨w.heap.size + 1, 2, none⟩ (.int .i64 0)).setCell ⟨w.heap.size + 1, 3, none⟩ (.int .i64 0)).setCell ⟨w.heap.size + 1, 4, none⟩ (.int .i64 0)).setCell ⟨w.heap.size + 1, 5, none⟩ (.string ⟨#[]⟩)).setCell ⟨w.heap.size + 1, 6, none⟩ (.slice none 0 0)).setCell ⟨w.heap.size + 1, 7, none⟩ (.int .i64 0) = W9 at *
    have e0 := B2.out.cell 0 rfl
    have e1 := B2.out.cell 1 rfl
    have e2 := B2.out.cell 2 rfl
    have e3 := B2.out.cell 3 rfl
    have e4 := B2.out.cell 4 rfl
    have e5 := B2.out.cell 5 rfl
    have e6 := B2.out.cell 6 rfl
    have e7 := B2.out.cell 7 rfl
    refine bodyPost_ret (v := .tuple #[.agg #[.int .i64 0, .int .i64 0, .int .i64 0, .int .i64 0, .int .i64 0, .string ⟨#[]⟩, .slice none 0 0, .int .i64 0], sent (E k)]) (by simp [results, Tryd.results26, go_sem, e0, e1, e2, e3, e4, e5, e6, e7, sent]) rfl ?_
    refine ⟨.slice none 0 0, ?_, ?_, D2.out⟩
    · rw [HV.out.1]
      unfold erv
      rw [if_neg hk0]
      rfl
    · rw [HV.out.2]
      exact World.ownsRow_nil _ _ _ _
end Go.Proofs.YtnopclacchoijaaDoor
