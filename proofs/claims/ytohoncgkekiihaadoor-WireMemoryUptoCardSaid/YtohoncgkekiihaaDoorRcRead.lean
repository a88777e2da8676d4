/-
  The document's cursor: Ranged, the end, no error.
-/
import Derived.Test.YtohoncgkekiihaaDoorRcBase
import Derived.Test.YtohoncgkekiihaaDoorWStep
namespace Go.Proofs.YtohoncgkekiihaaDoor
open Go.RowKit FerryCrc
set_option linter.unusedVariables false
set_option linter.unusedSimpArgs false

set_option maxRecDepth 100000 in
theorem rnone_any (w : World) :
    Calls Tryd.prog 48 #[] w fun e w' => e = .returned (rerr 0 (-1)) ∧ Below w.heap.size w w' := by
  go_enter Tryd.func48, Tryd.ntmps48
  go_wp2
  (try simp only [Exit.inBlock, Exit.then])
  refine bodyPost_ret (v := rerr 0 (-1)) (by simp [results, Tryd.results48, go_sem]; rfl) rfl ?_
  exact ⟨rfl, (Below.refl _ _).alloc (Nat.le_refl _) _⟩

/-- What a call of the document's cursor leaves: an answer, an error's code and place, and where the cursor stands. -/
def DAns (w : World) (d g len cap bd : Nat) (L : List Nat) (v : Value) (k : Nat) (q : Int) (p' : Nat) (e : Ending) (w' : World) : Prop :=
  e = .returned (.tuple #[v, rerr (k : Int) q]) ∧ Doc w' d g len cap p' bd L ∧ Frm (fun j => j = d) w w'
theorem frm_two {S : Nat → Prop} {w W : World} {b : Nat} {u v : Value} (h : Frm S w W) (hb : w.heap.size ≤ b) : Frm S w ((W.setCell ⟨b, 0, none⟩ u).setCell ⟨b, 1, none⟩ v) :=
  (h.trans (frm_setCell W ⟨b, 0, none⟩ u) (fun j hj t => by have t : j = b := t; omega)).trans (frm_setCell _ ⟨b, 1, none⟩ v) (fun j hj t => by have t : j = b := t; omega)
theorem bel_two {B : Nat} {w W : World} {b : Nat} {u v : Value} (h : Below B w W) (hb : B ≤ b) : Below B w ((W.setCell ⟨b, 0, none⟩ u).setCell ⟨b, 1, none⟩ v) :=
  (h.setCell (p := ⟨b, 0, none⟩) hb u).setCell (p := ⟨b, 1, none⟩) hb v
theorem Doc.two {w : World} {d g len cap p bd b : Nat} {L : List Nat} {u v : Value} (h : Doc w d g len cap p bd L) (h1 : d ≠ b) (h2 : g ≠ b) : Doc ((w.setCell ⟨b, 0, none⟩ u).setCell ⟨b, 1, none⟩ v) d g len cap p bd L :=
  (h.frm (frm_setCell w ⟨b, 0, none⟩ u) h1 h2).frm (frm_setCell _ ⟨b, 1, none⟩ v) h1 h2

set_option maxRecDepth 100000 in
set_option maxHeartbeats 400000 in
theorem rranged_arg (d g len cap p bd : Nat) (L : List Nat) (wd lo hi : Int) (w : World) (h : Doc w d g len cap p bd L) (h1 : wd ≠ 1) (h2 : wd ≠ 2) (h4 : wd ≠ 4) :
    Calls Tryd.prog 88 #[.pointer (some ⟨d, 0, none⟩), .int .i64 wd, .int .i64 lo, .int .i64 hi] w fun e w' => DAns w d g len cap bd L (.int .i64 0) 12 (-1) p e w' := by
  have HM := hide (fun wx => rmost_any wd wx)
  rw [if_neg h1, if_neg h2, if_neg h4] at HM
  have H0 := hide h
  clear h h1 h2 h4
  go_enter Tryd.func88, Tryd.ntmps88
  go_wp2_with fail
  refine Calls.mono (HM.out _) ?_
  rintro e w1 ⟨rfl, rfl⟩
  go_wp2
  (try simp only [Exit.inBlock, Exit.then])
  refine bodyPost_ret (v := .tuple #[.int .i64 0, rerr 12 (-1)]) (by simp [results, Tryd.results88, go_sem]; rfl) rfl ?_
  have HW := hide ((Below.refl w.heap.size w).alloc (Nat.le_refl _) (.cells #[.int .i64 12, .int .i64 (-1)] 31))
  exact ⟨rfl, H0.out.below HW.out, Frm.ofBelow HW.out⟩

set_option maxRecDepth 100000 in
set_option maxHeartbeats 400000 in
theorem rranged_short (d g len cap p bd : Nat) (L : List Nat) (n : Nat) (lo hi : Int) (w : World) (h : Doc w d g len cap p bd L) (hn : n = 1 ∨ n = 2 ∨ n = 4) (hs : bd - p < n) :
    Calls Tryd.prog 88 #[.pointer (some ⟨d, 0, none⟩), .int .i64 (n : Int), .int .i64 lo, .int .i64 hi] w fun e w' => DAns w d g len cap bd L (.int .i64 0) 1 (p : Int) p e w' := by
  have H0 := hide h
  have HT := hide (two_alloc w (.int .i64 0) (.int .i64 0) 31)
  have HB : Hid (Below w.heap.size w (w.alloc (.cells #[.int .i64 0, .int .i64 0] 31))) := (Below.refl _ _).alloc (Nat.le_refl _) _
  have H := hide (h.below HB.out)
  have HC := hide (rleft_any d g len cap p bd L _ H.out)
  have hlt : ((bd - p : Nat) : Int) < (n : Int) := by omega
  have hlt2 : (bd - p : Nat) < n := hs
  generalize bd - p = q at *
  clear h hs
  rcases hn with rfl | rfl | rfl
  all_goals
    go_enter Tryd.func88, Tryd.ntmps88
    go_wp2_with fail
    refine Calls.mono (rmost_any _ _) ?_
    rintro e w1 ⟨rfl, rfl⟩
    go_wp2_with fail
    refine Calls.mono HC.out ?_
    rintro e w1 ⟨rfl, hb⟩
    have HT1 := hide (HT.out.below hb)
    have H1 := hide (H.out.below hb)
    have HB1 := hide (chain HB.out hb)
    have c1 := H1.out.c1
    have t0 := HT1.out.c0
    have t1 := HT1.out.c1
    have f0 := HT1.out.f0
    have f1 := HT1.out.f1
    clear hb
    go_wp2
    go_region
    all_goals go_wp2
    all_goals
      have q0 := (HT1.out.set (.int .i64 1) (.int .i64 (p : Int))).c0
      have q1 := (HT1.out.set (.int .i64 1) (.int .i64 (p : Int))).c1
      have HW := hide ((bel_two (u := .int .i64 1) (v := .int .i64 (p : Int)) HB1.out (Nat.le_refl _)).drew)
      (try simp only [Exit.inBlock, Exit.then])
      refine bodyPost_ret (v := .tuple #[.int .i64 0, rerr 1 (p : Int)]) (by simp [results, Tryd.results88, go_sem, q0, q1]; rfl) rfl ?_
      exact ⟨rfl, H0.out.below HW.out, Frm.ofBelow HW.out⟩

set_option maxRecDepth 100000 in
set_option maxHeartbeats 400000 in
theorem rranged_out (d g len cap p bd : Nat) (L : List Nat) (n : Nat) (lo hi : Int) (w : World) (h : Doc w d g len cap p bd L) (hn : n = 1 ∨ n = 2 ∨ n = 4) (hs : n ≤ bd - p) (ho : (nbe (cut L p n) : Int) < lo ∨ hi < (nbe (cut L p n) : Int)) :
    Calls Tryd.prog 88 #[.pointer (some ⟨d, 0, none⟩), .int .i64 (n : Int), .int .i64 lo, .int .i64 hi] w fun e w' => DAns w d g len cap bd L (.int .i64 0) 4 (p : Int) p e w' := by
  have H0 := hide h
  have HT := hide (two_alloc w (.int .i64 0) (.int .i64 0) 31)
  have HB : Hid (Below w.heap.size w (w.alloc (.cells #[.int .i64 0, .int .i64 0] 31))) := (Below.refl _ _).alloc (Nat.le_refl _) _
  have H := hide (h.below HB.out)
  have HC := hide (rleft_any d g len cap p bd L _ H.out)
  have HP := hide (fun w2 (h2 : Doc w2 d g len cap p bd L) => rvalue_any d g len cap p bd L p n w2 h2 (by omega) (by have := h.most; omega))
  have hlt : ¬ ((bd - p : Nat) : Int) < (n : Int) := by omega
  have hlt2 : ¬ (bd - p : Nat) < n := by omega
  generalize bd - p = q at *
  have HO : Hid ((nbe (cut L p n) : Int) < lo ∨ ¬ (nbe (cut L p n) : Int) < lo ∧ hi < (nbe (cut L p n) : Int)) := by
    unfold Hid
    rcases ho with ho | ho
    · exact .inl ho
    · by_cases hx : (nbe (cut L p n) : Int) < lo
      · exact .inl hx
      · exact .inr ⟨hx, ho⟩
  generalize nbe (cut L p n) = m at *
  clear h hs ho
  have key : ((m : Int) < lo ∨ ¬ (m : Int) < lo ∧ hi < (m : Int)) := HO.out
  rcases key with key | ⟨key0, key⟩
  all_goals
    rcases hn with rfl | rfl | rfl
    all_goals
      go_enter Tryd.func88, Tryd.ntmps88
      go_wp2_with fail
      refine Calls.mono (rmost_any _ _) ?_
      rintro e w1 ⟨rfl, rfl⟩
      go_wp2_with fail
      refine Calls.mono HC.out ?_
      rintro e w1 ⟨rfl, hb⟩
      have HT1 := hide (HT.out.below hb)
      have H1 := hide (H.out.below hb)
      have HB1 := hide (chain HB.out hb)
      have c1 := H1.out.c1
      have t0 := HT1.out.c0
      have t1 := HT1.out.c1
      have f0 := HT1.out.f0
      have f1 := HT1.out.f1
      clear hb
      go_wp2_with fail
      refine Calls.mono (HP.out w1 H1.out) ?_
      rintro e w2 ⟨rfl, rfl⟩
      go_wp2
      go_region
      all_goals go_wp2
      all_goals
        have q0 := (HT1.out.set (.int .i64 4) (.int .i64 (p : Int))).c0
        have q1 := (HT1.out.set (.int .i64 4) (.int .i64 (p : Int))).c1
        have HW := hide ((bel_two (u := .int .i64 4) (v := .int .i64 (p : Int)) HB1.out (Nat.le_refl _)).drew)
        (try simp only [Exit.inBlock, Exit.then])
        refine bodyPost_ret (v := .tuple #[.int .i64 0, rerr 4 (p : Int)]) (by simp [results, Tryd.results88, go_sem, q0, q1]; rfl) rfl ?_
        exact ⟨rfl, H0.out.below HW.out, Frm.ofBelow HW.out⟩

set_option maxRecDepth 100000 in
set_option maxHeartbeats 400000 in
theorem rranged_ok (d g len cap p bd : Nat) (L : List Nat) (n : Nat) (lo hi : Int) (w : World) (h : Doc w d g len cap p bd L) (hn : n = 1 ∨ n = 2 ∨ n = 4) (hs : n ≤ bd - p) (h1 : lo ≤ (nbe (cut L p n) : Int)) (h2 : (nbe (cut L p n) : Int) ≤ hi) :
    Calls Tryd.prog 88 #[.pointer (some ⟨d, 0, none⟩), .int .i64 (n : Int), .int .i64 lo, .int .i64 hi] w fun e w' => DAns w d g len cap bd L (.int .i64 ((nbe (cut L p n) : Nat) : Int)) 0 (-1) (p + n) e w' := by
  have H0 := hide h
  have HT := hide (two_alloc w (.int .i64 0) (.int .i64 0) 31)
  have HB : Hid (Below w.heap.size w (w.alloc (.cells #[.int .i64 0, .int .i64 0] 31))) := (Below.refl _ _).alloc (Nat.le_refl _) _
  have H := hide (h.below HB.out)
  have HC := hide (rleft_any d g len cap p bd L _ H.out)
  have HP := hide (fun w2 (h2 : Doc w2 d g len cap p bd L) => rvalue_any d g len cap p bd L p n w2 h2 (by omega) (by have := h.most; omega))
  have hq := h.le
  have hq2 := h.most
  have hq3 := h.bts.most
  have hpn : p + n ≤ bd := by omega
  have hlt : ¬ ((bd - p : Nat) : Int) < (n : Int) := by omega
  have hlt2 : ¬ (bd - p : Nat) < n := by omega
  have hdl : d < w.heap.size := h.lt
  generalize bd - p = q at *
  generalize nbe (cut L p n) = m at *
  have d1 : ¬ (m : Int) < lo := by omega
  have d2 : ¬ hi < (m : Int) := by omega
  obtain ⟨hi', hhi⟩ : ∃ hi', p + n = hi' := ⟨_, rfl⟩
  rw [hhi]
  have hpb : hi' ≤ bd := by omega
  have hwh : IntKind.i64.wrap (hi' : Int) = (hi' : Int) := by rw [IntKind.wrap_i64]; omega
  have HI := hide hhi
  clear h hs h1 h2 hhi hpn
  rcases hn with rfl | rfl | rfl
  all_goals
    (first | (have e3 : (p : Int) + 1 = (hi' : Int) := by have := HI.out; omega) | (have e3 : (p : Int) + 2 = (hi' : Int) := by have := HI.out; omega) | (have e3 : (p : Int) + 4 = (hi' : Int) := by have := HI.out; omega))
    go_enter Tryd.func88, Tryd.ntmps88
    go_wp2_with fail
    refine Calls.mono (rmost_any _ _) ?_
    rintro e w1 ⟨rfl, rfl⟩
    go_wp2_with fail
    refine Calls.mono HC.out ?_
    rintro e w1 ⟨rfl, hb⟩
    have HT1 := hide (HT.out.below hb)
    have H1 := hide (H.out.below hb)
    have HB1 := hide (chain HB.out hb)
    have c1 := H1.out.c1
    have f1 := H1.out.f1
    clear hb
    go_wp2_with fail
    refine Calls.mono (HP.out w1 H1.out) ?_
    rintro e w2 ⟨rfl, rfl⟩
    go_wp2_with fail
    have HMV := hide (H1.out.move hpb)
    have HF := hide ((Frm.ofBelow (S := fun j => j = d) HB1.out).trans (frm_setCell w1 ⟨d, 1, none⟩ (.int .i64 (hi' : Int))) (fun j _ t => t))
    have HT2 := hide (HT1.out.far (b' := d) (o := 1) (u := .int .i64 (hi' : Int)) (by omega))
    clear c1 f1
    generalize w1.setCell ⟨d, 1, none⟩ (.int .i64 (hi' : Int)) = W2 at *
    refine Calls.mono (rnone_any W2) ?_
    rintro e w3 ⟨rfl, hb⟩
    have HT3 := hide (HT2.out.below hb)
    have H3 := hide (HMV.out.below hb)
    have HF3 := hide (HF.out.trans (Frm.ofBelow (S := fun _ => False) hb) (fun j _ t => t.elim))
    have t0 := HT3.out.c0
    have t1 := HT3.out.c1
    have f0 := HT3.out.f0
    have f1 := HT3.out.f1
    clear hb
    unfold rerr
    go_wp2
    have q0 := (HT3.out.set (.int .i64 0) (.int .i64 (-1))).c0
    have q1 := (HT3.out.set (.int .i64 0) (.int .i64 (-1))).c1
    have HW := hide (frm_two (u := .int .i64 0) (v := .int .i64 (-1)) HF3.out (Nat.le_refl _))
    have HD := hide (H3.out.two (b := w.heap.size) (u := .int .i64 0) (v := .int .i64 (-1)) (by omega) (by have := H0.out.ne.2; omega))
    (try simp only [Exit.inBlock, Exit.then])
    refine bodyPost_ret (v := .tuple #[.int .i64 (m : Int), rerr 0 (-1)]) (by simp [results, Tryd.results88, go_sem, q0, q1]; rfl) rfl ?_
    exact ⟨rfl, HD.out, HW.out⟩

set_option maxRecDepth 100000 in
theorem rended_any (d g len cap p bd : Nat) (L : List Nat) (w : World) (h : Doc w d g len cap p bd L) :
    Calls Tryd.prog 29 #[.pointer (some ⟨d, 0, none⟩)] w fun e w' => e = .returned (if bd - p = 0 then rerr 0 (-1) else rerr 2 (p : Int)) ∧ Below w.heap.size w w' := by
  have HT := hide (two_alloc w (.int .i64 0) (.int .i64 0) 31)
  have HB : Hid (Below w.heap.size w (w.alloc (.cells #[.int .i64 0, .int .i64 0] 31))) := (Below.refl _ _).alloc (Nat.le_refl _) _
  have H := hide (h.below HB.out)
  have HC := hide (rleft_any d g len cap p bd L _ H.out)
  by_cases h0 : bd - p = 0
  · rw [if_pos h0]
    rw [h0] at HC
    clear h h0
    go_enter Tryd.func29, Tryd.ntmps29
    go_wp2_with fail
    refine Calls.mono HC.out ?_
    rintro e w1 ⟨rfl, hb⟩
    have HT1 := hide (HT.out.below hb)
    have HB1 := hide (chain HB.out hb)
    clear hb
    go_wp2_with fail
    refine Calls.mono (rnone_any w1) ?_
    rintro e w3 ⟨rfl, hb⟩
    have HT3 := hide (HT1.out.below hb)
    have HB3 := hide (chain HB1.out hb)
    have t0 := HT3.out.c0
    have t1 := HT3.out.c1
    have f0 := HT3.out.f0
    have f1 := HT3.out.f1
    clear hb
    unfold rerr
    go_wp2
    have q0 := (HT3.out.set (.int .i64 0) (.int .i64 (-1))).c0
    have q1 := (HT3.out.set (.int .i64 0) (.int .i64 (-1))).c1
    (try simp only [Exit.inBlock, Exit.then])
    refine bodyPost_ret (v := rerr 0 (-1)) (by simp [results, Tryd.results29, go_sem, q0, q1]; rfl) rfl ?_
    exact ⟨rfl, bel_two HB3.out (Nat.le_refl _)⟩
  · rw [if_neg h0]
    have hlt : (0 : Int) < ((bd - p : Nat) : Int) := by omega
    generalize bd - p = q at *
    clear h h0
    go_enter Tryd.func29, Tryd.ntmps29
    go_wp2_with fail
    refine Calls.mono HC.out ?_
    rintro e w1 ⟨rfl, hb⟩
    have HT1 := hide (HT.out.below hb)
    have HB1 := hide (chain HB.out hb)
    have c1 := (H.out.below hb).c1
    have t0 := HT1.out.c0
    have t1 := HT1.out.c1
    have f0 := HT1.out.f0
    have f1 := HT1.out.f1
    clear hb
    go_wp2
    have q0 := (HT1.out.set (.int .i64 2) (.int .i64 (p : Int))).c0
    have q1 := (HT1.out.set (.int .i64 2) (.int .i64 (p : Int))).c1
    (try simp only [Exit.inBlock, Exit.then])
    refine bodyPost_ret (v := rerr 2 (p : Int)) (by simp [results, Tryd.results29, go_sem, q0, q1]; rfl) rfl ?_
    exact ⟨rfl, bel_two HB1.out (Nat.le_refl _)⟩
end Go.Proofs.YtohoncgkekiihaaDoor
