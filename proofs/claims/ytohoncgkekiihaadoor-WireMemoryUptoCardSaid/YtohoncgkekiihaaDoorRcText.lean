/-
  The document's cursor: Text.
-/
import Derived.Test.YtohoncgkekiihaaDoorRcRaw
namespace Go.Proofs.YtohoncgkekiihaaDoor
open Go.RowKit FerryCrc
set_option linter.unusedVariables false
set_option linter.unusedSimpArgs false

set_option maxRecDepth 100000 in
set_option maxHeartbeats 800000 in
theorem rtext_short (d g len cap p bd : Nat) (L : List Nat) (most : Int) (w : World) (h : Doc w d g len cap p bd L) (hs : bd - p < 2) :
    Calls Tryd.prog 59 #[.pointer (some ⟨d, 0, none⟩), .int .i64 most] w fun e w' => DAns w d g len cap bd L (.string (str [])) 1 (p : Int) p e w' := by
  have H0 := hide h
  have HT := hide (two_alloc w (.int .i64 0) (.int .i64 0) 31)
  have HB : Hid (Below w.heap.size w (w.alloc (.cells #[.int .i64 0, .int .i64 0] 31))) := (Below.refl _ _).alloc (Nat.le_refl _) _
  have H := hide (h.below HB.out)
  have HC := hide (fun w2 (h2 : Doc w2 d g len cap p bd L) => rleft_any d g len cap p bd L w2 h2)
  have hlt : ((bd - p : Nat) : Int) < 2 := by omega
  generalize bd - p = q at *
  clear h
  go_enter Tryd.func59, Tryd.ntmps59
  go_wp2_with fail
  refine Calls.mono (HC.out _ H.out) ?_
  rintro e w1 ⟨rfl, hb⟩
  have HT1 := hide (HT.out.below hb)
  have H1 := hide (H.out.below hb)
  have HB1 := hide (chain HB.out hb)
  have c1 := H1.out.c1
  have t0 := HT1.out.c0
  have t1 := HT1.out.c1
  have f0 := HT1.out.f0
  have f1 := HT1.out.f1
  clear hb
  go_wp2
  go_region
  all_goals go_wp2
  all_goals
    have q0 := (HT1.out.set (.int .i64 1) (.int .i64 (p : Int))).c0
    have q1 := (HT1.out.set (.int .i64 1) (.int .i64 (p : Int))).c1
    have HW := hide ((bel_two (u := .int .i64 1) (v := .int .i64 (p : Int)) HB1.out (Nat.le_refl _)).drew)
    (try simp only [Exit.inBlock, Exit.then])
    refine bodyPost_ret (v := .tuple #[.string (str []), rerr 1 (p : Int)]) (by simp [results, Tryd.results59, go_sem, q0, q1]; exact ⟨rfl, rfl⟩) rfl ?_
    exact ⟨rfl, H0.out.below HW.out, Frm.ofBelow HW.out⟩

set_option maxRecDepth 100000 in
set_option maxHeartbeats 800000 in
theorem rtext_long (d g len cap p bd : Nat) (L : List Nat) (most : Int) (w : World) (h : Doc w d g len cap p bd L) (hs : 2 ≤ bd - p) (hm : most < (nbe (cut L p 2) : Int)) :
    Calls Tryd.prog 59 #[.pointer (some ⟨d, 0, none⟩), .int .i64 most] w fun e w' => DAns w d g len cap bd L (.string (str [])) 5 (p : Int) p e w' := by
  have H0 := hide h
  have HT := hide (two_alloc w (.int .i64 0) (.int .i64 0) 31)
  have HB : Hid (Below w.heap.size w (w.alloc (.cells #[.int .i64 0, .int .i64 0] 31))) := (Below.refl _ _).alloc (Nat.le_refl _) _
  have H := hide (h.below HB.out)
  have HC := hide (fun w2 (h2 : Doc w2 d g len cap p bd L) => rleft_any d g len cap p bd L w2 h2)
  have HP := hide (fun w2 (h2 : Doc w2 d g len cap p bd L) => rvalue_any d g len cap p bd L p 2 w2 h2 (by decide) (by have := h.most; omega))
  have hlt : ¬ ((bd - p : Nat) : Int) < 2 := by omega
  have hlt2 : ¬ (bd - p : Nat) < 2 := by omega
  have hq := cut_lt h.bts.small p 2
  have hq2 := h.most
  have hq3 := h.bts.most
  have hq4 := h.bts.fit
  have hq5 := h.le
  have hdl : d < w.heap.size := h.lt
  generalize bd - p = q at *
  generalize nbe (cut L p 2) = m at *
  clear h hs
  go_enter Tryd.func59, Tryd.ntmps59
  go_wp2_with fail
  refine Calls.mono (HC.out _ H.out) ?_
  rintro e w1 ⟨rfl, hb⟩
  have HT1 := hide (HT.out.below hb)
  have H1 := hide (H.out.below hb)
  have HB1 := hide (chain HB.out hb)
  have c1 := H1.out.c1
  have t0 := HT1.out.c0
  have t1 := HT1.out.c1
  have f0 := HT1.out.f0
  have f1 := HT1.out.f1
  clear hb
  go_wp2_with fail
  refine Calls.mono (HP.out w1 H1.out) ?_
  rintro e w2 ⟨rfl, rfl⟩
  go_wp2
  go_region
  all_goals go_wp2
  all_goals
    have q0 := (HT1.out.set (.int .i64 5) (.int .i64 (p : Int))).c0
    have q1 := (HT1.out.set (.int .i64 5) (.int .i64 (p : Int))).c1
    have HW := hide ((bel_two (u := .int .i64 5) (v := .int .i64 (p : Int)) HB1.out (Nat.le_refl _)).drew)
    (try simp only [Exit.inBlock, Exit.then])
    refine bodyPost_ret (v := .tuple #[.string (str []), rerr 5 (p : Int)]) (by simp [results, Tryd.results59, go_sem, q0, q1]; exact ⟨rfl, rfl⟩) rfl ?_
    exact ⟨rfl, H0.out.below HW.out, Frm.ofBelow HW.out⟩

set_option maxRecDepth 100000 in
set_option maxHeartbeats 800000 in
theorem rtext_cut (d g len cap p bd : Nat) (L : List Nat) (most : Int) (w : World) (h : Doc w d g len cap p bd L) (hs : 2 ≤ bd - p) (hm : (nbe (cut L p 2) : Int) ≤ most) (hn : bd - (p + 2) < nbe (cut L p 2)) :
    Calls Tryd.prog 59 #[.pointer (some ⟨d, 0, none⟩), .int .i64 most] w fun e w' => DAns w d g len cap bd L (.string (str [])) 1 ((p + 2 : Nat) : Int) p e w' := by
  have H0 := hide h
  have HT := hide (two_alloc w (.int .i64 0) (.int .i64 0) 31)
  have HB : Hid (Below w.heap.size w (w.alloc (.cells #[.int .i64 0, .int .i64 0] 31))) := (Below.refl _ _).alloc (Nat.le_refl _) _
  have H := hide (h.below HB.out)
  have HC := hide (fun w2 (h2 : Doc w2 d g len cap p bd L) => rleft_any d g len cap p bd L w2 h2)
  have HP := hide (fun w2 (h2 : Doc w2 d g len cap p bd L) => rvalue_any d g len cap p bd L p 2 w2 h2 (by decide) (by have := h.most; omega))
  have hlt : ¬ ((bd - p : Nat) : Int) < 2 := by omega
  have hlt2 : ¬ (bd - p : Nat) < 2 := by omega
  have hq := cut_lt h.bts.small p 2
  have hq2 := h.most
  have hq3 := h.bts.most
  have hq4 := h.bts.fit
  have hq5 := h.le
  have hdl : d < w.heap.size := h.lt
  generalize nbe (cut L p 2) = m at *
  obtain ⟨b0, hb0⟩ : ∃ b0, p + 2 = b0 := ⟨_, rfl⟩
  rw [hb0]
  have e1 : (p : Int) + 2 = (b0 : Int) := by omega
  have hwb : IntKind.i64.wrap (b0 : Int) = (b0 : Int) := by rw [IntKind.wrap_i64]; omega
  have hws : IntKind.i64.wrap (((bd - p : Nat) : Int) - 2) = ((bd - p : Nat) : Int) - 2 := by rw [IntKind.wrap_i64]; omega
  have e2 : ((bd - p : Nat) : Int) - 2 < (m : Int) := by omega
  have hmm : ¬ most < (m : Int) := by omega
  generalize bd - p = q at *
  clear h hs hm hn hb0
  go_enter Tryd.func59, Tryd.ntmps59
  go_wp2_with fail
  refine Calls.mono (HC.out _ H.out) ?_
  rintro e w1 ⟨rfl, hb⟩
  have HT1 := hide (HT.out.below hb)
  have H1 := hide (H.out.below hb)
  have HB1 := hide (chain HB.out hb)
  clear hb
  have c1 := H1.out.c1
  go_wp2_with fail
  refine Calls.mono (HP.out w1 H1.out) ?_
  rintro e w2 ⟨rfl, rfl⟩
  go_wp2_with fail
  refine Calls.mono (HC.out w1 H1.out) ?_
  rintro e w2 ⟨rfl, hb⟩
  have HT2 := hide (HT1.out.below hb)
  have H2 := hide (H1.out.below hb)
  have HB2 := hide (chain HB1.out hb)
  clear c1 HT1 H1 HB1
  have HT1 := HT2
  have HB1 := HB2
  have H1 := H2
  have c1 := H1.out.c1
  have t0 := HT1.out.c0
  have t1 := HT1.out.c1
  have f0 := HT1.out.f0
  have f1 := HT1.out.f1
  clear hb
  go_wp2
  go_region
  all_goals go_wp2
  all_goals
    have q0 := (HT1.out.set (.int .i64 1) (.int .i64 (b0 : Int))).c0
    have q1 := (HT1.out.set (.int .i64 1) (.int .i64 (b0 : Int))).c1
    have HW := hide ((bel_two (u := .int .i64 1) (v := .int .i64 (b0 : Int)) HB1.out (Nat.le_refl _)).drew)
    (try simp only [Exit.inBlock, Exit.then])
    refine bodyPost_ret (v := .tuple #[.string (str []), rerr 1 (b0 : Int)]) (by simp [results, Tryd.results59, go_sem, q0, q1]; exact ⟨rfl, rfl⟩) rfl ?_
    exact ⟨rfl, H0.out.below HW.out, Frm.ofBelow HW.out⟩

set_option maxRecDepth 100000 in
set_option maxHeartbeats 800000 in
theorem rtext_ok (d g len cap p bd : Nat) (L : List Nat) (most : Int) (w : World) (h : Doc w d g len cap p bd L) (hs : 2 ≤ bd - p) (hm : (nbe (cut L p 2) : Int) ≤ most) (hn : nbe (cut L p 2) ≤ bd - (p + 2)) :
    Calls Tryd.prog 59 #[.pointer (some ⟨d, 0, none⟩), .int .i64 most] w fun e w' => DAns w d g len cap bd L (.string (str (cut L (p + 2) (nbe (cut L p 2))))) 0 (-1) (p + 2 + nbe (cut L p 2)) e w' := by
  have H0 := hide h
  have HT := hide (two_alloc w (.int .i64 0) (.int .i64 0) 31)
  have HB : Hid (Below w.heap.size w (w.alloc (.cells #[.int .i64 0, .int .i64 0] 31))) := (Below.refl _ _).alloc (Nat.le_refl _) _
  have H := hide (h.below HB.out)
  have HC := hide (fun w2 (h2 : Doc w2 d g len cap p bd L) => rleft_any d g len cap p bd L w2 h2)
  have HP := hide (fun w2 (h2 : Doc w2 d g len cap p bd L) => rvalue_any d g len cap p bd L p 2 w2 h2 (by decide) (by have := h.most; omega))
  have hlt : ¬ ((bd - p : Nat) : Int) < 2 := by omega
  have hlt2 : ¬ (bd - p : Nat) < 2 := by omega
  have hq := cut_lt h.bts.small p 2
  have hq2 := h.most
  have hq3 := h.bts.most
  have hq4 := h.bts.fit
  have hq5 := h.le
  have hdl : d < w.heap.size := h.lt
  generalize nbe (cut L p 2) = m at *
  obtain ⟨b0, hb0⟩ : ∃ b0, p + 2 = b0 := ⟨_, rfl⟩
  obtain ⟨hi, hhi⟩ : ∃ hi, b0 + m = hi := ⟨_, rfl⟩
  obtain ⟨u, hu⟩ : ∃ u, 2 + m = u := ⟨_, rfl⟩
  rw [hb0, hhi]
  have e1 : (p : Int) + 2 = (b0 : Int) := by omega
  have e3 : (b0 : Int) + (m : Int) = (hi : Int) := by omega
  have e4 : (2 : Int) + (m : Int) = (u : Int) := by omega
  have e5 : (p : Int) + (u : Int) = (hi : Int) := by omega
  have hwb : IntKind.i64.wrap (b0 : Int) = (b0 : Int) := by rw [IntKind.wrap_i64]; omega
  have hwh : IntKind.i64.wrap (hi : Int) = (hi : Int) := by rw [IntKind.wrap_i64]; omega
  have hwu : IntKind.i64.wrap (u : Int) = (u : Int) := by rw [IntKind.wrap_i64]; omega
  have hws : IntKind.i64.wrap (((bd - p : Nat) : Int) - 2) = ((bd - p : Nat) : Int) - 2 := by rw [IntKind.wrap_i64]; omega
  have e2 : ¬ ((bd - p : Nat) : Int) - 2 < (m : Int) := by omega
  have hmm : ¬ most < (m : Int) := by omega
  have i1 : (0 : Int) ≤ (b0 : Int) := by omega
  have i2 : (b0 : Int) ≤ (hi : Int) := by omega
  have i3 : (hi : Int) ≤ (cap : Int) := by omega
  have n2 : b0 ≤ hi := by omega
  have n3 : hi ≤ cap := by omega
  have n4 : hi - b0 = m := by omega
  have hpb : hi ≤ bd := by omega
  have HPB : Hid (b0 + m = hi) := hhi
  generalize bd - p = q at *
  clear h hs hm hn hb0 hhi hu
  go_enter Tryd.func59, Tryd.ntmps59
  go_wp2_with fail
  refine Calls.mono (HC.out _ H.out) ?_
  rintro e w1 ⟨rfl, hb⟩
  have HT1 := hide (HT.out.below hb)
  have H1 := hide (H.out.below hb)
  have HB1 := hide (chain HB.out hb)
  clear hb
  have c1 := H1.out.c1
  go_wp2_with fail
  refine Calls.mono (HP.out w1 H1.out) ?_
  rintro e w2 ⟨rfl, rfl⟩
  go_wp2_with fail
  refine Calls.mono (HC.out w1 H1.out) ?_
  rintro e w2 ⟨rfl, hb⟩
  have HT2 := hide (HT1.out.below hb)
  have H2 := hide (H1.out.below hb)
  have HB2 := hide (chain HB1.out hb)
  clear hb c1
  have c0 := H2.out.c0
  have c1 := H2.out.c1
  have hdr : ∀ n, Below w2.heap.size w2 (w2.drewN n) := fun n => ⟨rfl, rfl, rfl, Nat.le_refl _, fun _ _ => rfl⟩
  go_wp2_with fail
  by_cases hp : b0 < cap
  · have hcap : ¬ cap = b0 := by omega
    have hcap2 : ¬ b0 = cap := by omega
    have HD : Hid (Bts w2 (some ⟨g, b0, none⟩) m (cap - b0) (cut L b0 m)) := by
      have := (H2.out.bts.drop b0 (by omega)).take m (by have := HPB.out; omega)
      rw [Nat.zero_add] at this
      exact this
    have s1 := fun n => bts_string (HD.out.below (hdr n))
    obtain ⟨S, hS⟩ : ∃ S, str (cut L b0 m) = S := ⟨_, rfl⟩
    rw [hS] at s1
    have HSS := hide hS
    have HDR := hide hdr
    clear hdr hS
    refine wp_region_quiet_lit (by kernel_rfl) (by kernel_rfl) ?_
    repeat (go_big_quiet_step (fail))
    refine wpQuiet_nil ?_
    intro _ hw'
    obtain ⟨nq, rfl⟩ := hw'
    have H3 := hide (H2.out.below (HDR.out nq))
    have HT3 := hide (HT2.out.below (HDR.out nq))
    have HB3 := hide (chain HB2.out (HDR.out nq))
    clear c0 c1 s1 HDR
    generalize w2.drewN nq = w3 at *
    have c1 := H3.out.c1
    have f1 := H3.out.f1
    go_wp2_with fail
    have HMV := hide (H3.out.move (q := hi) hpb)
    have HF := hide ((Frm.ofBelow (S := fun j => j = d) HB3.out).trans (frm_setCell w3 ⟨d, 1, none⟩ (.int .i64 (hi : Int))) (fun j _ t => t))
    have HT4 := hide (HT3.out.far (b' := d) (o := 1) (u := .int .i64 (hi : Int)) (by omega))
    clear c1 f1
    generalize w3.setCell ⟨d, 1, none⟩ (.int .i64 (hi : Int)) = W4 at *
    refine Calls.mono (rnone_any W4) ?_
    rintro e w5 ⟨rfl, hb⟩
    have HT5 := hide (HT4.out.below hb)
    have H5 := hide (HMV.out.below hb)
    have HF5 := hide (HF.out.trans (Frm.ofBelow (S := fun _ => False) hb) (fun j _ t => t.elim))
    have t0 := HT5.out.c0
    have t1 := HT5.out.c1
    have f0 := HT5.out.f0
    have f1 := HT5.out.f1
    clear hb
    unfold rerr
    go_wp2
    have q0 := (HT5.out.set (.int .i64 0) (.int .i64 (-1))).c0
    have q1 := (HT5.out.set (.int .i64 0) (.int .i64 (-1))).c1
    have HW := hide (frm_two (u := .int .i64 0) (v := .int .i64 (-1)) HF5.out (Nat.le_refl _))
    have HD5 := hide (H5.out.two (b := w.heap.size) (u := .int .i64 0) (v := .int .i64 (-1)) (by omega) (by have := H0.out.ne.2; omega))
    (try simp only [Exit.inBlock, Exit.then])
    refine bodyPost_ret (v := .tuple #[.string S, rerr 0 (-1)]) (by simp [results, Tryd.results59, go_sem, q0, q1]; rfl) rfl ?_
    exact ⟨by rw [HSS.out]; rfl, HD5.out, HW.out⟩
  · obtain rfl : b0 = cap := by omega
    obtain rfl : m = 0 := by omega
    obtain rfl : b0 = hi := by omega
    have s1 := fun (a : Option Addr) (n : Nat) => bts_string (nil_bts (w2.drewN n) a L b0)
    obtain ⟨S, hS⟩ : ∃ S, str (cut L b0 0) = S := ⟨_, rfl⟩
    rw [hS] at s1
    have HSS := hide hS
    have HDR := hide hdr
    clear hdr hS
    refine wp_region_quiet_lit (by kernel_rfl) (by kernel_rfl) ?_
    repeat (go_big_quiet_step (fail))
    refine wpQuiet_nil ?_
    intro _ hw'
    obtain ⟨nq, rfl⟩ := hw'
    have H3 := hide (H2.out.below (HDR.out nq))
    have HT3 := hide (HT2.out.below (HDR.out nq))
    have HB3 := hide (chain HB2.out (HDR.out nq))
    clear c0 c1 s1 HDR
    generalize w2.drewN nq = w3 at *
    have c1 := H3.out.c1
    have f1 := H3.out.f1
    go_wp2_with fail
    have HMV := hide (H3.out.move (q := b0) hpb)
    have HF := hide ((Frm.ofBelow (S := fun j => j = d) HB3.out).trans (frm_setCell w3 ⟨d, 1, none⟩ (.int .i64 (b0 : Int))) (fun j _ t => t))
    have HT4 := hide (HT3.out.far (b' := d) (o := 1) (u := .int .i64 (b0 : Int)) (by omega))
    clear c1 f1
    generalize w3.setCell ⟨d, 1, none⟩ (.int .i64 (b0 : Int)) = W4 at *
    refine Calls.mono (rnone_any W4) ?_
    rintro e w5 ⟨rfl, hb⟩
    have HT5 := hide (HT4.out.below hb)
    have H5 := hide (HMV.out.below hb)
    have HF5 := hide (HF.out.trans (Frm.ofBelow (S := fun _ => False) hb) (fun j _ t => t.elim))
    have t0 := HT5.out.c0
    have t1 := HT5.out.c1
    have f0 := HT5.out.f0
    have f1 := HT5.out.f1
    clear hb
    unfold rerr
    go_wp2
    have q0 := (HT5.out.set (.int .i64 0) (.int .i64 (-1))).c0
    have q1 := (HT5.out.set (.int .i64 0) (.int .i64 (-1))).c1
    have HW := hide (frm_two (u := .int .i64 0) (v := .int .i64 (-1)) HF5.out (Nat.le_refl _))
    have HD5 := hide (H5.out.two (b := w.heap.size) (u := .int .i64 0) (v := .int .i64 (-1)) (by omega) (by have := H0.out.ne.2; omega))
    (try simp only [Exit.inBlock, Exit.then])
    refine bodyPost_ret (v := .tuple #[.string S, rerr 0 (-1)]) (by simp [results, Tryd.results59, go_sem, q0, q1]; rfl) rfl ?_
    exact ⟨by rw [HSS.out]; rfl, HD5.out, HW.out⟩
end Go.Proofs.YtohoncgkekiihaaDoor
